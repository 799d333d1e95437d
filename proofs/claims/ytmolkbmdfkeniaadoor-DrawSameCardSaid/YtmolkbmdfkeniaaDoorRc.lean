import Derived.Test.YtmolkbmdfkeniaaDoorRb
namespace Go.Proofs.YtmolkbmdfkeniaaDoor.Dr
set_option maxRecDepth 100000
open Go.ChangeShapes Go.WideShapes Go.ChangeAt Go.RowKit Go.Proofs.YtmolkbmdfkeniaaDoor.Tn

/-! ### the document's answer: Choose -/
set_option maxHeartbeats 4000000 in
theorem rchoose_any (w : World) (s : List Int) (c : Int) (sp : Option Addr) (cap N : Nat) (ws : List Int) (hs : Seed s) (h0 : 0 ≤ c) (h1 : c ≤ mostC) (hN : ws.length = N) (hl : Nums w sp cap ws) :
    Calls Tryd.prog 20 #[dgV s, .int .i64 c, .slice sp N cap] w fun e w' => e = .returned (three (chooseD (numV s) c ws)) ∧ Below w.heap.size w w' := by
  have hNm : N ≤ 9223372036854775807 := by rw [← hN]; exact hl.len
  have HZ := Lib.hid (row_dig hs.1)
  have HN := Lib.hid hN
  have HL := Lib.hid hl
  have HB0 : Hid (H1 w s (w.alloc (.cells (rowB s) 23))) := Lib.hid (H1.made w s)
  have HRb := Lib.hid (fun W A a1 a2 => rbelow_any W s c A hs h0 h1 a1 a2)
  have HFt := Lib.hid (fun A => belowD_fit (numV s) c A h1)
  change Calls Tryd.prog 20 #[.agg (rowB s), .int .i64 c, .slice sp N cap] w _
  by_cases hz1 : N < 1
  · have hD : chooseD (numV s) c ws = (0, 0, 13) := by unfold chooseD; rw [if_pos (by omega)]
    rw [hD]
    have d1 : decide ((N : Int) < 1) = true := by simp; omega
    clear hN hl hD hs
    go_enter Tryd.func20, Tryd.ntmps20
    go_wp2
    go_ret3
    exact ⟨rfl, HB0.out.below⟩
  have d1 : decide ((N : Int) < 1) = false := by simp; omega
  by_cases hz2 : 512 < N
  · have hD : chooseD (numV s) c ws = (0, 0, 13) := by unfold chooseD; rw [if_pos (by omega)]
    rw [hD]
    have d2 : decide ((512 : Int) < (N : Int)) = true := by simp; omega
    clear hN hl hD hs
    go_enter Tryd.func20, Tryd.ntmps20
    go_wp2
    go_ret3
    exact ⟨rfl, HB0.out.below⟩
  have d2 : decide ((512 : Int) < (N : Int)) = false := by simp; omega
  have hlen : ¬ (ws.length < 1 ∨ 512 < ws.length) := by omega
  have HD : Hid (chooseD (numV s) c ws = if wBad ws then (0, 0, 10) else if ws.sum = 0 then (0, 0, 14)
    else if (belowD (numV s) c ws.sum).2.2 = 0 then (((atW ws (belowD (numV s) c ws.sum).1 : Nat) : Int), (belowD (numV s) c ws.sum).2.1, 0) else (0, 0, (belowD (numV s) c ws.sum).2.2)) := Lib.hid (by unfold chooseD; rw [if_neg hlen])
  obtain ⟨R, hR⟩ : ∃ R, chooseD (numV s) c ws = R := ⟨_, rfl⟩
  rw [hR] at HD ⊢
  clear hN hl hR hlen hs
  go_enter Tryd.func20, Tryd.ntmps20
  go_wp2
  have HB1 : Hid (H1 w s (w.alloc (.cells (rowB s) 23))) := HB0
  go_loop [9, 10] (fun S i => ∃ k : Nat, k ≤ N ∧ i = .int .i64 k ∧ S = .int .i64 (ws.take k).sum ∧ (∀ j, j < k → 0 ≤ ws.getD j 0 ∧ ws.getD j 0 ≤ 2147483648) ∧ 0 ≤ (ws.take k).sum ∧ (ws.take k).sum ≤ k * 2147483648) (fun _ i => N - (intOf i).toNat)
  case atStart => exact ⟨0, by omega, rfl, by simp, fun j hj => absurd hj (by omega), by simp, by simp⟩
  case round =>
    obtain ⟨k, hk, rfl, rfl, hall, hs0, hs1⟩ := hrel
    have HA := Lib.hid hall
    clear hall
    by_cases hlt : k < N
    · have hdt : decide (k < N) = true := by simp; omega
      obtain ⟨cc, o, rfl, hck⟩ := (HL.out.below HB0.out.below).at_ k (by rw [HN.out]; exact hlt)
      have hS := sumT_succ ws k (by rw [HN.out]; exact hlt)
      have hmem : ws.getD k 0 ∈ ws := by
        have : k < ws.length := by rw [HN.out]; exact hlt
        simp [this]
      have HM := Lib.hid hmem
      obtain ⟨x, hx⟩ : ∃ x, ws.getD k 0 = x := ⟨_, rfl⟩
      rw [hx] at hck hS HM
      have HX := Lib.hid hx
      have HSu := Lib.hid hS
      clear hx hS hmem
      by_cases hx0 : x < 0
      · have e1 : decide (x < 0) = true := by simpa using hx0
        have hTT := HD.out
        rw [if_pos ⟨x, HM.out, Or.inl hx0⟩] at hTT
        subst hTT
        clear hx0 HD HSu hs0 hs1
        go_wp2
        go_ret3
        exact ⟨rfl, HB0.out.below⟩
      have e1 : decide (x < 0) = false := by simpa using hx0
      by_cases hx1 : 2147483648 < x
      · have e2 : decide (2147483648 < x) = true := by simpa using hx1
        have hTT := HD.out
        rw [if_pos ⟨x, HM.out, Or.inr hx1⟩] at hTT
        subst hTT
        clear hx0 hx1 HD HSu hs0 hs1
        go_wp2
        go_ret3
        exact ⟨rfl, HB0.out.below⟩
      have e2 : decide (2147483648 < x) = false := by simpa using hx1
      obtain ⟨S, hS⟩ : ∃ S, (ws.take k).sum = S := ⟨_, rfl⟩
      rw [hS] at HSu hs0 hs1 ⊢
      have hks : S ≤ 512 * 2147483648 := by
        have : (k : Int) * 2147483648 ≤ 512 * 2147483648 := by omega
        omega
      have hw : IntKind.i64.wrap (S + x) = S + x := IntWalk.i64_in _ (by omega)
      have HB1 := Lib.hid (show 0 ≤ S + x ∧ S + x ≤ ((k + 1 : Nat) : Int) * 2147483648 by omega)
      have HXb := Lib.hid (show 0 ≤ x ∧ x ≤ 2147483648 by omega)
      clear hS hs1 hx0 hx1
      go_wp2
      go_round
      case rel =>
        refine ⟨k + 1, by omega, by go_num, by rw [HSu.out], fun j hj => ?_, by rw [HSu.out]; exact HB1.out.1, by rw [HSu.out]; exact HB1.out.2⟩
        by_cases hjk : j = k
        · subst hjk; rw [HX.out]; exact HXb.out
        · exact HA.out j (by omega)
      case measure => simp [intOf]; omega
    · obtain rfl : k = N := by omega
      have hdf : decide (k < k) = false := by simp
      have hnb : ¬ wBad ws := by
        rintro ⟨x, hx, hb⟩
        obtain ⟨j, hj, e⟩ := List.mem_iff_getElem.1 hx
        have := HA.out j (by rw [← HN.out]; exact hj)
        have e2 : ws.getD j 0 = x := by simp [hj, e]
        rw [e2] at this
        omega
      have HNb := Lib.hid (not_bad hnb)
      have hTT := HD.out
      rw [if_neg hnb] at hTT
      have hfull : ws.take k = ws := List.take_of_length_le (by rw [HN.out]; exact Nat.le_refl _)
      rw [hfull] at hs0 hs1 ⊢
      obtain ⟨S, hS⟩ : ∃ S, ws.sum = S := ⟨_, rfl⟩
      have HAs := Lib.hid hS
      rw [hS] at hTT hs0 hs1 ⊢
      clear hnb hfull HA HD hlt hS
      by_cases hz : S = 0
      · have e1 : (S == 0) = true := by simpa using hz
        rw [if_pos hz] at hTT
        subst hTT
        clear hz hs0 hs1
        go_wp2
        go_ret3
        exact ⟨rfl, HB0.out.below⟩
      · have e1 : (S == 0) = false := by simpa using hz
        rw [if_neg hz] at hTT
        have hSm : S ≤ 512 * 2147483648 := by
          have : (k : Int) * 2147483648 ≤ 512 * 2147483648 := by omega
          omega
        have HBe := Lib.hid (fun W => HRb.out W S (by omega) (by omega))
        have HFit := Lib.hid (HFt.out S)
        obtain ⟨B, hB⟩ : ∃ B, belowD (numV s) c S = B := ⟨_, rfl⟩
        rw [hB] at HBe HFit hTT
        obtain ⟨x, f, er⟩ := B
        dsimp only at HFit hTT
        have HTT := Lib.hid hTT
        clear hz hB hTT
        by_cases hE : er = 0
        · subst hE
          have hRR := HTT.out
          rw [if_pos rfl] at hRR
          have HF2 := Lib.hid (HFit.out.2.2.1 rfl)
          have HRR := Lib.hid hRR
          clear hRR HTT
          go_wp2_with (refine wpList_load_row rfl 23 (.tmp 3) rfl w.heap.size rfl 23 (rowB s) (0, 0) _ HB0.out.d Tryd.underlying23 rfl HZ.out ?_)
          refine (HBe.out _).mono ?_
          rintro e w3 ⟨rfl, hb3⟩
          have HB3 := Lib.hid (HB0.out.below.trans (hb3.mono HB0.out.below.size))
          clear hb3
          have hL3 := HL.out.below HB3.out
          obtain ⟨c0, o0, hsp, _⟩ := hL3.at_ 0 (by rw [HN.out]; omega)
          subst hsp
          have HC : Hid (∀ j, j < k → w3.cell? ⟨c0, o0 + j, none⟩ = some (.int .i64 (ws.getD j 0))) := Lib.hid (fun j hj => by
            obtain ⟨c1, o1, e1, hc1⟩ := hL3.at_ j (by rw [HN.out]; exact hj)
            cases e1
            exact hc1)
          clear hL3
          unfold three
          dsimp only
          have hst : ∃ j : Nat, j < k ∧ Value.int .i64 0 = .int .i64 j ∧ Value.int .i64 x = .int .i64 (x - (ws.take j).sum) ∧ 0 ≤ x - (ws.take j).sum ∧ atW ws x = j + atW (ws.drop j) (x - (ws.take j).sum) := ⟨0, by omega, rfl, by simp, by simpa using HF2.out.1, by simp⟩
          go_wp2
          go_loop [11, 14] (fun X i => ∃ j : Nat, j < k ∧ i = .int .i64 j ∧ X = .int .i64 (x - (ws.take j).sum) ∧ 0 ≤ x - (ws.take j).sum ∧ atW ws x = j + atW (ws.drop j) (x - (ws.take j).sum)) (fun _ i => k - (intOf i).toNat)
          case atStart => exact hst
          case round =>
            clear hst
            obtain ⟨j, hj, rfl, rfl, hge, hq⟩ := hrel
            have hks := sumT_succ ws j (by rw [HN.out]; exact hj)
            have hdc := drop_cons2 (l := ws) (k := j) (by rw [HN.out]; exact hj)
            have hcj := HC.out j hj
            rw [hdc, atW] at hq
            have hS0 : 0 ≤ (ws.take j).sum := (sum_pos (ws.take j) 2147483648 (fun y hy => HNb.out y (List.mem_of_mem_take hy))).1
            have hxS := HF2.out.2
            have hym : ws.getD j 0 ∈ ws := by
              have : j < ws.length := by rw [HN.out]; exact hj
              simp [this]
            have hyr := HNb.out _ hym
            obtain ⟨y, hy⟩ : ∃ y, ws.getD j 0 = y := ⟨_, rfl⟩
            rw [hy] at hcj hks hq hyr
            obtain ⟨z, hz⟩ : ∃ z, x - (ws.take j).sum = z := ⟨_, rfl⟩
            rw [hz] at hge hq ⊢
            have hzs : z ≤ 512 * 2147483648 := by omega
            by_cases hlt : y ≤ z
            · have hdt : decide (y ≤ z) = true := by simpa using hlt
              have hj1 : j + 1 < k := by
                apply Decidable.byContradiction
                intro hh
                have h7 : ws.take (j + 1) = ws := List.take_of_length_le (by rw [HN.out]; omega)
                rw [h7, HAs.out] at hks
                omega
              rw [if_pos hlt] at hq
              have HS2 := Lib.hid (show x - (ws.take (j + 1)).sum = z - y by rw [hks]; omega)
              have HQ := Lib.hid hq
              have HZy := Lib.hid (show 0 ≤ z - y by omega)
              have hw : IntKind.i64.wrap (z - y) = z - y := IntWalk.i64_in _ (by omega)
              have hw1 : IntKind.i64.wrap ((j : Int) + 1) = ((j + 1 : Nat) : Int) := by rw [IntWalk.i64_in _ (by omega)]; rfl
              clear hks hq hdc hS0 hxS hym hyr hy hz hlt
              go_wp2
              go_round
              case rel => exact ⟨j + 1, hj1, rfl, by rw [HS2.out], by rw [HS2.out]; exact HZy.out, by rw [HS2.out, HQ.out]; omega⟩
              case measure => simp [intOf]; omega
            · have hdf : decide (y ≤ z) = false := by simpa using hlt
              rw [if_neg hlt] at hq
              have HQ := Lib.hid hq
              clear hks hq hdc hS0 hxS hym hyr hy hz hlt
              go_wp2
              go_ret3
              exact ⟨by rw [HRR.out, HQ.out]; rfl, HB3.out⟩
        · have hRR := HTT.out
          rw [if_neg hE] at hRR
          have HRR := Lib.hid hRR
          have e2 := ne_of0 hE
          clear hRR HTT hE
          go_wp2_with (refine wpList_load_row rfl 23 (.tmp 3) rfl w.heap.size rfl 23 (rowB s) (0, 0) _ HB0.out.d Tryd.underlying23 rfl HZ.out ?_)
          refine (HBe.out _).mono ?_
          rintro e w3 ⟨rfl, hb3⟩
          have HB3 := Lib.hid (HB0.out.below.trans (hb3.mono HB0.out.below.size))
          clear hb3
          unfold three
          dsimp only
          go_wp2
          go_ret3
          exact ⟨by rw [HRR.out]; rfl, HB3.out⟩
end Go.Proofs.YtmolkbmdfkeniaaDoor.Dr
