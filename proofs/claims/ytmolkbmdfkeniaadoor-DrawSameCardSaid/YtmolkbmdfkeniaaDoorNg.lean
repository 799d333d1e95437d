import Derived.Test.YtmolkbmdfkeniaaDoorNf
namespace Go.Proofs.YtmolkbmdfkeniaaDoor.Dr
set_option maxRecDepth 100000
open Go.ChangeShapes Go.WideShapes Go.ChangeAt Go.RowKit Go.Proofs.YtmolkbmdfkeniaaDoor.Tn

/-! ### the landed code: Choose -/
theorem Nums.grown {w w' : World} {sp : Option Addr} {cap g : Nat} {l : List Int} (h : Nums w sp cap l) (hg : w.grownBy w' (some g)) (ha : Apart sp g l) : Nums w' sp cap l :=
  ⟨h.le, h.max, h.nul, fun h0 => by
    obtain ⟨c, o, e, hl⟩ := h.lies h0
    refine ⟨c, o, e, fun i v hv => ?_⟩
    have hc := hl i v hv
    have hb := hg.block c (block_lt_of_cell hc) (fun e2 => ha (by simpa using h0) _ e (Option.some.inj e2))
    rw [← hc]
    unfold World.cell?
    rw [hb]⟩
theorem apart_old {w : World} {sp : Option Addr} {cap g : Nat} {l : List Int} (h : Nums w sp cap l) (hg : w.heap.size ≤ g) : Apart sp g l := fun h0 a e => by
  obtain ⟨c, o, e2, hl⟩ := h.at_ 0 h0
  rw [e] at e2
  cases e2
  have := block_lt_of_cell hl
  simp only at this ⊢
  omega
/-- two numbers side by side do not lie in a stream -/
theorem apart_two {w : World} {sp : Option Addr} {cap g : Nat} {l : List Int} {s : List Int} {c : Int} (h : Nums w sp cap l) (hs : St8 w g s c) (h2 : 2 ≤ l.length) : Apart sp g l := fun h0 a e => by
  obtain ⟨c0, o0, e2, hl0⟩ := h.at_ 0 h0
  obtain ⟨c1, o1, e3, hl1⟩ := h.at_ 1 h2
  rw [e] at e2 e3
  cases e2
  cases e3
  rintro rfl
  rw [cell_of_row _ _ _ _ _ _ hs.row] at hl0 hl1
  have hz := rowS_size hs.seed.1 c
  have b1 := (Array.getElem?_eq_some_iff.1 hl1).1
  have hlt : o0 + 0 < (s.map (Value.int .u8)).length := by rw [List.length_map, hs.seed.1]; omega
  have h3 := rowS_seed hs.seed.1 c (o0 + 0) _ (List.getElem?_eq_getElem hlt)
  rw [h3] at hl0
  simp at hl0
theorem sumT_succ (l : List Int) (k : Nat) (h : k < l.length) : (l.take (k + 1)).sum = (l.take k).sum + l.getD k 0 := Tn.sum_take l k h
def togE (ws : List Int) : Int := if ws.length < 1 ∨ 512 < ws.length then 13 else if wBad ws then 10 else if ws.sum = 0 then 14 else 0
theorem chooseD_no {num : Int → Int} {c : Int} {ws : List Int} (h : togE ws ≠ 0) : chooseD num c ws = (0, 0, togE ws) := by
  unfold chooseD
  unfold togE at h ⊢
  by_cases h1 : ws.length < 1 ∨ 512 < ws.length
  · rw [if_pos h1, if_pos h1]
  rw [if_neg h1] at h ⊢
  rw [if_neg h1]
  by_cases h2 : wBad ws
  · rw [if_pos h2, if_pos h2]
  rw [if_neg h2] at h ⊢
  rw [if_neg h2]
  by_cases h3 : ws.sum = 0
  · rw [if_pos h3, if_pos h3]
  rw [if_neg h3] at h
  exact absurd rfl h
theorem chooseD_yes {num : Int → Int} {c : Int} {ws : List Int} (h : togE ws = 0) : chooseD num c ws = if (belowD num c ws.sum).2.2 = 0 then (((atW ws (belowD num c ws.sum).1 : Nat) : Int), (belowD num c ws.sum).2.1, 0) else (0, 0, (belowD num c ws.sum).2.2) := by
  unfold togE at h
  by_cases h1 : ws.length < 1 ∨ 512 < ws.length
  · rw [if_pos h1] at h; omega
  rw [if_neg h1] at h
  by_cases h2 : wBad ws
  · rw [if_pos h2] at h; omega
  rw [if_neg h2] at h
  by_cases h3 : ws.sum = 0
  · rw [if_pos h3] at h; omega
  unfold chooseD
  rw [if_neg h1, if_neg h2, if_neg h3]
theorem togE_zero {ws : List Int} (h : togE ws = 0) : 1 ≤ ws.length ∧ ws.length ≤ 512 ∧ ¬ wBad ws := by
  unfold togE at h
  by_cases h1 : ws.length < 1 ∨ 512 < ws.length
  · rw [if_pos h1] at h; omega
  rw [if_neg h1] at h
  by_cases h2 : wBad ws
  · rw [if_pos h2] at h; omega
  exact ⟨by omega, by omega, h2⟩
theorem sum_pos : ∀ (l : List Int) (B : Int), (∀ x ∈ l, 0 ≤ x ∧ x ≤ B) → 0 ≤ l.sum ∧ l.sum ≤ l.length * B
  | [], B, _ => by simp
  | x :: r, B, h => by
    have h1 := h x (by simp)
    have h2 := sum_pos r B (fun y hy => h y (List.mem_cons_of_mem _ hy))
    simp only [List.sum_cons, List.length_cons]
    rw [show ((r.length + 1 : Nat) : Int) * B = r.length * B + B by rw [Int.natCast_add, Int.add_mul]; simp]
    omega
set_option maxHeartbeats 4000000 in
theorem together_any (w : World) (sp : Option Addr) (cap N : Nat) (ws : List Int) (hN : ws.length = N) (hl : Nums w sp cap ws) :
    Calls Tryd.prog 46 #[.slice sp N cap] w fun e w' => e = .returned (two (if togE ws = 0 then ws.sum else 0) (togE ws)) ∧ Below w.heap.size w w' := by
  have hNm : N ≤ 9223372036854775807 := by rw [← hN]; exact hl.len
  have HN := Lib.hid hN
  have HL := Lib.hid hl
  by_cases h1 : N = 0
  · have hE : togE ws = 13 := by unfold togE; rw [if_pos (by omega)]
    rw [hE, if_neg (by omega)]
    have d1 : ((N : Int) == 0) = true := by simp; omega
    clear hN hl hE
    go_enter Tryd.func46, Tryd.ntmps46
    go_wp2
    go_ret2
    exact ⟨rfl, Below.refl _ _⟩
  have d1 : ((N : Int) == 0) = false := by simp; omega
  by_cases h2 : 512 < N
  · have hE : togE ws = 13 := by unfold togE; rw [if_pos (by omega)]
    rw [hE, if_neg (by omega)]
    have d2 : decide ((512 : Int) < (N : Int)) = true := by simp; omega
    clear hN hl hE
    go_enter Tryd.func46, Tryd.ntmps46
    go_wp2
    go_ret2
    exact ⟨rfl, Below.refl _ _⟩
  have d2 : decide ((512 : Int) < (N : Int)) = false := by simp; omega
  have hlen : ¬ (ws.length < 1 ∨ 512 < ws.length) := by omega
  have HT : Hid (togE ws = if wBad ws then 10 else if ws.sum = 0 then 14 else 0) := Lib.hid (by unfold togE; rw [if_neg hlen])
  obtain ⟨T, hT⟩ : ∃ T, togE ws = T := ⟨_, rfl⟩
  rw [hT] at HT ⊢
  obtain ⟨V, hV⟩ : ∃ V, (if T = 0 then ws.sum else 0) = V := ⟨_, rfl⟩
  rw [hV]
  have HV := Lib.hid hV
  clear hN hl hT hlen hV
  go_enter Tryd.func46, Tryd.ntmps46
  go_wp2
  go_loop [4, 17] (fun S i => ∃ k : Nat, k ≤ N ∧ i = .int .i64 k ∧ S = .int .i64 (ws.take k).sum ∧ (∀ j, j < k → 0 ≤ ws.getD j 0 ∧ ws.getD j 0 ≤ 2147483648) ∧ 0 ≤ (ws.take k).sum ∧ (ws.take k).sum ≤ k * 2147483648) (fun _ i => N - (intOf i).toNat)
  case atStart => exact ⟨0, by omega, rfl, by simp, fun j hj => absurd hj (by omega), by simp, by simp⟩
  case round =>
    obtain ⟨k, hk, rfl, rfl, hall, hs0, hs1⟩ := hrel
    have HA := Lib.hid hall
    clear hall
    by_cases hlt : k < N
    · have hdt : decide (k < N) = true := by simp; omega
      obtain ⟨c, o, rfl, hck⟩ := HL.out.at_ k (by rw [HN.out]; exact hlt)
      have hS := sumT_succ ws k (by rw [HN.out]; exact hlt)
      have hmem : ws.getD k 0 ∈ ws := by
        have : k < ws.length := by rw [HN.out]; exact hlt
        simp [this]
      have HM := Lib.hid hmem
      obtain ⟨x, hx⟩ : ∃ x, ws.getD k 0 = x := ⟨_, rfl⟩
      rw [hx] at hck hS HM
      have HX := Lib.hid hx
      have HSu := Lib.hid hS
      clear hx hS hmem
      by_cases hx0 : x < 0
      · have e1 : decide (x < 0) = true := by simpa using hx0
        have hTT := HT.out
        rw [if_pos ⟨x, HM.out, Or.inl hx0⟩] at hTT
        subst hTT
        have hVV := HV.out
        rw [if_neg (by omega)] at hVV
        subst hVV
        clear hx0 HT HV HSu hs0 hs1
        go_wp2
        go_ret2
        exact ⟨rfl, Below.refl _ _⟩
      have e1 : decide (x < 0) = false := by simpa using hx0
      by_cases hx1 : 2147483648 < x
      · have e2 : decide (2147483648 < x) = true := by simpa using hx1
        have hTT := HT.out
        rw [if_pos ⟨x, HM.out, Or.inr hx1⟩] at hTT
        subst hTT
        have hVV := HV.out
        rw [if_neg (by omega)] at hVV
        subst hVV
        clear hx0 hx1 HT HV HSu hs0 hs1
        go_wp2
        go_ret2
        exact ⟨rfl, Below.refl _ _⟩
      have e2 : decide (2147483648 < x) = false := by simpa using hx1
      obtain ⟨S, hS⟩ : ∃ S, (ws.take k).sum = S := ⟨_, rfl⟩
      rw [hS] at HSu hs0 hs1 ⊢
      have hks : S ≤ 512 * 2147483648 := by
        have : (k : Int) * 2147483648 ≤ 512 * 2147483648 := by omega
        omega
      have hw : IntKind.i64.wrap (S + x) = S + x := IntWalk.i64_in _ (by omega)
      have HB1 := Lib.hid (show 0 ≤ S + x ∧ S + x ≤ ((k + 1 : Nat) : Int) * 2147483648 by omega)
      have HXb := Lib.hid (show 0 ≤ x ∧ x ≤ 2147483648 by omega)
      clear hS hs1 hx0 hx1
      go_wp2
      go_round
      case rel =>
        refine ⟨k + 1, by omega, by go_num, by rw [HSu.out], fun j hj => ?_, by rw [HSu.out]; exact HB1.out.1, by rw [HSu.out]; exact HB1.out.2⟩
        by_cases hjk : j = k
        · subst hjk; rw [HX.out]; exact HXb.out
        · exact HA.out j (by omega)
      case measure => simp [intOf]; omega
    · obtain rfl : k = N := by omega
      have hdf : decide (k < k) = false := by simp
      have hnb : ¬ wBad ws := by
        rintro ⟨x, hx, hb⟩
        obtain ⟨j, hj, e⟩ := List.mem_iff_getElem.1 hx
        have := HA.out j (by rw [← HN.out]; exact hj)
        have e2 : ws.getD j 0 = x := by simp [hj, e]
        rw [e2] at this
        omega
      have hTT := HT.out
      rw [if_neg hnb] at hTT
      have hfull : ws.take k = ws := List.take_of_length_le (by rw [HN.out]; exact Nat.le_refl _)
      rw [hfull] at hs0 hs1 ⊢
      obtain ⟨S, hS⟩ : ∃ S, ws.sum = S := ⟨_, rfl⟩
      have hVV := HV.out
      rw [hS] at hTT hVV hs0 hs1 ⊢
      clear hnb hfull HA HT HV hlt
      by_cases hz : S = 0
      · have e1 : (S == 0) = true := by simpa using hz
        rw [if_pos hz] at hTT
        subst hTT
        rw [if_neg (by omega)] at hVV
        subst hVV
        clear hz hs0 hs1
        go_wp2
        go_ret2
        exact ⟨rfl, Below.refl _ _⟩
      · have e1 : (S == 0) = false := by simpa using hz
        rw [if_neg hz] at hTT
        subst hTT
        rw [if_pos rfl] at hVV
        subst hVV
        clear hz hs0 hs1
        go_wp2
        go_ret2
        exact ⟨rfl, Below.refl _ _⟩
theorem drop_cons2 {l : List Int} {k : Nat} (h : k < l.length) : l.drop k = l.getD k 0 :: l.drop (k + 1) := by
  rw [List.drop_eq_getElem_cons h]
  simp [h]
theorem ne_of0 {x : Int} (h : x ≠ 0) : (x != 0) = true := by simpa using h
set_option maxHeartbeats 4000000 in
theorem choose_any (w : World) (g : Nat) (s : List Int) (c : Int) (sp : Option Addr) (cap N : Nat) (ws : List Int) (he : E8 w) (h : St8 w g s c) (hN : ws.length = N) (hl : Nums w sp cap ws) (ha : Apart sp g ws) :
    Calls Tryd.prog 31 #[ptV g, .slice sp N cap] w (BelowA w g s c (chooseD (numV s) c ws)) := by
  have hNm : N ≤ 9223372036854775807 := by rw [← hN]; exact hl.len
  have HS := Lib.hid h
  have HE := Lib.hid he
  have HN := Lib.hid hN
  have HL := Lib.hid hl
  have HA : Hid (Apart sp g ws) := ha
  have HTo := Lib.hid (together_any w sp cap N ws hN hl)
  unfold ptV
  by_cases hT : togE ws = 0
  · rw [chooseD_yes hT]
    rw [hT, if_pos rfl] at HTo
    obtain ⟨z1, z2, z3⟩ := togE_zero hT
    have hsp := sum_pos ws 2147483648 (not_bad z3)
    have hs1 : ws.sum ≤ 512 * 2147483648 := by
      have : (ws.length : Int) * 2147483648 ≤ 512 * 2147483648 := by omega
      omega
    have HBe := Lib.hid (fun W (hw : Below w.heap.size w W) => below_any W g s c ws.sum (he.below hw) (h.later hw) (by omega) (by omega))
    have HFit := Lib.hid (belowD_fit (numV s) c ws.sum h.rng.2)
    have HNb := Lib.hid (not_bad z3)
    obtain ⟨A, hA⟩ : ∃ A, ws.sum = A := ⟨_, rfl⟩
    have HAs := Lib.hid hA
    rw [hA] at HTo HBe HFit ⊢
    obtain ⟨R, hR⟩ : ∃ R, belowD (numV s) c A = R := ⟨_, rfl⟩
    rw [hR] at HBe HFit ⊢
    obtain ⟨x, f, er⟩ := R
    have hz1 : 1 ≤ N := by omega
    have hz2 : N ≤ 512 := by omega
    dsimp only at HFit ⊢
    clear h he hN hl ha hT z1 z2 z3 hsp hs1 hA hR
    by_cases hE : er = 0
    · subst hE
      rw [if_pos rfl]
      have HF2 := Lib.hid (HFit.out.2.2.1 rfl)
      obtain ⟨Q, hQ⟩ : ∃ Q, atW ws x = Q := ⟨_, rfl⟩
      rw [hQ]
      have HQ : Hid (atW ws x = 0 + atW (ws.drop 0) (x - (ws.take 0).sum)) := Lib.hid (by simp)
      rw [hQ] at HQ
      obtain ⟨c0, o0, hsp, hc0⟩ := HL.out.at_ 0 (by rw [HN.out]; omega)
      subst hsp
      have HSu0 : Hid ((ws.take (0 + 1)).sum = ws.getD 0 0) := Lib.hid (by rw [sumT_succ ws 0 (by rw [HN.out]; omega)]; simp)
      clear hQ hc0
      go_enter Tryd.func31, Tryd.ntmps31
      go_wp2_with fail
      refine HTo.out.mono ?_
      rintro e w1 ⟨rfl, hb1⟩
      have HB1 := Lib.hid hb1
      clear hb1
      unfold two
      go_wp2_with fail
      refine (HBe.out w1 HB1.out).mono ?_
      rintro e w2 ⟨rfl, c', hs2, hc', hg2⟩
      have hc2 := hc' rfl
      subst hc2
      have HS2 := Lib.hid hs2
      have HG2 := Lib.hid (grown_trans (grown_of HB1.out) hg2)
      have HL2 := Lib.hid (Nums.grown (HL.out.below HB1.out) hg2 HA.out)
      clear hs2 hg2 hc'
      have HC : Hid (∀ k, k < N → w2.cell? ⟨c0, o0 + k, none⟩ = some (.int .i64 (ws.getD k 0))) := Lib.hid (fun k hk => by
        obtain ⟨c1, o1, e1, hc1⟩ := HL2.out.at_ k (by rw [HN.out]; exact hk)
        cases e1
        exact hc1)
      have c1 := HC.out 0 (by omega)
      rw [← HSu0.out] at c1
      rw [Nat.add_zero] at c1
      have hst : ∃ k : Nat, k < N ∧ Value.int .i64 0 = .int .i64 k ∧ Value.int .i64 (ws.take (0 + 1)).sum = .int .i64 (ws.take (k + 1)).sum ∧ (ws.take k).sum ≤ x ∧ Q = k + atW (ws.drop k) (x - (ws.take k).sum) := ⟨0, by omega, rfl, rfl, by simpa using HF2.out.1, HQ.out⟩
      obtain ⟨S0, hS0⟩ : ∃ S0, (ws.take (0 + 1)).sum = S0 := ⟨_, rfl⟩
      rw [hS0] at c1 hst
      clear hS0
      unfold two
      go_wp2
      clear c1
      go_loop [9, 10] (fun i S => ∃ k : Nat, k < N ∧ i = .int .i64 k ∧ S = .int .i64 (ws.take (k + 1)).sum ∧ (ws.take k).sum ≤ x ∧ Q = k + atW (ws.drop k) (x - (ws.take k).sum)) (fun i _ => N - (intOf i).toNat)
      case atStart => exact hst
      case round =>
        clear hst
        obtain ⟨k, hk, rfl, rfl, hle, hq⟩ := hrel
        have hks := sumT_succ ws k (by rw [HN.out]; exact hk)
        have hdc := drop_cons2 (l := ws) (k := k) (by rw [HN.out]; exact hk)
        rw [hdc, atW] at hq
        by_cases hlt : (ws.take (k + 1)).sum ≤ x
        · have hk1 : k + 1 < N := by
            apply Decidable.byContradiction
            intro hh
            have : ws.take (k + 1) = ws := List.take_of_length_le (by rw [HN.out]; omega)
            rw [this, HAs.out] at hlt
            have := HF2.out.2
            omega
          rw [if_pos (by omega)] at hq
          have HQ2 : Hid (Q = (k + 1 : Nat) + atW (ws.drop (k + 1)) (x - (ws.take (k + 1)).sum)) := Lib.hid (by rw [hq, hks]; rw [show x - (ws.take k).sum - ws.getD k 0 = x - ((ws.take k).sum + ws.getD k 0) by omega]; omega)
          have hks2 := sumT_succ ws (k + 1) (by rw [HN.out]; exact hk1)
          have HLe := Lib.hid hlt
          have hck := HC.out (k + 1) hk1
          have hxm : ws.getD (k + 1) 0 ∈ ws := by
            have : k + 1 < ws.length := by rw [HN.out]; exact hk1
            simp [this]
          have hxr := HNb.out _ hxm
          have hS0 : 0 ≤ (ws.take (k + 1)).sum := (sum_pos (ws.take (k + 1)) 2147483648 (fun y hy => HNb.out y (List.mem_of_mem_take hy))).1
          have hx2 := HF2.out.2
          have hxA : A ≤ 512 * 2147483648 := by
            have h1 := sum_pos ws 2147483648 HNb.out
            rw [HAs.out, HN.out] at h1
            have : (N : Int) * 2147483648 ≤ 512 * 2147483648 := by omega
            omega
          obtain ⟨y, hy⟩ : ∃ y, ws.getD (k + 1) 0 = y := ⟨_, rfl⟩
          obtain ⟨S, hS⟩ : ∃ S, (ws.take (k + 1)).sum = S := ⟨_, rfl⟩
          rw [hy] at hck hks2 hxr
          rw [hS] at hks2 hlt hS0 HLe HQ2 ⊢
          have HSu := Lib.hid hks2
          have HSS := Lib.hid hS
          have hdt : decide (S ≤ x) = true := by simpa using hlt
          have hw : IntKind.i64.wrap (S + y) = S + y := IntWalk.i64_in _ (by omega)
          have hw1 : IntKind.i64.wrap ((k : Int) + 1) = ((k + 1 : Nat) : Int) := by rw [IntWalk.i64_in _ (by omega)]; rfl
          clear hle hq hks hdc hks2 hy hS hlt hS0 hxr hxm hx2 hxA
          obtain ⟨j, hj⟩ : ∃ j, k + 1 = j := ⟨_, rfl⟩
          have HJ := Lib.hid hj
          rw [hj] at hck hw1 hk1
          clear hj
          go_wp2
          go_round
          case rel =>
            have hj := HJ.out
            subst hj
            exact ⟨k + 1, hk1, rfl, by rw [HSu.out], by rw [HSS.out]; exact HLe.out, by rw [HSS.out]; exact HQ2.out⟩
          case measure => have := HJ.out; simp [intOf]; omega
        · rw [if_neg (by omega)] at hq
          have hdf : decide ((ws.take (k + 1)).sum ≤ x) = false := by simpa using hlt
          obtain rfl : Q = k := by omega
          obtain ⟨S, hS⟩ : ∃ S, (ws.take (Q + 1)).sum = S := ⟨_, rfl⟩
          rw [hS] at hdf ⊢
          clear hq hle hks hdc hlt hS
          go_wp2
          go_ret2
          exact ⟨rfl, _, HS2.out, fun _ => rfl, HG2.out⟩
    · rw [if_neg hE]
      have e1 := ne_of0 hE
      clear hE
      go_enter Tryd.func31, Tryd.ntmps31
      go_wp2_with fail
      refine HTo.out.mono ?_
      rintro e w1 ⟨rfl, hb1⟩
      have HB1 := Lib.hid hb1
      clear hb1
      unfold two
      go_wp2_with fail
      refine (HBe.out w1 HB1.out).mono ?_
      rintro e w2 ⟨rfl, c', hs2, hc', hg2⟩
      have HS2 := Lib.hid hs2
      have HG2 := Lib.hid (grown_trans (grown_of HB1.out) hg2)
      have HE1 := Lib.hid e1
      clear hs2 hg2 hc'
      unfold two
      dsimp only
      go_wp2
      go_ret2
      exact ⟨rfl, _, HS2.out, fun h => absurd h (by have := HE1.out; simpa using this), HG2.out⟩
  · rw [chooseD_no hT]
    rw [if_neg hT] at HTo
    have e1 := ne_of0 hT
    obtain ⟨T, hTT⟩ : ∃ T, togE ws = T := ⟨_, rfl⟩
    rw [hTT] at HTo e1 hT ⊢
    have HNe := Lib.hid hT
    clear h he hN hl ha hT hTT
    go_enter Tryd.func31, Tryd.ntmps31
    go_wp2_with fail
    refine HTo.out.mono ?_
    rintro e w1 ⟨rfl, hb1⟩
    have HB1 := Lib.hid hb1
    clear hb1
    unfold two
    go_wp2
    go_ret2
    exact ⟨rfl, c, HS.out.later HB1.out, fun h => absurd h HNe.out, grown_of HB1.out⟩
end Go.Proofs.YtmolkbmdfkeniaaDoor.Dr
