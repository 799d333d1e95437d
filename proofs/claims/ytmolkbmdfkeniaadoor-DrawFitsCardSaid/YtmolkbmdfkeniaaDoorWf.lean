import Derived.Test.YtmolkbmdfkeniaaDoorWa
import Derived.Deep.QuietTactic
namespace Go.Proofs.YtmolkbmdfkeniaaDoor.Dr
set_option maxRecDepth 100000
open Go.ChangeShapes Go.WideShapes Go.ChangeAt Go.RowKit Go.Proofs.YtmolkbmdfkeniaaDoor.Tn

set_option maxHeartbeats 4000000 in
theorem fits_walk {Pk : List Int → Prop} (T : DrawOK E8 numV St8 Pk) (hP : Pk [3, 9, 9]) (w : World) (s : List Int) (sp : Option Addr) (cap N : Nat) (l : List Int) (k : Int) (hs : Seed s) (k1 : -9223372036854775808 ≤ k) (k2 : k ≤ 9223372036854775807) (hN : l.length = N) (hl : Nums w sp cap l) (hPv : Pk l) (he : E8 w) : Calls Tryd.prog 8 #[dgV s, .slice sp N cap, .int .i64 k] w fun e w' => e = .returned (.bool true) ∧ Below w.heap.size w w' := by
  have HZ := Lib.hid (row_dig hs.1)
  have HE := Lib.hid he
  have HT := Lib.hid T
  have HSd : Hid (Seed s) := Lib.hid hs
  have HPk : Hid (Pk [3, 9, 9]) := Lib.hid hP
  have HB0 : Hid (H1 w s (w.alloc (.cells (rowB s) 23))) := Lib.hid (H1.made w s)
  have HE0 := Lib.hid (HE.out.below HB0.out.below)
  have hNm : N ≤ 9223372036854775807 := by rw [← hN]; exact hl.len
  have HL := Lib.hid hl
  have HN := Lib.hid hN
  change Calls Tryd.prog 8 #[.agg (rowB s), .slice sp N cap, .int .i64 k] w _
  have HNw := Lib.hid (fun W (h : E8 W) => T.new W s 0 h hs (by omega) (by decide))
  by_cases hz : 100 < N
  · have d2 : decide ((100 : Int) < (N : Int)) = true := by simp; omega
    clear he T hs hP hN hl hPv
    go_enter Tryd.func8, Tryd.ntmps8
    go_wp2_with (refine wpList_load_row rfl 23 (.tmp 3) rfl w.heap.size rfl 23 (rowB s) (0, 0) _ HB0.out.d Tryd.underlying23 rfl HZ.out ?_)
    refine (HNw.out _ HE0.out).mono ?_
    rintro e w2 ⟨g, rfl, hg, hs2, hb2⟩
    have H2' := Lib.hid (HB0.out.later hb2)
    have HE2 := Lib.hid (HE0.out.below hb2)
    clear hb2 hs2
    unfold ptV
    go_wp2_with fail
    refine (awake_any HT.out HPk.out _ HE2.out).mono ?_
    rintro e wa ⟨rfl, hba⟩
    have HBa := Lib.hid ((H2'.out.below).trans (hba.mono (H2'.out.below).size))
    clear hba
    go_wp2
    go_ret
    exact ⟨rfl, HBa.out⟩
  · have d2 : decide ((100 : Int) < (N : Int)) = false := by simp; omega
    have HBe := Lib.hid (fun W g h hS => T.below W g s 0 k h hS k1 k2)
    have HFt := Lib.hid (belowD_fit (numV s) 0 k (by decide))
    have HCh := Lib.hid (fun W g c h hS hq ha => T.choose W g s c sp cap l h hS hq ha)
    have HPi := Lib.hid (fun W g c h hS hq => T.pick W g s c sp cap l k h hS hq hPv k1 k2)
    rw [hN] at HCh HPi
    obtain ⟨R, hR⟩ : ∃ R, belowD (numV s) 0 k = R := ⟨_, rfl⟩
    rw [hR] at HBe HFt
    obtain ⟨x1, f1, r1⟩ := R
    dsimp only at HBe HFt
    clear he T hs hP hR hN hl hPv
    go_enter Tryd.func8, Tryd.ntmps8
    go_wp2_with (refine wpList_load_row rfl 23 (.tmp 3) rfl w.heap.size rfl 23 (rowB s) (0, 0) _ HB0.out.d Tryd.underlying23 rfl HZ.out ?_)
    refine (HNw.out _ HE0.out).mono ?_
    rintro e w1 ⟨g, rfl, hg, hs1, hb1⟩
    have hgw : w.heap.size < g := Nat.lt_of_lt_of_le HB0.out.d.lt hg
    have HAp : Hid (Apart sp g l) := Lib.hid (apart_old HL.out (by omega))
    have HS1 := Lib.hid hs1
    have H1' := Lib.hid (HB0.out.later hb1)
    have HE1 := Lib.hid (HE0.out.below hb1)
    clear hb1 hs1
    unfold ptV
    go_wp2_with fail
    refine (HBe.out w1 g HE1.out HS1.out).mono ?_
    rintro e w2 ⟨rfl, hs2, hg2⟩
    have HS2 := Lib.hid hs2
    have HE2 := Lib.hid (HT.out.grown _ _ _ _ _ HE1.out HS1.out hg2)
    have H2' := Lib.hid (H1'.out.grown hg2 hgw)
    clear hs2 hg2
    unfold two
    by_cases hE1 : r1 = 0
    · subst hE1
      obtain ⟨b1, b2⟩ := HFt.out.2.2.1 rfl
      have y1 : decide (x1 < 0) = false := by simp; omega
      have y2 : decide (k ≤ x1) = false := by simp; omega
      have y3 : decide (k < 1) = false := by simp; omega
      clear b1 b2
      go_wp2_with fail
      refine (HCh.out w2 g _ HE2.out HS2.out (HL.out.below H2'.out.below) HAp.out).mono ?_
      rintro e w3 ⟨rfl, hs3, hg3⟩
      have HE3 := Lib.hid (HT.out.grown _ _ _ _ _ HE2.out HS2.out hg3)
      have H3' := Lib.hid (H2'.out.grown hg3 hgw)
      have HF2 := Lib.hid (chooseD_fit (numV s) _ l HS2.out.rng.2)
      have HS3 := Lib.hid hs3
      clear hs3 hg3
      obtain ⟨D2, hD2⟩ : ∃ D2, chooseD (numV s) (0 + (f1 : Int)) l = D2 := ⟨_, rfl⟩
      rw [hD2] at HF2 HS3 ⊢
      clear hD2
      obtain ⟨x2, f2, r2⟩ := D2
      unfold two
      dsimp only at HF2 HS3 ⊢
      by_cases hE2 : r2 = 0
      · subst hE2
        obtain ⟨p2, rfl, hp2, hq2⟩ := HF2.out.2.2.1 rfl
        rw [HN.out] at hp2
        have z1 : decide ((p2 : Int) < 0) = false := by simp
        have z2 : decide (N ≤ p2) = false := by simp; omega
        obtain ⟨c9, o9, e9, z3⟩ := (HL.out.below H3'.out.below).at_ p2 (by rw [HN.out]; exact hp2)
        obtain ⟨y9, hy9⟩ : ∃ y, l.getD p2 0 = y := ⟨_, rfl⟩
        rw [hy9] at z3 hq2
        have z4 : decide (y9 < 1) = false := by simp; omega
        subst e9
        clear hy9
        go_wp2_with fail
        refine (HPi.out w3 g _ HE3.out HS3.out (HL.out.below H3'.out.below)).mono ?_
        rintro e w4 ⟨rfl, hs4, hg4⟩
        have HE4 := Lib.hid (HT.out.grown _ _ _ _ _ HE3.out HS3.out hg4)
        have H4' := Lib.hid (H3'.out.grown hg4 hgw)
        have HF3 := Lib.hid (pickD_fit (numV s) _ l k HS3.out.rng.2)
        clear hs4 hg4
        obtain ⟨D3, hD3⟩ : ∃ D3, pickD (numV s) (0 + (f1 : Int) + (f2 : Int)) l k = D3 := ⟨_, rfl⟩
        rw [hD3] at HF3 ⊢
        clear hD3
        obtain ⟨x3, f3, r3⟩ := D3
        unfold two
        dsimp only at HF3 ⊢
        by_cases hE3 : r3 = 0
        · skip
          subst hE3
          obtain ⟨p, rfl, hp, hgt, hone⟩ := HF3.out.2.2.1 rfl
          rw [HN.out] at hp hgt hone
          have hpz : decide ((p : Int) < 0) = false := by simp
          have hpn : decide (N ≤ p) = false := by simp; omega
          have HGt := Lib.hid hgt
          have HOn := Lib.hid hone
          have hL4 := HL.out.below H4'.out.below
          have HC : Hid (∀ j, j < N → w4.cell? ⟨c9, o9 + j, none⟩ = some (.int .i64 (l.getD j 0))) := Lib.hid (fun j hj => Nums.cell hL4 j (by rw [HN.out]; exact hj))
          clear hL4 hgt hone
          go_wp2
          go_loopw [15, 16] (fun G i wr => ∃ j q : Nat, j ≤ N ∧ i = .int .i64 j ∧ G = .int .i64 (gtC l p j : Int) ∧ wr = w4.drewN q) (fun _ i _ => N - (intOf i).toNat)
          case atStart => exact ⟨0, 0, by omega, rfl, rfl, rfl⟩
          case round =>
            obtain ⟨j, q, hj, rfl, rfl, rfl⟩ := hrel
            by_cases hlt : j < N
            · have hdt : decide (j < N) = true := by simpa using hlt
              have cj := HC.out j hlt
              have cp := HC.out p hp
              have hs := gtC_succ l p j
              have hgl : gtC l p j ≤ j := by
                unfold gtC
                exact Nat.le_trans (List.length_filter_le _ _) (by simp)
              obtain ⟨x, hx⟩ : ∃ x, l.getD j 0 = x := ⟨_, rfl⟩
              obtain ⟨y, hy⟩ : ∃ y, l.getD p 0 = y := ⟨_, rfl⟩
              rw [hx] at cj
              rw [hy] at cp
              rw [hx, hy] at hs
              obtain ⟨G, hG⟩ : ∃ G, gtC l p j = G := ⟨_, rfl⟩
              rw [hG] at hs hgl ⊢
              by_cases hxy : y < x
              · rw [if_pos hxy] at hs
                have HS := Lib.hid hs
                have hd : decide (y < x) = true := by simpa using hxy
                clear hx hy hG hs hxy
                go_wp2
                go_quiet (fail)
                go_wp2
                go_roundw
                case rel => exact ⟨j + 1, _, by omega, by go_num, by rw [HS.out]; go_num, rfl⟩
                case measure => simp [intOf]; omega
              · rw [if_neg hxy] at hs
                have HS := Lib.hid hs
                have hd : decide (y < x) = false := by simpa using hxy
                clear hx hy hG hs hxy
                go_wp2
                go_quiet (fail)
                go_wp2
                go_roundw
                case rel => exact ⟨j + 1, _, by omega, by go_num, by rw [HS.out]; rfl, rfl⟩
                case measure => simp [intOf]; omega
            · obtain rfl : j = N := by omega
              have hdf : decide (j < j) = false := by simp
              have hg := HGt.out
              have ho := HOn.out
              obtain ⟨G, hG⟩ : ∃ G, gtC l p j = G := ⟨_, rfl⟩
              rw [hG] at hg ho ⊢
              have hd : decide ((G : Int) < k) = true := by simpa using hg
              have HE5 := Lib.hid (HE4.out.below (below_drewN (Below.refl w4.heap.size w4) q))
              have HB5 := Lib.hid (H4'.out.below.trans (below_drewN (Below.refl w4.heap.size w4) q |>.mono H4'.out.below.size))
              clear hG hlt hj
              by_cases hk : k = 1
              · have hG0 := ho hk
                have hkk : (k != 1) = false := by simpa using hk
                subst hG0
                have hd2 : decide ((0 : Int) < k) = true := by simpa using hg
                clear hk hg ho
                go_wp2_with fail
                refine (awake_any HT.out HPk.out _ HE5.out).mono ?_
                rintro e wa ⟨rfl, hba⟩
                have HBa := Lib.hid (HB5.out.trans (hba.mono HB5.out.size))
                clear hba
                go_wp2
                go_ret
                exact ⟨rfl, HBa.out⟩
              · have hkk : (k != 1) = true := by simpa using hk
                clear hk hg ho
                go_wp2_with fail
                refine (awake_any HT.out HPk.out _ HE5.out).mono ?_
                rintro e wa ⟨rfl, hba⟩
                have HBa := Lib.hid (HB5.out.trans (hba.mono HB5.out.size))
                clear hba
                go_wp2
                go_ret
                exact ⟨rfl, HBa.out⟩
        · skip
          have e3 := ne_of0 hE3
          clear hE3
          go_wp2_with fail
          refine (awake_any HT.out HPk.out _ HE4.out).mono ?_
          rintro e wa ⟨rfl, hba⟩
          have HBa := Lib.hid (H4'.out.below.trans (hba.mono H4'.out.below.size))
          clear hba
          go_wp2
          go_ret
          exact ⟨rfl, HBa.out⟩
      · have e2 : (r2 == 0) = false := by simpa using hE2
        clear hE2
        go_wp2_with fail
        refine (HPi.out w3 g _ HE3.out HS3.out (HL.out.below H3'.out.below)).mono ?_
        rintro e w4 ⟨rfl, hs4, hg4⟩
        have HE4 := Lib.hid (HT.out.grown _ _ _ _ _ HE3.out HS3.out hg4)
        have H4' := Lib.hid (H3'.out.grown hg4 hgw)
        have HF3 := Lib.hid (pickD_fit (numV s) _ l k HS3.out.rng.2)
        clear hs4 hg4
        obtain ⟨D3, hD3⟩ : ∃ D3, pickD (numV s) (0 + (f1 : Int) + (f2 : Int)) l k = D3 := ⟨_, rfl⟩
        rw [hD3] at HF3 ⊢
        clear hD3
        obtain ⟨x3, f3, r3⟩ := D3
        unfold two
        dsimp only at HF3 ⊢
        by_cases hE3 : r3 = 0
        · skip
          subst hE3
          obtain ⟨p, rfl, hp, hgt, hone⟩ := HF3.out.2.2.1 rfl
          rw [HN.out] at hp hgt hone
          have hpz : decide ((p : Int) < 0) = false := by simp
          have hpn : decide (N ≤ p) = false := by simp; omega
          have HGt := Lib.hid hgt
          have HOn := Lib.hid hone
          have hL4 := HL.out.below H4'.out.below
          have HCp : Hid (∃ a : Nat × Nat, sp = some ⟨a.1, a.2, none⟩) := Lib.hid (nums_at_ hL4 p (by rw [HN.out]; exact hp))
          obtain ⟨⟨c0, o0⟩, hsp⟩ := HCp.out
          subst hsp
          have HC : Hid (∀ j, j < N → w4.cell? ⟨c0, o0 + j, none⟩ = some (.int .i64 (l.getD j 0))) := Lib.hid (fun j hj => Nums.cell hL4 j (by rw [HN.out]; exact hj))
          clear hL4 hgt hone
          go_wp2
          go_loopw [15, 16] (fun G i wr => ∃ j q : Nat, j ≤ N ∧ i = .int .i64 j ∧ G = .int .i64 (gtC l p j : Int) ∧ wr = w4.drewN q) (fun _ i _ => N - (intOf i).toNat)
          case atStart => exact ⟨0, 0, by omega, rfl, rfl, rfl⟩
          case round =>
            obtain ⟨j, q, hj, rfl, rfl, rfl⟩ := hrel
            by_cases hlt : j < N
            · have hdt : decide (j < N) = true := by simpa using hlt
              have cj := HC.out j hlt
              have cp := HC.out p hp
              have hs := gtC_succ l p j
              have hgl : gtC l p j ≤ j := by
                unfold gtC
                exact Nat.le_trans (List.length_filter_le _ _) (by simp)
              obtain ⟨x, hx⟩ : ∃ x, l.getD j 0 = x := ⟨_, rfl⟩
              obtain ⟨y, hy⟩ : ∃ y, l.getD p 0 = y := ⟨_, rfl⟩
              rw [hx] at cj
              rw [hy] at cp
              rw [hx, hy] at hs
              obtain ⟨G, hG⟩ : ∃ G, gtC l p j = G := ⟨_, rfl⟩
              rw [hG] at hs hgl ⊢
              by_cases hxy : y < x
              · rw [if_pos hxy] at hs
                have HS := Lib.hid hs
                have hd : decide (y < x) = true := by simpa using hxy
                clear hx hy hG hs hxy
                go_wp2
                go_quiet (fail)
                go_wp2
                go_roundw
                case rel => exact ⟨j + 1, _, by omega, by go_num, by rw [HS.out]; go_num, rfl⟩
                case measure => simp [intOf]; omega
              · rw [if_neg hxy] at hs
                have HS := Lib.hid hs
                have hd : decide (y < x) = false := by simpa using hxy
                clear hx hy hG hs hxy
                go_wp2
                go_quiet (fail)
                go_wp2
                go_roundw
                case rel => exact ⟨j + 1, _, by omega, by go_num, by rw [HS.out]; rfl, rfl⟩
                case measure => simp [intOf]; omega
            · obtain rfl : j = N := by omega
              have hdf : decide (j < j) = false := by simp
              have hg := HGt.out
              have ho := HOn.out
              obtain ⟨G, hG⟩ : ∃ G, gtC l p j = G := ⟨_, rfl⟩
              rw [hG] at hg ho ⊢
              have hd : decide ((G : Int) < k) = true := by simpa using hg
              have HE5 := Lib.hid (HE4.out.below (below_drewN (Below.refl w4.heap.size w4) q))
              have HB5 := Lib.hid (H4'.out.below.trans (below_drewN (Below.refl w4.heap.size w4) q |>.mono H4'.out.below.size))
              clear hG hlt hj
              by_cases hk : k = 1
              · have hG0 := ho hk
                have hkk : (k != 1) = false := by simpa using hk
                subst hG0
                have hd2 : decide ((0 : Int) < k) = true := by simpa using hg
                clear hk hg ho
                go_wp2_with fail
                refine (awake_any HT.out HPk.out _ HE5.out).mono ?_
                rintro e wa ⟨rfl, hba⟩
                have HBa := Lib.hid (HB5.out.trans (hba.mono HB5.out.size))
                clear hba
                go_wp2
                go_ret
                exact ⟨rfl, HBa.out⟩
              · have hkk : (k != 1) = true := by simpa using hk
                clear hk hg ho
                go_wp2_with fail
                refine (awake_any HT.out HPk.out _ HE5.out).mono ?_
                rintro e wa ⟨rfl, hba⟩
                have HBa := Lib.hid (HB5.out.trans (hba.mono HB5.out.size))
                clear hba
                go_wp2
                go_ret
                exact ⟨rfl, HBa.out⟩
        · skip
          have e3 := ne_of0 hE3
          clear hE3
          go_wp2_with fail
          refine (awake_any HT.out HPk.out _ HE4.out).mono ?_
          rintro e wa ⟨rfl, hba⟩
          have HBa := Lib.hid (H4'.out.below.trans (hba.mono H4'.out.below.size))
          clear hba
          go_wp2
          go_ret
          exact ⟨rfl, HBa.out⟩
    · have e1 : (r1 == 0) = false := by simpa using hE1
      clear hE1
      go_wp2_with fail
      refine (HCh.out w2 g _ HE2.out HS2.out (HL.out.below H2'.out.below) HAp.out).mono ?_
      rintro e w3 ⟨rfl, hs3, hg3⟩
      have HE3 := Lib.hid (HT.out.grown _ _ _ _ _ HE2.out HS2.out hg3)
      have H3' := Lib.hid (H2'.out.grown hg3 hgw)
      have HF2 := Lib.hid (chooseD_fit (numV s) _ l HS2.out.rng.2)
      have HS3 := Lib.hid hs3
      clear hs3 hg3
      obtain ⟨D2, hD2⟩ : ∃ D2, chooseD (numV s) (0 + (f1 : Int)) l = D2 := ⟨_, rfl⟩
      rw [hD2] at HF2 HS3 ⊢
      clear hD2
      obtain ⟨x2, f2, r2⟩ := D2
      unfold two
      dsimp only at HF2 HS3 ⊢
      by_cases hE2 : r2 = 0
      · subst hE2
        obtain ⟨p2, rfl, hp2, hq2⟩ := HF2.out.2.2.1 rfl
        rw [HN.out] at hp2
        have z1 : decide ((p2 : Int) < 0) = false := by simp
        have z2 : decide (N ≤ p2) = false := by simp; omega
        obtain ⟨c9, o9, e9, z3⟩ := (HL.out.below H3'.out.below).at_ p2 (by rw [HN.out]; exact hp2)
        obtain ⟨y9, hy9⟩ : ∃ y, l.getD p2 0 = y := ⟨_, rfl⟩
        rw [hy9] at z3 hq2
        have z4 : decide (y9 < 1) = false := by simp; omega
        subst e9
        clear hy9
        go_wp2_with fail
        refine (HPi.out w3 g _ HE3.out HS3.out (HL.out.below H3'.out.below)).mono ?_
        rintro e w4 ⟨rfl, hs4, hg4⟩
        have HE4 := Lib.hid (HT.out.grown _ _ _ _ _ HE3.out HS3.out hg4)
        have H4' := Lib.hid (H3'.out.grown hg4 hgw)
        have HF3 := Lib.hid (pickD_fit (numV s) _ l k HS3.out.rng.2)
        clear hs4 hg4
        obtain ⟨D3, hD3⟩ : ∃ D3, pickD (numV s) (0 + (f1 : Int) + (f2 : Int)) l k = D3 := ⟨_, rfl⟩
        rw [hD3] at HF3 ⊢
        clear hD3
        obtain ⟨x3, f3, r3⟩ := D3
        unfold two
        dsimp only at HF3 ⊢
        by_cases hE3 : r3 = 0
        · skip
          subst hE3
          obtain ⟨p, rfl, hp, hgt, hone⟩ := HF3.out.2.2.1 rfl
          rw [HN.out] at hp hgt hone
          have hpz : decide ((p : Int) < 0) = false := by simp
          have hpn : decide (N ≤ p) = false := by simp; omega
          have HGt := Lib.hid hgt
          have HOn := Lib.hid hone
          have hL4 := HL.out.below H4'.out.below
          have HC : Hid (∀ j, j < N → w4.cell? ⟨c9, o9 + j, none⟩ = some (.int .i64 (l.getD j 0))) := Lib.hid (fun j hj => Nums.cell hL4 j (by rw [HN.out]; exact hj))
          clear hL4 hgt hone
          go_wp2
          go_loopw [15, 16] (fun G i wr => ∃ j q : Nat, j ≤ N ∧ i = .int .i64 j ∧ G = .int .i64 (gtC l p j : Int) ∧ wr = w4.drewN q) (fun _ i _ => N - (intOf i).toNat)
          case atStart => exact ⟨0, 0, by omega, rfl, rfl, rfl⟩
          case round =>
            obtain ⟨j, q, hj, rfl, rfl, rfl⟩ := hrel
            by_cases hlt : j < N
            · have hdt : decide (j < N) = true := by simpa using hlt
              have cj := HC.out j hlt
              have cp := HC.out p hp
              have hs := gtC_succ l p j
              have hgl : gtC l p j ≤ j := by
                unfold gtC
                exact Nat.le_trans (List.length_filter_le _ _) (by simp)
              obtain ⟨x, hx⟩ : ∃ x, l.getD j 0 = x := ⟨_, rfl⟩
              obtain ⟨y, hy⟩ : ∃ y, l.getD p 0 = y := ⟨_, rfl⟩
              rw [hx] at cj
              rw [hy] at cp
              rw [hx, hy] at hs
              obtain ⟨G, hG⟩ : ∃ G, gtC l p j = G := ⟨_, rfl⟩
              rw [hG] at hs hgl ⊢
              by_cases hxy : y < x
              · rw [if_pos hxy] at hs
                have HS := Lib.hid hs
                have hd : decide (y < x) = true := by simpa using hxy
                clear hx hy hG hs hxy
                go_wp2
                go_quiet (fail)
                go_wp2
                go_roundw
                case rel => exact ⟨j + 1, _, by omega, by go_num, by rw [HS.out]; go_num, rfl⟩
                case measure => simp [intOf]; omega
              · rw [if_neg hxy] at hs
                have HS := Lib.hid hs
                have hd : decide (y < x) = false := by simpa using hxy
                clear hx hy hG hs hxy
                go_wp2
                go_quiet (fail)
                go_wp2
                go_roundw
                case rel => exact ⟨j + 1, _, by omega, by go_num, by rw [HS.out]; rfl, rfl⟩
                case measure => simp [intOf]; omega
            · obtain rfl : j = N := by omega
              have hdf : decide (j < j) = false := by simp
              have hg := HGt.out
              have ho := HOn.out
              obtain ⟨G, hG⟩ : ∃ G, gtC l p j = G := ⟨_, rfl⟩
              rw [hG] at hg ho ⊢
              have hd : decide ((G : Int) < k) = true := by simpa using hg
              have HE5 := Lib.hid (HE4.out.below (below_drewN (Below.refl w4.heap.size w4) q))
              have HB5 := Lib.hid (H4'.out.below.trans (below_drewN (Below.refl w4.heap.size w4) q |>.mono H4'.out.below.size))
              clear hG hlt hj
              by_cases hk : k = 1
              · have hG0 := ho hk
                have hkk : (k != 1) = false := by simpa using hk
                subst hG0
                have hd2 : decide ((0 : Int) < k) = true := by simpa using hg
                clear hk hg ho
                go_wp2_with fail
                refine (awake_any HT.out HPk.out _ HE5.out).mono ?_
                rintro e wa ⟨rfl, hba⟩
                have HBa := Lib.hid (HB5.out.trans (hba.mono HB5.out.size))
                clear hba
                go_wp2
                go_ret
                exact ⟨rfl, HBa.out⟩
              · have hkk : (k != 1) = true := by simpa using hk
                clear hk hg ho
                go_wp2_with fail
                refine (awake_any HT.out HPk.out _ HE5.out).mono ?_
                rintro e wa ⟨rfl, hba⟩
                have HBa := Lib.hid (HB5.out.trans (hba.mono HB5.out.size))
                clear hba
                go_wp2
                go_ret
                exact ⟨rfl, HBa.out⟩
        · skip
          have e3 := ne_of0 hE3
          clear hE3
          go_wp2_with fail
          refine (awake_any HT.out HPk.out _ HE4.out).mono ?_
          rintro e wa ⟨rfl, hba⟩
          have HBa := Lib.hid (H4'.out.below.trans (hba.mono H4'.out.below.size))
          clear hba
          go_wp2
          go_ret
          exact ⟨rfl, HBa.out⟩
      · have e2 : (r2 == 0) = false := by simpa using hE2
        clear hE2
        go_wp2_with fail
        refine (HPi.out w3 g _ HE3.out HS3.out (HL.out.below H3'.out.below)).mono ?_
        rintro e w4 ⟨rfl, hs4, hg4⟩
        have HE4 := Lib.hid (HT.out.grown _ _ _ _ _ HE3.out HS3.out hg4)
        have H4' := Lib.hid (H3'.out.grown hg4 hgw)
        have HF3 := Lib.hid (pickD_fit (numV s) _ l k HS3.out.rng.2)
        clear hs4 hg4
        obtain ⟨D3, hD3⟩ : ∃ D3, pickD (numV s) (0 + (f1 : Int) + (f2 : Int)) l k = D3 := ⟨_, rfl⟩
        rw [hD3] at HF3 ⊢
        clear hD3
        obtain ⟨x3, f3, r3⟩ := D3
        unfold two
        dsimp only at HF3 ⊢
        by_cases hE3 : r3 = 0
        · skip
          subst hE3
          obtain ⟨p, rfl, hp, hgt, hone⟩ := HF3.out.2.2.1 rfl
          rw [HN.out] at hp hgt hone
          have hpz : decide ((p : Int) < 0) = false := by simp
          have hpn : decide (N ≤ p) = false := by simp; omega
          have HGt := Lib.hid hgt
          have HOn := Lib.hid hone
          have hL4 := HL.out.below H4'.out.below
          have HCp : Hid (∃ a : Nat × Nat, sp = some ⟨a.1, a.2, none⟩) := Lib.hid (nums_at_ hL4 p (by rw [HN.out]; exact hp))
          obtain ⟨⟨c0, o0⟩, hsp⟩ := HCp.out
          subst hsp
          have HC : Hid (∀ j, j < N → w4.cell? ⟨c0, o0 + j, none⟩ = some (.int .i64 (l.getD j 0))) := Lib.hid (fun j hj => Nums.cell hL4 j (by rw [HN.out]; exact hj))
          clear hL4 hgt hone
          go_wp2
          go_loopw [15, 16] (fun G i wr => ∃ j q : Nat, j ≤ N ∧ i = .int .i64 j ∧ G = .int .i64 (gtC l p j : Int) ∧ wr = w4.drewN q) (fun _ i _ => N - (intOf i).toNat)
          case atStart => exact ⟨0, 0, by omega, rfl, rfl, rfl⟩
          case round =>
            obtain ⟨j, q, hj, rfl, rfl, rfl⟩ := hrel
            by_cases hlt : j < N
            · have hdt : decide (j < N) = true := by simpa using hlt
              have cj := HC.out j hlt
              have cp := HC.out p hp
              have hs := gtC_succ l p j
              have hgl : gtC l p j ≤ j := by
                unfold gtC
                exact Nat.le_trans (List.length_filter_le _ _) (by simp)
              obtain ⟨x, hx⟩ : ∃ x, l.getD j 0 = x := ⟨_, rfl⟩
              obtain ⟨y, hy⟩ : ∃ y, l.getD p 0 = y := ⟨_, rfl⟩
              rw [hx] at cj
              rw [hy] at cp
              rw [hx, hy] at hs
              obtain ⟨G, hG⟩ : ∃ G, gtC l p j = G := ⟨_, rfl⟩
              rw [hG] at hs hgl ⊢
              by_cases hxy : y < x
              · rw [if_pos hxy] at hs
                have HS := Lib.hid hs
                have hd : decide (y < x) = true := by simpa using hxy
                clear hx hy hG hs hxy
                go_wp2
                go_quiet (fail)
                go_wp2
                go_roundw
                case rel => exact ⟨j + 1, _, by omega, by go_num, by rw [HS.out]; go_num, rfl⟩
                case measure => simp [intOf]; omega
              · rw [if_neg hxy] at hs
                have HS := Lib.hid hs
                have hd : decide (y < x) = false := by simpa using hxy
                clear hx hy hG hs hxy
                go_wp2
                go_quiet (fail)
                go_wp2
                go_roundw
                case rel => exact ⟨j + 1, _, by omega, by go_num, by rw [HS.out]; rfl, rfl⟩
                case measure => simp [intOf]; omega
            · obtain rfl : j = N := by omega
              have hdf : decide (j < j) = false := by simp
              have hg := HGt.out
              have ho := HOn.out
              obtain ⟨G, hG⟩ : ∃ G, gtC l p j = G := ⟨_, rfl⟩
              rw [hG] at hg ho ⊢
              have hd : decide ((G : Int) < k) = true := by simpa using hg
              have HE5 := Lib.hid (HE4.out.below (below_drewN (Below.refl w4.heap.size w4) q))
              have HB5 := Lib.hid (H4'.out.below.trans (below_drewN (Below.refl w4.heap.size w4) q |>.mono H4'.out.below.size))
              clear hG hlt hj
              by_cases hk : k = 1
              · have hG0 := ho hk
                have hkk : (k != 1) = false := by simpa using hk
                subst hG0
                have hd2 : decide ((0 : Int) < k) = true := by simpa using hg
                clear hk hg ho
                go_wp2_with fail
                refine (awake_any HT.out HPk.out _ HE5.out).mono ?_
                rintro e wa ⟨rfl, hba⟩
                have HBa := Lib.hid (HB5.out.trans (hba.mono HB5.out.size))
                clear hba
                go_wp2
                go_ret
                exact ⟨rfl, HBa.out⟩
              · have hkk : (k != 1) = true := by simpa using hk
                clear hk hg ho
                go_wp2_with fail
                refine (awake_any HT.out HPk.out _ HE5.out).mono ?_
                rintro e wa ⟨rfl, hba⟩
                have HBa := Lib.hid (HB5.out.trans (hba.mono HB5.out.size))
                clear hba
                go_wp2
                go_ret
                exact ⟨rfl, HBa.out⟩
        · skip
          have e3 := ne_of0 hE3
          clear hE3
          go_wp2_with fail
          refine (awake_any HT.out HPk.out _ HE4.out).mono ?_
          rintro e wa ⟨rfl, hba⟩
          have HBa := Lib.hid (H4'.out.below.trans (hba.mono H4'.out.below.size))
          clear hba
          go_wp2
          go_ret
          exact ⟨rfl, HBa.out⟩
end Go.Proofs.YtmolkbmdfkeniaaDoor.Dr
