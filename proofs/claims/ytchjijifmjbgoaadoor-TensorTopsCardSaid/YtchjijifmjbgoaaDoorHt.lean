import Derived.Test.YtchjijifmjbgoaaDoorGv
namespace Go.Proofs.YtchjijifmjbgoaaDoor.Tn
open Go.ChangeShapes Go.WideShapes Go.ChangeAt Go.RowKit Go.Proofs.YtchjijifmjbgoaaDoor.Fx Go.Proofs.YtchjijifmjbgoaaDoor.Rf

set_option maxRecDepth 100000 in
set_option maxHeartbeats 4000000 in
theorem tops_walk {E : World → Prop} (T : TensorOK E) (w : World) (sp : Option Addr) (cap N : Nat) (l : List Int) (k : Int) (hN : l.length = N) (hl : Nums w sp cap l) (TT : TopAll E) (k1 : -9223372036854775808 ≤ k) (k2 : k ≤ 9223372036854775807) (he : E w) : Calls Tryd.prog 8 #[.slice sp N cap, .int .i64 k] w fun e w' => e = .returned (.bool true) ∧ Below w.heap.size w w' := by
  have HE := Lib.hid he
  have HT := Lib.hid T
  clear he T
  have HB0 := Lib.hid (Below.refl w.heap.size w)
  have hNm : N ≤ 9223372036854775807 := by rw [← hN]; exact hl.len
  have HTp := Lib.hid (fun W he hl => TT W sp cap l k he hl k1 k2)
  have HMo := Lib.hid (fun W he hl => HT.out.most W sp cap l he hl)
  have HCk := Lib.hid (fun W hl => rcheck_any W sp cap N l hN hl)
  rw [hN] at HTp HMo
  have HL := Lib.hid hl
  have HNn := Lib.hid hN
  clear hl
  by_cases h1 : 600 < N
  · have d1 : decide ((600 : Int) < (N : Int)) = true := by simp; omega
    clear hN
    go_enter Tryd.func8, Tryd.ntmps8
    go_wp2_with fail
    refine (awake_any HT.out _ (HT.out.env _ _ HE.out HB0.out)).mono ?_
    rintro e w1 ⟨rfl, hb1⟩
    have HB1 := Lib.hid (HB0.out.trans (hb1.mono HB0.out.size))
    clear hb1
    go_wp2
    go_ret
    exact ⟨rfl, HB1.out⟩
  · have d1 : decide ((600 : Int) < (N : Int)) = false := by simp; omega
    by_cases hc : chkV l = 0
    · have hsz : 1 ≤ N ∧ N ≤ 512 := by
        have h := hc
        unfold chkV at h
        rw [hN] at h
        by_cases hh : N < 1 ∨ 512 < N
        · rw [if_pos hh] at h; omega
        · omega
      obtain ⟨z1, z2⟩ := hsz
      have hMs : mostR l = (nextT l [] : Int) := by unfold mostR; rw [if_pos hc]
      have ht1 : topI l 1 = [(nextT l [] : Int)] := rfl
      have hnx := (top_one (l := l) (by omega)).2
      rw [hN] at hnx
      rw [hMs, hc] at HMo
      rw [hc] at HCk
      have HR1 := Lib.hid (fun W hl => rtop_any W sp cap N 1 l hN hl z2 (by omega) (by omega))
      rw [ht1] at HR1
      obtain ⟨P, hP⟩ : ∃ P, nextT l [] = P := ⟨_, rfl⟩
      rw [hP] at HMo HR1 hnx
      clear hP hMs ht1
      by_cases hk : 1 ≤ k ∧ k ≤ (N : Int)
      · obtain ⟨m, hm⟩ : ∃ m : Nat, k = (m : Int) := ⟨k.toNat, by omega⟩
        subst hm
        obtain ⟨q1, q2⟩ := hk
        have HX : Hid (topE l (m : Int) = 0 ∧ topV l (m : Int) = topI l m) := Lib.hid (by
          have h1 : topE l (m : Int) = 0 := by unfold topE; rw [if_neg (fun h => h hc), if_neg (by omega)]
          refine ⟨h1, ?_⟩
          unfold topV
          rw [if_pos h1, Int.toNat_natCast])
        rw [HX.out.1, HX.out.2] at HTp
        have HR2 := Lib.hid (fun W hl => rtop_any W sp cap N m l hN hl z2 (by omega) (by omega))
        have HTl := Lib.hid (topI_length l m)
        have e1 : decide ((m : Int) < 1) = false := by simp; omega
        have e2 : decide ((N : Int) < (m : Int)) = false := by simp; omega
        have e3 : decide (N < m) = false := by simp; omega
        clear hN hc HX
        go_enter Tryd.func8, Tryd.ntmps8
        go_wp2_with fail
        refine (HTp.out _ (HT.out.env _ _ HE.out HB0.out) (HL.out.below HB0.out)).mono ?_
        rintro e w1 ⟨s1, c1, rfl, hn1, hb1⟩
        rw [HTl.out]
        have HB1 := Lib.hid (HB0.out.trans (hb1.mono HB0.out.size))
        have HN1 := Lib.hid hn1
        clear hb1 hn1
        go_wp2_with fail
        refine (HMo.out _ (HT.out.env _ _ HE.out HB1.out) (HL.out.below HB1.out)).mono ?_
        rintro e w2 ⟨rfl, hb2⟩
        have HB2 := Lib.hid (HB1.out.trans (hb2.mono HB1.out.size))
        have H12 : Hid (Below w1.heap.size w1 w2) := Lib.hid hb2
        clear hb2
        go_wp2_with fail
        refine (HCk.out _ (HL.out.below HB2.out)).mono ?_
        rintro e w' ⟨rfl, rfl⟩
        go_wp2_with fail
        refine (HR1.out _ (HL.out.below HB2.out)).mono ?_
        rintro e w3 ⟨s3, c3, rfl, hn3, hb3⟩
        obtain ⟨g3, o3, he3, hc3⟩ := Nums.at_ hn3 0 (by simp)
        subst he3
        rw [Nat.add_zero, show [(P : Int)].getD 0 0 = (P : Int) from rfl] at hc3
        rw [show [(P : Int)].length = 1 from rfl]
        have HB3 := Lib.hid (HB2.out.trans (hb3.mono HB2.out.size))
        have Hb13 : Hid (Below w1.heap.size w1 w3) := Lib.hid (H12.out.trans (hb3.mono H12.out.size))
        clear hb3 hn3
        go_wp2_with fail
        refine (HR2.out _ (HL.out.below HB3.out)).mono ?_
        rintro e w4 ⟨s4, c4, rfl, hn4, hb4⟩
        rw [HTl.out]
        have HB4 := Lib.hid (HB3.out.trans (hb4.mono HB3.out.size))
        have HN4 := Lib.hid hn4
        have HN1b := Lib.hid (HN1.out.below (Below.trans (show Below w1.heap.size w1 w3 from Hb13.out) (hb4.mono Hb13.out.size)))
        clear hb4 hn4
        go_wp2_with fail
        refine (ints_same _ _ _ _ _ m (topI l m) HTl.out HN1b.out HN4.out).mono ?_
        rintro e w5 ⟨rfl, hb5⟩
        have HB5 := Lib.hid (HB4.out.trans (hb5.mono HB4.out.size))
        clear hb5
        go_wp2_with fail
        refine (awake_any HT.out _ (HT.out.env _ _ HE.out HB5.out)).mono ?_
        rintro e w6 ⟨rfl, hb6⟩
        have HB6 := Lib.hid (HB5.out.trans (hb6.mono HB5.out.size))
        clear hb6
        go_wp2
        go_ret
        exact ⟨rfl, HB6.out⟩
      · have HX : Hid (topE l k = 10 ∧ topV l k = []) := Lib.hid (by
          have h1 : topE l k = 10 := by unfold topE; rw [if_neg (fun h => h hc), if_pos (by omega)]
          refine ⟨h1, ?_⟩
          unfold topV
          rw [if_neg (by omega)])
        rw [HX.out.1, HX.out.2] at HTp
        have HK := Lib.hid hk
        clear hN hc HX hk
        by_cases e : k < 1
        · have e1 : decide (k < 1) = true := by simpa using e
          go_enter Tryd.func8, Tryd.ntmps8
          go_wp2_with fail
          refine (HTp.out _ (HT.out.env _ _ HE.out HB0.out) (HL.out.below HB0.out)).mono ?_
          rintro e w1 ⟨s1, c1, rfl, hn1, hb1⟩
          have HB1 := Lib.hid (HB0.out.trans (hb1.mono HB0.out.size))
          have HN1 := Lib.hid hn1
          clear hb1 hn1
          rw [show ([] : List Int).length = 0 from rfl]
          go_wp2_with fail
          refine (HMo.out _ (HT.out.env _ _ HE.out HB1.out) (HL.out.below HB1.out)).mono ?_
          rintro e w2 ⟨rfl, hb2⟩
          have HB2 := Lib.hid (HB1.out.trans (hb2.mono HB1.out.size))
          have H12 : Hid (Below w1.heap.size w1 w2) := Lib.hid hb2
          clear hb2
          go_wp2_with fail
          refine (HCk.out _ (HL.out.below HB2.out)).mono ?_
          rintro e w' ⟨rfl, rfl⟩
          go_wp2_with fail
          refine (HR1.out _ (HL.out.below HB2.out)).mono ?_
          rintro e w3 ⟨s3, c3, rfl, hn3, hb3⟩
          obtain ⟨g3, o3, he3, hc3⟩ := Nums.at_ hn3 0 (by simp)
          subst he3
          rw [Nat.add_zero, show [(P : Int)].getD 0 0 = (P : Int) from rfl] at hc3
          rw [show [(P : Int)].length = 1 from rfl]
          have HB3 := Lib.hid (HB2.out.trans (hb3.mono HB2.out.size))
          have Hb13 : Hid (Below w1.heap.size w1 w3) := Lib.hid (H12.out.trans (hb3.mono H12.out.size))
          clear hb3 hn3
          go_wp2_with fail
          refine (awake_any HT.out _ (HT.out.env _ _ HE.out HB3.out)).mono ?_
          rintro e w4 ⟨rfl, hb4⟩
          have HB4 := Lib.hid (HB3.out.trans (hb4.mono HB3.out.size))
          clear hb4
          go_wp2
          go_ret
          exact ⟨rfl, HB4.out⟩
        · have e1 : decide (k < 1) = false := by simpa using e
          have e2 : decide ((N : Int) < k) = true := by have := HK.out; simp; omega
          go_enter Tryd.func8, Tryd.ntmps8
          go_wp2_with fail
          refine (HTp.out _ (HT.out.env _ _ HE.out HB0.out) (HL.out.below HB0.out)).mono ?_
          rintro e w1 ⟨s1, c1, rfl, hn1, hb1⟩
          have HB1 := Lib.hid (HB0.out.trans (hb1.mono HB0.out.size))
          have HN1 := Lib.hid hn1
          clear hb1 hn1
          rw [show ([] : List Int).length = 0 from rfl]
          go_wp2_with fail
          refine (HMo.out _ (HT.out.env _ _ HE.out HB1.out) (HL.out.below HB1.out)).mono ?_
          rintro e w2 ⟨rfl, hb2⟩
          have HB2 := Lib.hid (HB1.out.trans (hb2.mono HB1.out.size))
          have H12 : Hid (Below w1.heap.size w1 w2) := Lib.hid hb2
          clear hb2
          go_wp2_with fail
          refine (HCk.out _ (HL.out.below HB2.out)).mono ?_
          rintro e w' ⟨rfl, rfl⟩
          go_wp2_with fail
          refine (HR1.out _ (HL.out.below HB2.out)).mono ?_
          rintro e w3 ⟨s3, c3, rfl, hn3, hb3⟩
          obtain ⟨g3, o3, he3, hc3⟩ := Nums.at_ hn3 0 (by simp)
          subst he3
          rw [Nat.add_zero, show [(P : Int)].getD 0 0 = (P : Int) from rfl] at hc3
          rw [show [(P : Int)].length = 1 from rfl]
          have HB3 := Lib.hid (HB2.out.trans (hb3.mono HB2.out.size))
          have Hb13 : Hid (Below w1.heap.size w1 w3) := Lib.hid (H12.out.trans (hb3.mono H12.out.size))
          clear hb3 hn3
          go_wp2_with fail
          refine (awake_any HT.out _ (HT.out.env _ _ HE.out HB3.out)).mono ?_
          rintro e w4 ⟨rfl, hb4⟩
          have HB4 := Lib.hid (HB3.out.trans (hb4.mono HB3.out.size))
          clear hb4
          go_wp2
          go_ret
          exact ⟨rfl, HB4.out⟩
    · have HX : Hid (topE l k = chkV l ∧ topV l k = []) := Lib.hid (by
        have h1 : topE l k = chkV l := by unfold topE; rw [if_pos hc]
        refine ⟨h1, ?_⟩
        unfold topV
        rw [if_neg (by rw [h1]; exact hc)])
      have hMs : mostR l = 0 := by unfold mostR; rw [if_neg hc]
      rw [HX.out.1, HX.out.2] at HTp
      rw [hMs] at HMo
      obtain ⟨y, hy⟩ : ∃ x, chkV l = x := ⟨_, rfl⟩
      rw [hy] at HTp HMo HCk hc
      have e1 : (y != 0) = true := by simpa using hc
      have e2 : (y == 0) = false := by simpa using hc
      clear hN hc HX hMs hy
      go_enter Tryd.func8, Tryd.ntmps8
      go_wp2_with fail
      refine (HTp.out _ (HT.out.env _ _ HE.out HB0.out) (HL.out.below HB0.out)).mono ?_
      rintro e w1 ⟨s1, c1, rfl, hn1, hb1⟩
      have HB1 := Lib.hid (HB0.out.trans (hb1.mono HB0.out.size))
      have HN1 := Lib.hid hn1
      clear hb1 hn1
      rw [show ([] : List Int).length = 0 from rfl]
      go_wp2_with fail
      refine (HMo.out _ (HT.out.env _ _ HE.out HB1.out) (HL.out.below HB1.out)).mono ?_
      rintro e w2 ⟨rfl, hb2⟩
      have HB2 := Lib.hid (HB1.out.trans (hb2.mono HB1.out.size))
      have H12 : Hid (Below w1.heap.size w1 w2) := Lib.hid hb2
      clear hb2
      go_wp2_with fail
      refine (HCk.out _ (HL.out.below HB2.out)).mono ?_
      rintro e w' ⟨rfl, rfl⟩
      go_wp2_with fail
      refine (awake_any HT.out _ (HT.out.env _ _ HE.out HB2.out)).mono ?_
      rintro e w3 ⟨rfl, hb3⟩
      have HB3 := Lib.hid (HB2.out.trans (hb3.mono HB2.out.size))
      clear hb3
      go_wp2
      go_ret
      exact ⟨rfl, HB3.out⟩
end Go.Proofs.YtchjijifmjbgoaaDoor.Tn
