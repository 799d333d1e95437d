import Derived.Test.YtchjijifmjbgoaaDoorGw
namespace Go.Proofs.YtchjijifmjbgoaaDoor.Tn
open Go.ChangeShapes Go.WideShapes Go.ChangeAt Go.RowKit Go.Proofs.YtchjijifmjbgoaaDoor.Fx Go.Proofs.YtchjijifmjbgoaaDoor.Rf

set_option maxRecDepth 100000 in
set_option maxHeartbeats 4000000 in
theorem checks_walk {E : World → Prop} (T : TensorOK E) (w : World) (r c i : Int) (sp sq : Option Addr) (cap caq N M : Nat) (l v : List Int) (hN : l.length = N) (hM : v.length = M) (hl : Nums w sp cap l) (hv : Nums w sq caq v) (i1 : -9223372036854775808 ≤ i) (i2 : i ≤ 9223372036854775807) (he : E w) : Calls Tryd.prog 3 #[matV r c sp N cap, .int .i64 i, .slice sq M caq] w fun e w' => e = .returned (.bool true) ∧ Below w.heap.size w w' := by
  have HE := Lib.hid he
  have HT := Lib.hid T
  clear he T
  have HB0 := Lib.hid (Below.refl w.heap.size w)
  have hNm : N ≤ 9223372036854775807 := by rw [← hN]; exact hl.len
  have hMm : M ≤ 9223372036854775807 := by rw [← hM]; exact hv.len
  have hNc : N ≤ cap := by rw [← hN]; exact hl.cap.1
  have HMc := Lib.hid (fun W he hl => HT.out.mcheck W r c sp cap l he hl)
  have HRw := Lib.hid (fun W he hl => HT.out.row W r c i sp cap l he hl i1 i2)
  have HCk := Lib.hid (fun W he hv => HT.out.check W sq caq v he hv)
  have HRm := Lib.hid (fun W hl => rmatrix_any W r c sp cap N l hN hl)
  have HRc := Lib.hid (fun W hv => rcheck_any W sq caq M v hM hv)
  rw [hN] at HMc HRw
  rw [hM] at HCk
  have HL := Lib.hid hl
  have HV := Lib.hid hv
  have HNn := Lib.hid hN
  obtain ⟨cv, hcv⟩ : ∃ x, chkV v = x := ⟨_, rfl⟩
  rw [hcv] at HCk HRc
  unfold matV at HMc HRw ⊢
  clear hl hv hM hcv
  by_cases h1 : 600 < N
  · have d1 : decide ((600 : Int) < (N : Int)) = true := by simp; omega
    clear hN
    go_enter Tryd.func3, Tryd.ntmps3
    go_upto_region 1 with fail
    refine gen_world (Q := fun w => Code.wp _ _ _ _ w) _ (MatAt w r c sp N cap) (MatAt.made w r c sp N cap _ rfl) ?_
    intro W hW
    have HW := Lib.hid hW
    have HB0 := Lib.hid hW.below
    have c0 := hW.c0
    have c1 := hW.c1
    have c2 := hW.c2
    clear hW
    go_wp2_with fail
    refine (awake_any HT.out _ (HT.out.env _ _ HE.out HB0.out)).mono ?_
    rintro e w1 ⟨rfl, hb1⟩
    have HB1 := Lib.hid (HB0.out.trans (hb1.mono HB0.out.size))
    clear hb1
    go_wp2
    go_ret
    exact ⟨rfl, HB1.out⟩
  · have d1 : decide ((600 : Int) < (N : Int)) = false := by simp; omega
    by_cases h2 : 600 < M
    · have d2 : decide ((600 : Int) < (M : Int)) = true := by simp; omega
      clear hN
      go_enter Tryd.func3, Tryd.ntmps3
      go_upto_region 1 with fail
      refine gen_world (Q := fun w => Code.wp _ _ _ _ w) _ (MatAt w r c sp N cap) (MatAt.made w r c sp N cap _ rfl) ?_
      intro W hW
      have HW := Lib.hid hW
      have HB0 := Lib.hid hW.below
      have c0 := hW.c0
      have c1 := hW.c1
      have c2 := hW.c2
      clear hW
      go_wp2_with fail
      refine (awake_any HT.out _ (HT.out.env _ _ HE.out HB0.out)).mono ?_
      rintro e w1 ⟨rfl, hb1⟩
      have HB1 := Lib.hid (HB0.out.trans (hb1.mono HB0.out.size))
      clear hb1
      go_wp2
      go_ret
      exact ⟨rfl, HB1.out⟩
    · have d2 : decide ((600 : Int) < (M : Int)) = false := by simp; omega
      clear h2
      by_cases hk : chkM r c l = 0
      · obtain ⟨R, C, rfl, rfl, r1, r2, k1, k2, hRC, hw⟩ := chkM_ok hN hk
        rw [hk] at HMc HRm
        by_cases hi : 0 ≤ i ∧ i < (R : Int)
        · obtain ⟨q, hq⟩ : ∃ q : Nat, i = (q : Int) := ⟨i.toNat, by omega⟩
          subst hq
          obtain ⟨_, q2⟩ := hi
          have hqR : q < R := by omega
          have hX : rowE (R : Int) (C : Int) l (q : Int) = 0 := by unfold rowE; rw [if_neg (fun h => h hk), if_neg (by omega)]
          have hY : rowV (R : Int) (C : Int) l (q : Int) = rowL l C q := by unfold rowV; rw [if_pos hX, Int.toNat_natCast, Int.toNat_natCast]
          rw [hX, hY] at HRw
          have HRl := Lib.hid (rowL_length (l := l) (C := C) (i := q) (R := R) (by omega) hqR)
          have hin := row_in (C := C) hqR
          have HRn := Lib.hid (fun W (h : Nums W sp cap l) => row_nums h C q (by omega))
          obtain ⟨z, hz⟩ : ∃ z, q * C = z := ⟨_, rfl⟩
          rw [hz] at hin HRn
          have kC := run_mid sp N cap z (z + C) (by omega) (by omega)
          rw [show z + C - z = C by omega] at kC
          have hqc : (q : Int) * (C : Int) = (z : Int) := by rw [← hz, Int.natCast_mul]
          have hzc : ((z + C : Nat) : Int) = (z : Int) + (C : Int) := by omega
          rw [hzc] at kC
          have hzN : z + C ≤ N := by omega
          have hN6 : N ≤ 600 := by omega
          have f1 : decide ((q : Int) < 0) = false := by simp
          have f2 : decide ((R : Int) ≤ (q : Int)) = false := by simp; omega
          have f3 : decide (R ≤ q) = false := by simp; omega
          obtain ⟨X, hXX⟩ : ∃ X, rowL l C q = X := ⟨_, rfl⟩
          rw [hXX] at HRw HRl HRn
          clear hX hY hk hw hN hRC hz hXX hzc i1 i2
          go_enter Tryd.func3, Tryd.ntmps3
          go_upto_region 1 with fail
          refine gen_world (Q := fun w => Code.wp _ _ _ _ w) _ (MatAt w (R : Int) (C : Int) sp N cap) (MatAt.made w (R : Int) (C : Int) sp N cap _ rfl) ?_
          intro W hW
          have HW := Lib.hid hW
          have HB0 := Lib.hid hW.below
          have c0 := hW.c0
          have c1 := hW.c1
          have c2 := hW.c2
          clear hW
          go_wp2_with fail
          refine (HRm.out _ (HL.out.below HB0.out)).mono ?_
          rintro e w' ⟨rfl, rfl⟩
          go_wp2_with (refine wpList_load_row rfl 24 (.tmp 3) rfl w.heap.size rfl 24 (matC (R : Int) (C : Int) sp N cap) (0, 0) _ HW.out.row Tryd.underlying24 rfl size_mat ?_)
          refine (HRw.out _ (HT.out.env _ _ HE.out HB0.out) (HL.out.below HB0.out)).mono ?_
          rintro e w1 ⟨s1, e1, rfl, hn1, hb1⟩
          have HW1 := Lib.hid (HW.out.later hb1)
          have c0 := HW1.out.c0
          have c1 := HW1.out.c1
          have c2 := HW1.out.c2
          have HB1 := Lib.hid HW1.out.below
          have HN1 := Lib.hid hn1
          clear hb1 hn1
          rw [HRl.out]
          go_wp2_with (refine wpList_load_row rfl 24 (.tmp 3) rfl w.heap.size rfl 24 (matC (R : Int) (C : Int) sp N cap) (0, 0) _ HW1.out.row Tryd.underlying24 rfl size_mat ?_)
          refine (HMc.out _ (HT.out.env _ _ HE.out HB1.out) (HL.out.below HB1.out)).mono ?_
          rintro e w2 ⟨rfl, hb2⟩
          have HW2 := Lib.hid (HW1.out.later hb2)
          have HN2 := Lib.hid (HN1.out.below hb2)
          have HB2 := Lib.hid HW2.out.below
          clear hb2
          go_wp2_with fail
          refine (HCk.out _ (HT.out.env _ _ HE.out HB2.out) (HV.out.below HB2.out)).mono ?_
          rintro e w3 ⟨rfl, hb3⟩
          have HW3 := Lib.hid (HW2.out.later hb3)
          have HN3 := Lib.hid (HN2.out.below hb3)
          have HB3 := Lib.hid HW3.out.below
          have c0 := HW3.out.c0
          have c1 := HW3.out.c1
          have c2 := HW3.out.c2
          clear hb3
          go_wp2_with fail
          refine (HRc.out _ (HV.out.below HB3.out)).mono ?_
          rintro e w' ⟨rfl, rfl⟩
          go_wp2_with fail
          refine (ints_same _ _ _ _ _ C X HRl.out HN3.out (HRn.out _ (HL.out.below HB3.out))).mono ?_
          rintro e w4 ⟨rfl, hb4⟩
          have HB4 := Lib.hid (HB3.out.trans (hb4.mono HB3.out.size))
          clear hb4
          go_wp2_with fail
          refine (awake_any HT.out _ (HT.out.env _ _ HE.out HB4.out)).mono ?_
          rintro e w5 ⟨rfl, hb5⟩
          have HB5 := Lib.hid (HB4.out.trans (hb5.mono HB4.out.size))
          clear hb5
          go_wp2
          go_ret
          exact ⟨rfl, HB5.out⟩
        · have hX : rowE (R : Int) (C : Int) l i = 10 := by unfold rowE; rw [if_neg (fun h => h hk), if_pos (by omega)]
          have hY : rowV (R : Int) (C : Int) l i = [] := by unfold rowV; rw [if_neg (by omega)]
          rw [hX, hY] at HRw
          by_cases h0 : i < 0
          · have f1 : decide (i < 0) = true := by simpa using h0
            clear hX hY hk hw hN hRC hi
            go_enter Tryd.func3, Tryd.ntmps3
            go_upto_region 1 with fail
            refine gen_world (Q := fun w => Code.wp _ _ _ _ w) _ (MatAt w (R : Int) (C : Int) sp N cap) (MatAt.made w (R : Int) (C : Int) sp N cap _ rfl) ?_
            intro W hW
            have HW := Lib.hid hW
            have HB0 := Lib.hid hW.below
            have c0 := hW.c0
            have c1 := hW.c1
            have c2 := hW.c2
            clear hW
            go_wp2_with fail
            refine (HRm.out _ (HL.out.below HB0.out)).mono ?_
            rintro e w' ⟨rfl, rfl⟩
            go_wp2_with (refine wpList_load_row rfl 24 (.tmp 3) rfl w.heap.size rfl 24 (matC (R : Int) (C : Int) sp N cap) (0, 0) _ HW.out.row Tryd.underlying24 rfl size_mat ?_)
            refine (HRw.out _ (HT.out.env _ _ HE.out HB0.out) (HL.out.below HB0.out)).mono ?_
            rintro e w1 ⟨s1, e1, rfl, hn1, hb1⟩
            have HW1 := Lib.hid (HW.out.later hb1)
            have c0 := HW1.out.c0
            have c1 := HW1.out.c1
            have c2 := HW1.out.c2
            have HB1 := Lib.hid HW1.out.below
            have HN1 := Lib.hid hn1
            clear hb1 hn1
            rw [show ([] : List Int).length = 0 from rfl]
            go_wp2_with (refine wpList_load_row rfl 24 (.tmp 3) rfl w.heap.size rfl 24 (matC (R : Int) (C : Int) sp N cap) (0, 0) _ HW1.out.row Tryd.underlying24 rfl size_mat ?_)
            refine (HMc.out _ (HT.out.env _ _ HE.out HB1.out) (HL.out.below HB1.out)).mono ?_
            rintro e w2 ⟨rfl, hb2⟩
            have HW2 := Lib.hid (HW1.out.later hb2)
            have HN2 := Lib.hid (HN1.out.below hb2)
            have HB2 := Lib.hid HW2.out.below
            clear hb2
            go_wp2_with fail
            refine (HCk.out _ (HT.out.env _ _ HE.out HB2.out) (HV.out.below HB2.out)).mono ?_
            rintro e w3 ⟨rfl, hb3⟩
            have HW3 := Lib.hid (HW2.out.later hb3)
            have HN3 := Lib.hid (HN2.out.below hb3)
            have HB3 := Lib.hid HW3.out.below
            have c0 := HW3.out.c0
            have c1 := HW3.out.c1
            have c2 := HW3.out.c2
            clear hb3
            go_wp2_with fail
            refine (HRc.out _ (HV.out.below HB3.out)).mono ?_
            rintro e w' ⟨rfl, rfl⟩
            go_wp2_with fail
            refine (awake_any HT.out _ (HT.out.env _ _ HE.out HB3.out)).mono ?_
            rintro e w4 ⟨rfl, hb4⟩
            have HB4 := Lib.hid (HB3.out.trans (hb4.mono HB3.out.size))
            clear hb4
            go_wp2
            go_ret
            exact ⟨rfl, HB4.out⟩
          · have f1 : decide (i < 0) = false := by simpa using h0
            have f2 : decide ((R : Int) ≤ i) = true := by simp; omega
            clear hX hY hk hw hN hRC hi
            go_enter Tryd.func3, Tryd.ntmps3
            go_upto_region 1 with fail
            refine gen_world (Q := fun w => Code.wp _ _ _ _ w) _ (MatAt w (R : Int) (C : Int) sp N cap) (MatAt.made w (R : Int) (C : Int) sp N cap _ rfl) ?_
            intro W hW
            have HW := Lib.hid hW
            have HB0 := Lib.hid hW.below
            have c0 := hW.c0
            have c1 := hW.c1
            have c2 := hW.c2
            clear hW
            go_wp2_with fail
            refine (HRm.out _ (HL.out.below HB0.out)).mono ?_
            rintro e w' ⟨rfl, rfl⟩
            go_wp2_with (refine wpList_load_row rfl 24 (.tmp 3) rfl w.heap.size rfl 24 (matC (R : Int) (C : Int) sp N cap) (0, 0) _ HW.out.row Tryd.underlying24 rfl size_mat ?_)
            refine (HRw.out _ (HT.out.env _ _ HE.out HB0.out) (HL.out.below HB0.out)).mono ?_
            rintro e w1 ⟨s1, e1, rfl, hn1, hb1⟩
            have HW1 := Lib.hid (HW.out.later hb1)
            have c0 := HW1.out.c0
            have c1 := HW1.out.c1
            have c2 := HW1.out.c2
            have HB1 := Lib.hid HW1.out.below
            have HN1 := Lib.hid hn1
            clear hb1 hn1
            rw [show ([] : List Int).length = 0 from rfl]
            go_wp2_with (refine wpList_load_row rfl 24 (.tmp 3) rfl w.heap.size rfl 24 (matC (R : Int) (C : Int) sp N cap) (0, 0) _ HW1.out.row Tryd.underlying24 rfl size_mat ?_)
            refine (HMc.out _ (HT.out.env _ _ HE.out HB1.out) (HL.out.below HB1.out)).mono ?_
            rintro e w2 ⟨rfl, hb2⟩
            have HW2 := Lib.hid (HW1.out.later hb2)
            have HN2 := Lib.hid (HN1.out.below hb2)
            have HB2 := Lib.hid HW2.out.below
            clear hb2
            go_wp2_with fail
            refine (HCk.out _ (HT.out.env _ _ HE.out HB2.out) (HV.out.below HB2.out)).mono ?_
            rintro e w3 ⟨rfl, hb3⟩
            have HW3 := Lib.hid (HW2.out.later hb3)
            have HN3 := Lib.hid (HN2.out.below hb3)
            have HB3 := Lib.hid HW3.out.below
            have c0 := HW3.out.c0
            have c1 := HW3.out.c1
            have c2 := HW3.out.c2
            clear hb3
            go_wp2_with fail
            refine (HRc.out _ (HV.out.below HB3.out)).mono ?_
            rintro e w' ⟨rfl, rfl⟩
            go_wp2_with fail
            refine (awake_any HT.out _ (HT.out.env _ _ HE.out HB3.out)).mono ?_
            rintro e w4 ⟨rfl, hb4⟩
            have HB4 := Lib.hid (HB3.out.trans (hb4.mono HB3.out.size))
            clear hb4
            go_wp2
            go_ret
            exact ⟨rfl, HB4.out⟩
      · have hX : rowE r c l i = chkM r c l := by unfold rowE; rw [if_pos hk]
        have hY : rowV r c l i = [] := by unfold rowV; rw [if_neg (by rw [hX]; exact hk)]
        rw [hX, hY] at HRw
        obtain ⟨y, hy⟩ : ∃ x, chkM r c l = x := ⟨_, rfl⟩
        rw [hy] at HMc HRw HRm hk
        have f1 : (y != 0) = true := by simpa using hk
        clear hX hY hk hN hy
        go_enter Tryd.func3, Tryd.ntmps3
        go_upto_region 1 with fail
        refine gen_world (Q := fun w => Code.wp _ _ _ _ w) _ (MatAt w r c sp N cap) (MatAt.made w r c sp N cap _ rfl) ?_
        intro W hW
        have HW := Lib.hid hW
        have HB0 := Lib.hid hW.below
        have c0 := hW.c0
        have c1 := hW.c1
        have c2 := hW.c2
        clear hW
        go_wp2_with fail
        refine (HRm.out _ (HL.out.below HB0.out)).mono ?_
        rintro e w' ⟨rfl, rfl⟩
        go_wp2_with (refine wpList_load_row rfl 24 (.tmp 3) rfl w.heap.size rfl 24 (matC r c sp N cap) (0, 0) _ HW.out.row Tryd.underlying24 rfl size_mat ?_)
        refine (HRw.out _ (HT.out.env _ _ HE.out HB0.out) (HL.out.below HB0.out)).mono ?_
        rintro e w1 ⟨s1, e1, rfl, hn1, hb1⟩
        have HW1 := Lib.hid (HW.out.later hb1)
        have c0 := HW1.out.c0
        have c1 := HW1.out.c1
        have c2 := HW1.out.c2
        have HB1 := Lib.hid HW1.out.below
        have HN1 := Lib.hid hn1
        clear hb1 hn1
        rw [show ([] : List Int).length = 0 from rfl]
        go_wp2_with (refine wpList_load_row rfl 24 (.tmp 3) rfl w.heap.size rfl 24 (matC r c sp N cap) (0, 0) _ HW1.out.row Tryd.underlying24 rfl size_mat ?_)
        refine (HMc.out _ (HT.out.env _ _ HE.out HB1.out) (HL.out.below HB1.out)).mono ?_
        rintro e w2 ⟨rfl, hb2⟩
        have HW2 := Lib.hid (HW1.out.later hb2)
        have HN2 := Lib.hid (HN1.out.below hb2)
        have HB2 := Lib.hid HW2.out.below
        clear hb2
        go_wp2_with fail
        refine (HCk.out _ (HT.out.env _ _ HE.out HB2.out) (HV.out.below HB2.out)).mono ?_
        rintro e w3 ⟨rfl, hb3⟩
        have HW3 := Lib.hid (HW2.out.later hb3)
        have HN3 := Lib.hid (HN2.out.below hb3)
        have HB3 := Lib.hid HW3.out.below
        have c0 := HW3.out.c0
        have c1 := HW3.out.c1
        have c2 := HW3.out.c2
        clear hb3
        go_wp2_with fail
        refine (HRc.out _ (HV.out.below HB3.out)).mono ?_
        rintro e w' ⟨rfl, rfl⟩
        go_wp2_with fail
        refine (awake_any HT.out _ (HT.out.env _ _ HE.out HB3.out)).mono ?_
        rintro e w4 ⟨rfl, hb4⟩
        have HB4 := Lib.hid (HB3.out.trans (hb4.mono HB3.out.size))
        clear hb4
        go_wp2
        go_ret
        exact ⟨rfl, HB4.out⟩
end Go.Proofs.YtchjijifmjbgoaaDoor.Tn
