import Derived.Test.YtchjijifmjbgoaaDoorGr
namespace Go.Proofs.YtchjijifmjbgoaaDoor.Tn
open Go.ChangeShapes Go.WideShapes Go.ChangeAt Go.RowKit Go.Proofs.YtchjijifmjbgoaaDoor.Fx Go.Proofs.YtchjijifmjbgoaaDoor.Rf

set_option maxRecDepth 100000 in
set_option maxHeartbeats 4000000 in
theorem rows_walk {E : World → Prop} (T : TensorOK E) (w : World) (ra ca rb cb : Int) (sp sq sr : Option Addr) (cap caq car N M K : Nat) (la lb v : List Int) (hN : la.length = N) (hM : lb.length = M) (hK : v.length = K) (hla : Nums w sp cap la) (hlb : Nums w sq caq lb) (hv : Nums w sr car v) (he : E w) : Calls Tryd.prog 10 #[matV ra ca sp N cap, matV rb cb sq M caq, .slice sr K car] w fun e w' => e = .returned (.bool true) ∧ Below w.heap.size w w' := by
  have HE := Lib.hid he
  have HT := Lib.hid T
  clear he T
  have HB0 := Lib.hid (Below.refl w.heap.size w)
  have hNm : N ≤ 9223372036854775807 := by rw [← hN]; exact hla.len
  have hMm : M ≤ 9223372036854775807 := by rw [← hM]; exact hlb.len
  have hKm : K ≤ 9223372036854775807 := by rw [← hK]; exact hv.len
  have HCa := Lib.hid (fun W he hl => HT.out.mcheck W ra ca sp cap la he hl)
  have HCb := Lib.hid (fun W he hl => HT.out.mcheck W rb cb sq caq lb he hl)
  rw [hN] at HCa
  rw [hM] at HCb
  have HLa := Lib.hid hla
  have HLb := Lib.hid hlb
  have HV := Lib.hid hv
  unfold matV at HCa HCb ⊢
  clear hla hlb hv
  by_cases b6 : 300 < N
  · have d1 : decide ((300 : Int) < (N : Int)) = true := by simp; omega
    clear hN hM hK
    go_enter Tryd.func10, Tryd.ntmps10
    go_upto_region 1 with fail
    refine gen_world (Q := fun w => Code.wp _ _ _ _ w) _ (RwA w ra ca sp N cap rb cb sq M caq) (RwA.made w ra ca sp N cap rb cb sq M caq _ _ rfl rfl) ?_
    intro W0 hW
    have HW0 := Lib.hid hW
    have HB0 := Lib.hid hW.below
    clear hW
    have a0 := HW0.out.a0
    have a1 := HW0.out.a1
    have a2 := HW0.out.a2
    have b0 := HW0.out.b0
    have b1 := HW0.out.b1
    have b2 := HW0.out.b2
    go_wp2_with fail
    refine (awake_any HT.out _ (HT.out.env _ _ HE.out HB0.out)).mono ?_
    rintro e w1 ⟨rfl, hb1⟩
    have HB1 := Lib.hid (HB0.out.trans (hb1.mono HB0.out.size))
    clear hb1
    go_wp2
    go_ret
    exact ⟨rfl, HB1.out⟩
  · have d1 : decide ((300 : Int) < (N : Int)) = false := by simp; omega
    by_cases b5 : 300 < M
    · have d2 : decide ((300 : Int) < (M : Int)) = true := by simp; omega
      clear hN hM hK
      go_enter Tryd.func10, Tryd.ntmps10
      go_upto_region 1 with fail
      refine gen_world (Q := fun w => Code.wp _ _ _ _ w) _ (RwA w ra ca sp N cap rb cb sq M caq) (RwA.made w ra ca sp N cap rb cb sq M caq _ _ rfl rfl) ?_
      intro W0 hW
      have HW0 := Lib.hid hW
      have HB0 := Lib.hid hW.below
      clear hW
      have a0 := HW0.out.a0
      have a1 := HW0.out.a1
      have a2 := HW0.out.a2
      have b0 := HW0.out.b0
      have b1 := HW0.out.b1
      have b2 := HW0.out.b2
      go_wp2_with fail
      refine (awake_any HT.out _ (HT.out.env _ _ HE.out HB0.out)).mono ?_
      rintro e w1 ⟨rfl, hb1⟩
      have HB1 := Lib.hid (HB0.out.trans (hb1.mono HB0.out.size))
      clear hb1
      go_wp2
      go_ret
      exact ⟨rfl, HB1.out⟩
    · have d2 : decide ((300 : Int) < (M : Int)) = false := by simp; omega
      by_cases b4 : 64 < K
      · have d3 : decide ((64 : Int) < (K : Int)) = true := by simp; omega
        clear hN hM hK
        go_enter Tryd.func10, Tryd.ntmps10
        go_upto_region 1 with fail
        refine gen_world (Q := fun w => Code.wp _ _ _ _ w) _ (RwA w ra ca sp N cap rb cb sq M caq) (RwA.made w ra ca sp N cap rb cb sq M caq _ _ rfl rfl) ?_
        intro W0 hW
        have HW0 := Lib.hid hW
        have HB0 := Lib.hid hW.below
        clear hW
        have a0 := HW0.out.a0
        have a1 := HW0.out.a1
        have a2 := HW0.out.a2
        have b0 := HW0.out.b0
        have b1 := HW0.out.b1
        have b2 := HW0.out.b2
        go_wp2_with fail
        refine (awake_any HT.out _ (HT.out.env _ _ HE.out HB0.out)).mono ?_
        rintro e w1 ⟨rfl, hb1⟩
        have HB1 := Lib.hid (HB0.out.trans (hb1.mono HB0.out.size))
        clear hb1
        go_wp2
        go_ret
        exact ⟨rfl, HB1.out⟩
      · have d3 : decide ((64 : Int) < (K : Int)) = false := by simp; omega
        by_cases b3 : ca ≠ cb
        · have e1 : (ca != cb) = true := by simpa using b3
          clear hN hM hK
          go_enter Tryd.func10, Tryd.ntmps10
          go_upto_region 1 with fail
          refine gen_world (Q := fun w => Code.wp _ _ _ _ w) _ (RwA w ra ca sp N cap rb cb sq M caq) (RwA.made w ra ca sp N cap rb cb sq M caq _ _ rfl rfl) ?_
          intro W0 hW
          have HW0 := Lib.hid hW
          have HB0 := Lib.hid hW.below
          clear hW
          have a0 := HW0.out.a0
          have a1 := HW0.out.a1
          have a2 := HW0.out.a2
          have b0 := HW0.out.b0
          have b1 := HW0.out.b1
          have b2 := HW0.out.b2
          go_wp2_with fail
          refine (awake_any HT.out _ (HT.out.env _ _ HE.out HB0.out)).mono ?_
          rintro e w1 ⟨rfl, hb1⟩
          have HB1 := Lib.hid (HB0.out.trans (hb1.mono HB0.out.size))
          clear hb1
          go_wp2
          go_ret
          exact ⟨rfl, HB1.out⟩
        · have hcc : ca = cb := by simpa using b3
          subst hcc
          have e1 : (ca != ca) = false := by simp
          by_cases b2 : chkM ra ca la ≠ 0
          · obtain ⟨y, hy⟩ : ∃ x, chkM ra ca la = x := ⟨_, rfl⟩
            rw [hy] at HCa b2
            have e1 : (y != 0) = true := by simpa using b2
            clear hy
            clear hN hM hK
            go_enter Tryd.func10, Tryd.ntmps10
            go_upto_region 1 with fail
            refine gen_world (Q := fun w => Code.wp _ _ _ _ w) _ (RwA w ra ca sp N cap rb ca sq M caq) (RwA.made w ra ca sp N cap rb ca sq M caq _ _ rfl rfl) ?_
            intro W0 hW
            have HW0 := Lib.hid hW
            have HB0 := Lib.hid hW.below
            clear hW
            have a0 := HW0.out.a0
            have a1 := HW0.out.a1
            have a2 := HW0.out.a2
            have b0 := HW0.out.b0
            have b1 := HW0.out.b1
            have b2 := HW0.out.b2
            go_wp2_with (first
              | (refine wpList_load_row rfl 24 (.tmp 3) rfl w.heap.size rfl 24 (matC ra ca sp N cap) (0, 0) _ HW0.out.a Tryd.underlying24 rfl size_mat ?_)
              | (refine wpList_load_row rfl 24 (.tmp 4) rfl (w.heap.size + 1) rfl 24 (matC rb ca sq M caq) (0, 0) _ HW0.out.b Tryd.underlying24 rfl size_mat ?_))
            refine (HCa.out _ (HT.out.env _ _ HE.out HB0.out) (HLa.out.below HB0.out)).mono ?_
            rintro e w1 ⟨rfl, hb1⟩
            have HW1 := Lib.hid (HW0.out.later hb1)
            have HB1 := Lib.hid HW1.out.below
            clear hb1 a0 a1 a2 b0 b1 b2
            have a0 := HW1.out.a0
            have a1 := HW1.out.a1
            have a2 := HW1.out.a2
            have b0 := HW1.out.b0
            have b1 := HW1.out.b1
            have b2 := HW1.out.b2
            go_wp2_with fail
            refine (awake_any HT.out _ (HT.out.env _ _ HE.out HB1.out)).mono ?_
            rintro e w2 ⟨rfl, hb2⟩
            have HB2 := Lib.hid (HB1.out.trans (hb2.mono HB1.out.size))
            clear hb2
            go_wp2
            go_ret
            exact ⟨rfl, HB2.out⟩
          · have hk1 : chkM ra ca la = 0 := by simpa using b2
            rw [hk1] at HCa
            by_cases b1 : chkM rb ca lb ≠ 0
            · obtain ⟨y, hy⟩ : ∃ x, chkM rb ca lb = x := ⟨_, rfl⟩
              rw [hy] at HCb b1
              have e1 : (y != 0) = true := by simpa using b1
              clear hy
              clear hN hM hK
              go_enter Tryd.func10, Tryd.ntmps10
              go_upto_region 1 with fail
              refine gen_world (Q := fun w => Code.wp _ _ _ _ w) _ (RwA w ra ca sp N cap rb ca sq M caq) (RwA.made w ra ca sp N cap rb ca sq M caq _ _ rfl rfl) ?_
              intro W0 hW
              have HW0 := Lib.hid hW
              have HB0 := Lib.hid hW.below
              clear hW
              have a0 := HW0.out.a0
              have a1 := HW0.out.a1
              have a2 := HW0.out.a2
              have b0 := HW0.out.b0
              have b1 := HW0.out.b1
              have b2 := HW0.out.b2
              go_wp2_with (first
                | (refine wpList_load_row rfl 24 (.tmp 3) rfl w.heap.size rfl 24 (matC ra ca sp N cap) (0, 0) _ HW0.out.a Tryd.underlying24 rfl size_mat ?_)
                | (refine wpList_load_row rfl 24 (.tmp 4) rfl (w.heap.size + 1) rfl 24 (matC rb ca sq M caq) (0, 0) _ HW0.out.b Tryd.underlying24 rfl size_mat ?_))
              refine (HCa.out _ (HT.out.env _ _ HE.out HB0.out) (HLa.out.below HB0.out)).mono ?_
              rintro e w1 ⟨rfl, hb1⟩
              have HW1 := Lib.hid (HW0.out.later hb1)
              have HB1 := Lib.hid HW1.out.below
              clear hb1 a0 a1 a2 b0 b1 b2
              have a0 := HW1.out.a0
              have a1 := HW1.out.a1
              have a2 := HW1.out.a2
              have b0 := HW1.out.b0
              have b1 := HW1.out.b1
              have b2 := HW1.out.b2
              go_wp2_with (first
                | (refine wpList_load_row rfl 24 (.tmp 3) rfl w.heap.size rfl 24 (matC ra ca sp N cap) (0, 0) _ HW1.out.a Tryd.underlying24 rfl size_mat ?_)
                | (refine wpList_load_row rfl 24 (.tmp 4) rfl (w.heap.size + 1) rfl 24 (matC rb ca sq M caq) (0, 0) _ HW1.out.b Tryd.underlying24 rfl size_mat ?_))
              refine (HCb.out _ (HT.out.env _ _ HE.out HB1.out) (HLb.out.below HB1.out)).mono ?_
              rintro e w2 ⟨rfl, hb2⟩
              have HW2 := Lib.hid (HW1.out.later hb2)
              have HB2 := Lib.hid HW2.out.below
              clear hb2 a0 a1 a2 b0 b1 b2
              have a0 := HW2.out.a0
              have a1 := HW2.out.a1
              have a2 := HW2.out.a2
              have b0 := HW2.out.b0
              have b1 := HW2.out.b1
              have b2 := HW2.out.b2
              go_wp2_with fail
              refine (awake_any HT.out _ (HT.out.env _ _ HE.out HB2.out)).mono ?_
              rintro e w3 ⟨rfl, hb3⟩
              have HB3 := Lib.hid (HB2.out.trans (hb3.mono HB2.out.size))
              clear hb3
              go_wp2
              go_ret
              exact ⟨rfl, HB3.out⟩
            · have hk2 : chkM rb ca lb = 0 := by simpa using b1
              rw [hk2] at HCb
              obtain ⟨Ra, C, rfl, rfl, r1, r2, r3, r4, hRa, hwa⟩ := chkM_ok hN hk1
              obtain ⟨Rb, C2, rfl, hC2, s1, s2, s3, s4, hRb, hwb⟩ := chkM_ok hM hk2
              have hC3 : C2 = C := by omega
              subst hC3
              have HRa := Lib.hid hRa
              have HRb := Lib.hid hRb
              have HKa := Lib.hid hk1
              have HKb := Lib.hid hk2
              have HWa := Lib.hid hwa
              have HWb := Lib.hid hwb
              have HNn := Lib.hid hN
              have HMn := Lib.hid hM
              have HKn := Lib.hid hK
              have hN3 : N ≤ 300 := by omega
              have HMa := Lib.hid (fun W he hl hv => HT.out.mul W (Ra : Int) (C2 : Int) sp sr cap car la v he hl hv)
              have HMb := Lib.hid (fun W he hl hv => HT.out.mul W (Rb : Int) (C2 : Int) sq sr caq car lb v he hl hv)
              have HMc := Lib.hid (fun W so co he hl hv => HT.out.mul W ((Ra + Rb : Nat) : Int) (C2 : Int) so sr co car (la ++ lb) v he hl hv)
              have HMz := Lib.hid (fun W s c he hl hv => HT.out.mul W (Ra : Int) (C2 : Int) sp s cap c la (List.replicate C2 0) he hl hv)
              rw [hN, hK] at HMa
              rw [hM, hK] at HMb
              rw [List.length_append, hN, hM, hK] at HMc
              rw [hN, List.length_replicate, (mul_noughts hk1 (hN.trans hRa) s3 s4 hwa).1, (mul_noughts hk1 (hN.trans hRa) s3 s4 hwa).2] at HMz
              have hM3 : M ≤ 300 := by omega
              clear hC2 b1 b2 b3 hRa hRb hk1 hk2 hwa hwb
              by_cases b0 : 512 < Ra + Rb
              · have d9 : decide ((512 : Int) < (Ra : Int) + (Rb : Int)) = true := by simp; omega
                clear hN hM hK
                go_enter Tryd.func10, Tryd.ntmps10
                go_upto_region 1 with fail
                refine gen_world (Q := fun w => Code.wp _ _ _ _ w) _ (RwA w (Ra : Int) (C2 : Int) sp N cap (Rb : Int) (C2 : Int) sq M caq) (RwA.made w (Ra : Int) (C2 : Int) sp N cap (Rb : Int) (C2 : Int) sq M caq _ _ rfl rfl) ?_
                intro W0 hW
                have HW0 := Lib.hid hW
                have HB0 := Lib.hid hW.below
                clear hW
                have a0 := HW0.out.a0
                have a1 := HW0.out.a1
                have a2 := HW0.out.a2
                have b0 := HW0.out.b0
                have b1 := HW0.out.b1
                have b2 := HW0.out.b2
                go_wp2_with (first
                  | (refine wpList_load_row rfl 24 (.tmp 3) rfl w.heap.size rfl 24 (matC (Ra : Int) (C2 : Int) sp N cap) (0, 0) _ HW0.out.a Tryd.underlying24 rfl size_mat ?_)
                  | (refine wpList_load_row rfl 24 (.tmp 4) rfl (w.heap.size + 1) rfl 24 (matC (Rb : Int) (C2 : Int) sq M caq) (0, 0) _ HW0.out.b Tryd.underlying24 rfl size_mat ?_))
                refine (HCa.out _ (HT.out.env _ _ HE.out HB0.out) (HLa.out.below HB0.out)).mono ?_
                rintro e w1 ⟨rfl, hb1⟩
                have HW1 := Lib.hid (HW0.out.later hb1)
                have HB1 := Lib.hid HW1.out.below
                clear hb1 a0 a1 a2 b0 b1 b2
                have a0 := HW1.out.a0
                have a1 := HW1.out.a1
                have a2 := HW1.out.a2
                have b0 := HW1.out.b0
                have b1 := HW1.out.b1
                have b2 := HW1.out.b2
                go_wp2_with (first
                  | (refine wpList_load_row rfl 24 (.tmp 3) rfl w.heap.size rfl 24 (matC (Ra : Int) (C2 : Int) sp N cap) (0, 0) _ HW1.out.a Tryd.underlying24 rfl size_mat ?_)
                  | (refine wpList_load_row rfl 24 (.tmp 4) rfl (w.heap.size + 1) rfl 24 (matC (Rb : Int) (C2 : Int) sq M caq) (0, 0) _ HW1.out.b Tryd.underlying24 rfl size_mat ?_))
                refine (HCb.out _ (HT.out.env _ _ HE.out HB1.out) (HLb.out.below HB1.out)).mono ?_
                rintro e w2 ⟨rfl, hb2⟩
                have HW2 := Lib.hid (HW1.out.later hb2)
                have HB2 := Lib.hid HW2.out.below
                clear hb2 a0 a1 a2 b0 b1 b2
                have a0 := HW2.out.a0
                have a1 := HW2.out.a1
                have a2 := HW2.out.a2
                have b0 := HW2.out.b0
                have b1 := HW2.out.b1
                have b2 := HW2.out.b2
                go_wp2_with fail
                refine (awake_any HT.out _ (HT.out.env _ _ HE.out HB2.out)).mono ?_
                rintro e w3 ⟨rfl, hb3⟩
                have HB3 := Lib.hid (HB2.out.trans (hb3.mono HB2.out.size))
                clear hb3
                go_wp2
                go_ret
                exact ⟨rfl, HB3.out⟩
              · have d9 : decide ((512 : Int) < (Ra : Int) + (Rb : Int)) = false := by simp; omega
                have hkc := chk_rows (C := C2) (hN.trans HRa.out) (hM.trans HRb.out) r1 (by omega) s3 s4 HWa.out HWb.out
                have HEc := Lib.hid (mulE_rows (v := v) (hN.trans HRa.out) HKa.out HKb.out hkc)
                have HXc := Lib.hid (fun h1 h2 => mulV_rows (v := v) (hN.trans HRa.out) HKa.out HKb.out hkc h1 h2)
                have HLa0 := Lib.hid (fun h => mulV_len (l := la) (v := v) (R := Ra) (C := C2) h)
                have HLb0 := Lib.hid (fun h => mulV_len (l := lb) (v := v) (R := Rb) (C := C2) h)
                have HXn := Lib.hid (fun h => mulV_no (r := ((Ra + Rb : Nat) : Int)) (c := (C2 : Int)) (l := la ++ lb) (v := v) h)
                obtain ⟨ea, hea⟩ : ∃ x, mulE (Ra : Int) (C2 : Int) la v = x := ⟨_, rfl⟩
                obtain ⟨Xa, hXa⟩ : ∃ x, mulV (Ra : Int) (C2 : Int) la v = x := ⟨_, rfl⟩
                rw [hea] at HMa HXc HLa0 HEc
                rw [hXa] at HMa HXc HLa0
                obtain ⟨na, hna⟩ : ∃ x, Xa.length = x := ⟨_, rfl⟩
                have HBla := Lib.hid hna
                obtain ⟨eb, heb⟩ : ∃ x, mulE (Rb : Int) (C2 : Int) lb v = x := ⟨_, rfl⟩
                obtain ⟨Xb, hXb⟩ : ∃ x, mulV (Rb : Int) (C2 : Int) lb v = x := ⟨_, rfl⟩
                rw [heb] at HMb HXc HLb0 HEc
                rw [hXb] at HMb HXc HLb0
                obtain ⟨nb, hnb⟩ : ∃ x, Xb.length = x := ⟨_, rfl⟩
                have HBlb := Lib.hid hnb
                obtain ⟨ec, hec⟩ : ∃ x, mulE ((Ra + Rb : Nat) : Int) (C2 : Int) (la ++ lb) v = x := ⟨_, rfl⟩
                obtain ⟨Xc, hXc⟩ : ∃ x, mulV ((Ra + Rb : Nat) : Int) (C2 : Int) (la ++ lb) v = x := ⟨_, rfl⟩
                rw [hec] at HMc HXc HXn HEc
                rw [hXc] at HMc HXc HXn
                obtain ⟨nc, hnc⟩ : ∃ x, Xc.length = x := ⟨_, rfl⟩
                have HBlc := Lib.hid hnc
                rw [Int.natCast_add] at HMc
                unfold matV at HMa HMb HMc HMz
                clear hkc hea heb hec hXa hXb hXc hna hnb hnc
                clear hN hM hK
                go_enter Tryd.func10, Tryd.ntmps10
                go_upto_region 1 with fail
                refine gen_world (Q := fun w => Code.wp _ _ _ _ w) _ (RwA w (Ra : Int) (C2 : Int) sp N cap (Rb : Int) (C2 : Int) sq M caq) (RwA.made w (Ra : Int) (C2 : Int) sp N cap (Rb : Int) (C2 : Int) sq M caq _ _ rfl rfl) ?_
                intro W0 hW
                have HW0 := Lib.hid hW
                have HB0 := Lib.hid hW.below
                clear hW
                have a0 := HW0.out.a0
                have a1 := HW0.out.a1
                have a2 := HW0.out.a2
                have b0 := HW0.out.b0
                have b1 := HW0.out.b1
                have b2 := HW0.out.b2
                go_wp2_with (first
                  | (refine wpList_load_row rfl 24 (.tmp 3) rfl w.heap.size rfl 24 (matC (Ra : Int) (C2 : Int) sp N cap) (0, 0) _ HW0.out.a Tryd.underlying24 rfl size_mat ?_)
                  | (refine wpList_load_row rfl 24 (.tmp 4) rfl (w.heap.size + 1) rfl 24 (matC (Rb : Int) (C2 : Int) sq M caq) (0, 0) _ HW0.out.b Tryd.underlying24 rfl size_mat ?_))
                refine (HCa.out _ (HT.out.env _ _ HE.out HB0.out) (HLa.out.below HB0.out)).mono ?_
                rintro e w1 ⟨rfl, hb1⟩
                have HW1 := Lib.hid (HW0.out.later hb1)
                have HB1 := Lib.hid HW1.out.below
                clear hb1 a0 a1 a2 b0 b1 b2
                have a0 := HW1.out.a0
                have a1 := HW1.out.a1
                have a2 := HW1.out.a2
                have b0 := HW1.out.b0
                have b1 := HW1.out.b1
                have b2 := HW1.out.b2
                go_wp2_with (first
                  | (refine wpList_load_row rfl 24 (.tmp 3) rfl w.heap.size rfl 24 (matC (Ra : Int) (C2 : Int) sp N cap) (0, 0) _ HW1.out.a Tryd.underlying24 rfl size_mat ?_)
                  | (refine wpList_load_row rfl 24 (.tmp 4) rfl (w.heap.size + 1) rfl 24 (matC (Rb : Int) (C2 : Int) sq M caq) (0, 0) _ HW1.out.b Tryd.underlying24 rfl size_mat ?_))
                refine (HCb.out _ (HT.out.env _ _ HE.out HB1.out) (HLb.out.below HB1.out)).mono ?_
                rintro e w2 ⟨rfl, hb2⟩
                have HW2 := Lib.hid (HW1.out.later hb2)
                have HB2 := Lib.hid HW2.out.below
                clear hb2 a0 a1 a2 b0 b1 b2
                have a0 := HW2.out.a0
                have a1 := HW2.out.a1
                have a2 := HW2.out.a2
                have b0 := HW2.out.b0
                have b1 := HW2.out.b1
                have b2 := HW2.out.b2
                go_upto_region 4 with fail
                try simp only [Act.put]
                refine gen_world (Q := fun w => Code.wp _ _ _ _ w) _ (RwC w (Ra : Int) (C2 : Int) sp N cap (Rb : Int) (C2 : Int) sq M caq w2.heap.size ((Ra : Int) + (Rb : Int)) (C2 : Int) (.slice none 0 0) 0 []) (RwC.made HW2.out rfl) ?_
                intro W3 hW
                have HW3 := Lib.hid hW
                have HB3 := Lib.hid hW.r.below
                have c2 := hW.c2
                have fz := hW.free
                have hlo := hW.low
                have HLa3 := Lib.hid (HLa.out.below hW.r.below)
                clear hW a0 a1 a2 b0 b1 b2
                have a0 := HW3.out.r.a0
                have a1 := HW3.out.r.a1
                have a2 := HW3.out.r.a2
                have b0 := HW3.out.r.b0
                have b1 := HW3.out.r.b1
                have b2 := HW3.out.r.b2
                go_upto_region 5 with (refine wpList_appendN rfl (.tmp 69) (.tmp 71) rfl (w2.heap.size + 1) (.slice none 0 0) 0 N [] la rfl HW3.out.own sp cap rfl HNn.out HLa3.out (by omega) hlo ?_; intro v4 w4 hown4 hb4; rw [Nat.zero_add, List.nil_append] at hown4; obtain ⟨so4, co4, rfl, _, _, _⟩ := Sl.all1 hown4; have HO4 := Lib.hid hown4; have HB4 := Lib.hid hb4; clear hown4 hb4; have c2x := (HB4.out.cell (p := ⟨w2.heap.size, 2, none⟩) (Nat.lt_succ_self _)).trans c2; have fzx := (HB4.out.frozen (p := ⟨w2.heap.size, 2, none⟩) (Nat.lt_succ_self _)).trans fz)
                try simp only [Act.put]
                refine gen_world (Q := fun w => Code.wp _ _ _ _ w) _ (RwC w (Ra : Int) (C2 : Int) sp N cap (Rb : Int) (C2 : Int) sq M caq w2.heap.size ((Ra : Int) + (Rb : Int)) (C2 : Int) (.slice so4 N co4) N la) (RwC.push HW3.out HO4.out HB4.out) ?_
                intro W5 hW
                have HW5 := Lib.hid hW
                have HB5 := Lib.hid hW.r.below
                have HLb5 := Lib.hid (HLb.out.below hW.r.below)
                have hlo5 := hW.low
                clear hlo c2 c2x fz fzx a0 a1 a2 b0 b1 b2
                have c2 := hW.c2
                have fz := hW.free
                have a0 := hW.r.a0
                have a1 := hW.r.a1
                have a2 := hW.r.a2
                have b0 := hW.r.b0
                have b1 := hW.r.b1
                have b2 := hW.r.b2
                clear hW HW3 HO4 HB4
                go_upto_region 6 with (refine wpList_appendN rfl (.tmp 75) (.tmp 77) rfl (w2.heap.size + 1) (.slice so4 N co4) N M la lb rfl HW5.out.own sq caq rfl HMn.out HLb5.out (by omega) hlo5 ?_; intro v6 w6 hown6 hb6; obtain ⟨so6, co6, rfl, _, _, _⟩ := Sl.all1 hown6; have HO6 := Lib.hid hown6; have HB6 := Lib.hid hb6; clear hown6 hb6; have c2x := (HB6.out.cell (p := ⟨w2.heap.size, 2, none⟩) (Nat.lt_succ_self _)).trans c2; have fzx := (HB6.out.frozen (p := ⟨w2.heap.size, 2, none⟩) (Nat.lt_succ_self _)).trans fz)
                try simp only [Act.put]
                refine gen_world (Q := fun w => Code.wp _ _ _ _ w) _ (RwC w (Ra : Int) (C2 : Int) sp N cap (Rb : Int) (C2 : Int) sq M caq w2.heap.size ((Ra : Int) + (Rb : Int)) (C2 : Int) (.slice so6 (N + M) co6) (N + M) (la ++ lb)) (RwC.push HW5.out HO6.out HB6.out) ?_
                intro W7 hW
                have HW7 := Lib.hid hW
                have HB7 := Lib.hid hW.r.below
                clear hlo5 c2 c2x fz fzx hW HW5 HO6 HB6 a0 a1 a2 b0 b1 b2
                go_wp2_with (first
                  | (refine wpList_load_row rfl 24 (.tmp 3) rfl w.heap.size rfl 24 (matC (Ra : Int) (C2 : Int) sp N cap) (0, 0) _ HW7.out.r.a Tryd.underlying24 rfl size_mat ?_)
                  | (refine wpList_load_row rfl 24 (.tmp 4) rfl (w.heap.size + 1) rfl 24 (matC (Rb : Int) (C2 : Int) sq M caq) (0, 0) _ HW7.out.r.b Tryd.underlying24 rfl size_mat ?_))
                refine (HMa.out _ (HT.out.env _ _ HE.out HB7.out) (HLa.out.below HB7.out) (HV.out.below HB7.out)).mono ?_
                rintro e w8 ⟨s8, c8, rfl, hn8, hb8⟩
                rw [HBla.out]
                have HW8 := Lib.hid (RwC.later HW7.out hb8)
                have HB8 := Lib.hid HW8.out.r.below
                have HN8 := Lib.hid hn8
                clear hb8 hn8
                go_wp2_with (first
                  | (refine wpList_load_row rfl 24 (.tmp 3) rfl w.heap.size rfl 24 (matC (Ra : Int) (C2 : Int) sp N cap) (0, 0) _ HW8.out.r.a Tryd.underlying24 rfl size_mat ?_)
                  | (refine wpList_load_row rfl 24 (.tmp 4) rfl (w.heap.size + 1) rfl 24 (matC (Rb : Int) (C2 : Int) sq M caq) (0, 0) _ HW8.out.r.b Tryd.underlying24 rfl size_mat ?_))
                refine (HMb.out _ (HT.out.env _ _ HE.out HB8.out) (HLb.out.below HB8.out) (HV.out.below HB8.out)).mono ?_
                rintro e w9 ⟨s9, c9, rfl, hn9, hb9⟩
                rw [HBlb.out]
                have HW9 := Lib.hid (RwC.later HW8.out hb9)
                have HB9 := Lib.hid HW9.out.r.below
                have HN9 := Lib.hid hn9
                have HN8b := Lib.hid (HN8.out.below hb9)
                clear hb9 hn9
                obtain ⟨sp2, cap2, e, hl2, hnum⟩ := own_nums HW9.out.own
                cases e
                have HNc := Lib.hid hnum
                clear hnum
                go_wp2_with (refine wpList_load_row rfl 24 (.tmp 7) rfl w2.heap.size rfl 24 #[.int .i64 ((Ra : Int) + (Rb : Int)), .int .i64 (C2 : Int), .slice so6 (N + M) co6] (0, 0) _ HW9.out.c Tryd.underlying24 rfl size_mat ?_)
                refine (HMc.out _ so6 co6 (HT.out.env _ _ HE.out HB9.out) (HNc.out) (HV.out.below HB9.out)).mono ?_
                rintro e w10 ⟨s10, c10, rfl, hn10, hb10⟩
                rw [HBlc.out]
                have HW10 := Lib.hid (RwC.later HW9.out hb10)
                have HB10 := Lib.hid HW10.out.r.below
                have HN10 := Lib.hid hn10
                have HN8c := Lib.hid (HN8b.out.below hb10)
                have HN9c := Lib.hid (HN9.out.below hb10)
                clear hb10 hn10
                clear HW7 HW8 HW9 HB7 HB8 HB9 HN8 HN9 HN8b
                by_cases za : ea = 0
                · by_cases zb : eb = 0
                  · have hc := HEc.out
                    rw [za, if_neg (fun h => h rfl), zb] at hc
                    obtain ⟨_, hx⟩ := HXc.out za zb
                    have hna := HLa0.out za
                    rw [HBla.out] at hna
                    have hnb := HLb0.out zb
                    rw [HBlb.out] at hnb
                    subst hc hna hnb za zb
                    have HX := Lib.hid hx
                    have HBn : Hid (na + nb = nc) := Lib.hid (by rw [← HBlc.out, hx, List.length_append, HBla.out, HBlb.out])
                    have hsz := Nat.le_refl w10.heap.size
                    clear hx
                    go_upto_region 17 with (first
                      | (refine wpList_appendN rfl (.tmp 119) (.tmp 120) rfl w10.heap.size (.slice none 0 0) 0 na [] Xa rfl (World.ownsRow_nil _ _ _ _) s8 c8 rfl HBla.out HN8c.out (by omega) hsz ?_; intro v11 w11 hown hb11; rw [Nat.zero_add, List.nil_append] at hown; obtain ⟨so, co, rfl, _, _, _⟩ := Sl.all1 hown; have HO := Lib.hid hown; have HB11 := Lib.hid hb11; clear hown hb11; have hsz2 := HB11.out.size; have HN9d := Lib.hid (HN9c.out.below HB11.out))
                      | (refine wpList_appendN rfl (.tmp 122) (.tmp 123) rfl w10.heap.size (.slice so na co) na nb Xa Xb rfl HO.out s9 c9 rfl HBlb.out HN9d.out (by omega) hsz2 ?_; intro v12 w12 hown hb12; rw [HBn.out, ← HX.out] at hown; obtain ⟨so2, co2, rfl, _, _, _⟩ := Sl.all1 hown; have HO2 := Lib.hid hown; have HB12 := Lib.hid (HB11.out.trans hb12); clear hown hb12))
                    try simp only [Act.put]
                    have HA12 := Lib.hid (HW10.out.r.later HB12.out)
                    have HNc12 := Lib.hid (HN10.out.below HB12.out)
                    have HLa12 := Lib.hid (HLa.out.below HA12.out.below)
                    refine wp_region_spec (C := fun W => Below w12.heap.size w12 W) (Le := fun W W' => Below W.heap.size W W') 9 (fun (_ : Nat → Value) q W v => (q = 3 → ∃ g, v = .slice (some ⟨g, 0, none⟩) C2 C2 ∧ Nums W (some ⟨g, 0, none⟩) C2 (List.replicate C2 0)) ∧ ((q = 4 ∨ q = 5) → Tup na v W) ∧ ((q = 6 ∨ q = 8) → SlZ na v W) ∧ ∀ z, rwVal w (na : Int) (C2 : Int) sp N cap q = some z → v = z) (by kernel_rfl) (by kernel_rfl) ⟨rfl, rfl, rfl, Nat.le_refl _, fun _ _ => rfl⟩ (fun u u' q W v hd h => h) (fun u q W W' v hb h => ⟨fun e => ?_, fun e => (h.2.1 e).later hb, fun e => (h.2.2.1 e).later hb, h.2.2.2⟩) (fun q v => ∀ z, rwVal w (na : Int) (C2 : Int) sp N cap q = some z → v = z) (fun _ _ _ _ h => h.2.2.2) (fun q => (rwVal w (na : Int) (C2 : Int) sp N cap q).getD undef) (fun q x h => by rw [h]; rfl) ?_ ?_
                    · obtain ⟨g, h1, h2⟩ := h.1 e
                      exact ⟨g, h1, h2.below hb⟩
                    · intro u hu
                      have h0 : u 0 = .agg (matC (na : Int) (C2 : Int) sp N cap) := hu 0 _ rfl
                      have h1 : u 1 = .pointer (some ⟨w.heap.size, 1, none⟩) := hu 1 _ rfl
                      have h2 : u 2 = .int .i64 (C2 : Int) := hu 2 _ rfl
                      have h7 : u 7 = .int .i64 0 := hu 7 _ rfl
                      simp only [List.take_succ_cons, List.take_zero]
                      refine spec_cons (fun W hC hd => ⟨by rfl, ?_⟩) ?_
                      · exact gives_val (.agg (matC (na : Int) (C2 : Int) sp N cap)) W (exec_load_row 24 (.tmp 3) rfl w.heap.size rfl 24 (matC (na : Int) (C2 : Int) sp N cap) (0, 0) _ ((hC.block _ (Array.getElem?_eq_some_iff.1 HA12.out.a).1).trans HA12.out.a) Tryd.underlying24 rfl size_mat) ⟨hC, Below.refl _ _, ⟨(fun h => absurd h (by decide)), (fun h => absurd h (by decide)), (fun h => absurd h (by decide)), fun x hx => by cases hx; rfl⟩⟩
                      simp only [Act.put, List.setIfInBounds_toArray, List.set_cons_succ, List.set_cons_zero, Nat.reduceAdd]
                      rw [h0]
                      refine spec_cons (fun W hC hd => ⟨by rfl, ?_⟩) ?_
                      · exact gives_val (.pointer (some ⟨w.heap.size, 1, none⟩)) W (by rfl) ⟨hC, Below.refl _ _, ⟨(fun h => absurd h (by decide)), (fun h => absurd h (by decide)), (fun h => absurd h (by decide)), fun x hx => by cases hx; rfl⟩⟩
                      simp only [Act.put, List.setIfInBounds_toArray, List.set_cons_succ, List.set_cons_zero, Nat.reduceAdd]
                      rw [h1]
                      refine spec_cons (fun W hC hd => ⟨by rfl, ?_⟩) ?_
                      · exact gives_val (.int .i64 (C2 : Int)) W (exec_load_num (.tmp 127) rfl w.heap.size 1 (C2 : Int) rfl (below_cell hC HA12.out.a1)) ⟨hC, Below.refl _ _, ⟨(fun h => absurd h (by decide)), (fun h => absurd h (by decide)), (fun h => absurd h (by decide)), fun x hx => by cases hx; rfl⟩⟩
                      simp only [Act.put, List.setIfInBounds_toArray, List.set_cons_succ, List.set_cons_zero, Nat.reduceAdd]
                      rw [h2]
                      refine spec_cons (fun W hC hd => ⟨by rfl, ?_⟩) ?_
                      · exact gives_val _ _ (exec_makeN 22 3 8 (.int .i64 0) Tryd.underlying22 info3 (by decide) (.tmp 128) (.tmp 128) rfl C2 rfl rfl (by omega)) ⟨hC.trans (((Below.refl _ _).alloc (Nat.le_refl _) _).mono hC.size), (Below.refl _ _).alloc (Nat.le_refl _) _, ⟨(fun _ => ⟨W.heap.size, rfl, made_noughts W C2 (by omega)⟩), (fun h => absurd h (by decide)), (fun h => absurd h (by decide)), fun x hx => by cases hx⟩⟩
                      simp only [Act.put, List.setIfInBounds_toArray, List.set_cons_succ, List.set_cons_zero, Nat.reduceAdd]
                      refine spec_cons (fun W hC hd => ⟨by rfl, ?_⟩) ?_
                      · obtain ⟨g, hg, hz⟩ := (hd ⟨3, .data⟩ (by simp) rfl).1 rfl
                        refine gives_call _ _ (exec_call2 21 (.tmp 126) (.tmp 129) #[24, 22] _ _ rfl rfl hg (cf Tryd.func21 (by kernel_rfl) (by kernel_rfl) _ _)) ((HMz.out W (some ⟨g, 0, none⟩) C2 (HT.out.env _ _ HE.out (HA12.out.below.trans (hC.mono HA12.out.below.size))) (HLa12.out.below hC) hz).mono fun e W2 h => ?_)
                        obtain ⟨s, c, he, hn, hb⟩ := h
                        rw [List.length_replicate] at he
                        exact ⟨_, he, hC.trans (hb.mono hC.size), hb, ⟨(fun h => absurd h (by decide)), (fun _ => ⟨s, c, rfl, hn⟩), (fun h => absurd h (by decide)), fun x hx => by cases hx⟩⟩
                      simp only [Act.put, List.setIfInBounds_toArray, List.set_cons_succ, List.set_cons_zero, Nat.reduceAdd]
                      refine spec_cons (fun W hC hd => ⟨by rfl, ?_⟩) ?_
                      · have h4 := (hd ⟨4, .data⟩ (by simp) rfl).2.1 (Or.inl rfl)
                        exact gives_val (u 4) W (by rfl) ⟨hC, Below.refl _ _, ⟨(fun h => absurd h (by decide)), (fun _ => h4), (fun h => absurd h (by decide)), fun x hx => by cases hx⟩⟩
                      simp only [Act.put, List.setIfInBounds_toArray, List.set_cons_succ, List.set_cons_zero, Nat.reduceAdd]
                      refine spec_cons (fun W hC hd => ⟨by rfl, ?_⟩) ?_
                      · obtain ⟨s, c, h5, hn⟩ := (hd ⟨5, .data⟩ (by simp) rfl).2.1 (Or.inr rfl)
                        exact gives_val (.slice s na c) W (exec_extractR (.tmp 125) 0 rfl _ _ h5 rfl) ⟨hC, Below.refl _ _, ⟨(fun h => absurd h (by decide)), (fun h => absurd h (by decide)), (fun _ => ⟨s, c, rfl, hn⟩), fun x hx => by cases hx⟩⟩
                      simp only [Act.put, List.setIfInBounds_toArray, List.set_cons_succ, List.set_cons_zero, Nat.reduceAdd]
                      refine spec_cons (fun W hC hd => ⟨by rfl, ?_⟩) ?_
                      · obtain ⟨s, c, h5, hn⟩ := (hd ⟨5, .data⟩ (by simp) rfl).2.1 (Or.inr rfl)
                        exact gives_val (.int .i64 0) W (exec_extractR (.tmp 125) 1 rfl _ _ h5 rfl) ⟨hC, Below.refl _ _, ⟨(fun h => absurd h (by decide)), (fun h => absurd h (by decide)), (fun h => absurd h (by decide)), fun x hx => by cases hx; rfl⟩⟩
                      simp only [Act.put, List.setIfInBounds_toArray, List.set_cons_succ, List.set_cons_zero, Nat.reduceAdd]
                      refine spec_cons (fun W hC hd => ⟨by rfl, ?_⟩) ?_
                      · obtain ⟨s, c, h6, hn⟩ := (hd ⟨6, .data⟩ (by simp) rfl).2.2.1 (Or.inl rfl)
                        exact gives_val (u 6) W (by rfl) ⟨hC, Below.refl _ _, ⟨(fun h => absurd h (by decide)), (fun h => absurd h (by decide)), (fun _ => ⟨s, c, h6, hn⟩), fun x hx => by cases hx⟩⟩
                      simp only [Act.put, List.setIfInBounds_toArray, List.set_cons_succ, List.set_cons_zero, Nat.reduceAdd]
                      exact spec_nil
                    intro u W13 hu hC hΦ
                    have h0 : u 0 = .agg (matC (na : Int) (C2 : Int) sp N cap) := hu 0 _ rfl
                    have h1 : u 1 = .pointer (some ⟨w.heap.size, 1, none⟩) := hu 1 _ rfl
                    have h2 : u 2 = .int .i64 (C2 : Int) := hu 2 _ rfl
                    have h7 : u 7 = .int .i64 0 := hu 7 _ rfl
                    obtain ⟨s13, c13, h8, hn13⟩ := (hΦ 8 (by omega)).2.2.1 (Or.inr rfl)
                    obtain ⟨s14, c14, h6, _⟩ := (hΦ 6 (by omega)).2.2.1 (Or.inl rfl)
                    simp only [List.take_succ_cons, List.take_zero, List.drop_succ_cons, List.drop_zero, putAll, Act.put, List.setIfInBounds_toArray, List.set_cons_succ, List.set_cons_zero, Nat.reduceAdd]
                    rw [h0, h1, h2, h6, h7, h8]
                    clear hu hΦ h0 h1 h2 h6 h7 h8
                    have HA13 := Lib.hid (HA12.out.later hC)
                    have HNc13 := Lib.hid (HNc12.out.below hC)
                    have HO13 := Lib.hid (owns_below HO2.out hC)
                    have HNz := Lib.hid hn13
                    clear hC hn13
                    have a0 := HA13.out.a0
                    have f5 : ((na : Int) == (na : Int)) = true := by simp
                    have f6 : (na == na) = true := by simp
                    go_wp2
                    go_loop [18] (fun i => ∃ q : Nat, q ≤ na ∧ i = .int .i64 q) (fun i => na - (intOf i).toNat)
                    case atStart => exact ⟨0, by omega, rfl⟩
                    case round =>
                      obtain ⟨q, hq, rfl⟩ := hrel
                      by_cases hlt : q < na
                      · have hdt : decide (q < na) = true := by simp; omega
                        have hdi : decide ((q : Int) < (na : Int)) = true := by simp; omega
                        obtain ⟨g, o, rfl, hc⟩ := HNz.out.at_ q (by simp; omega)
                        rw [show (List.replicate na (0 : Int)).getD q 0 = 0 by simp [List.getD_eq_getElem?_getD, hlt]] at hc
                        go_wp2
                        go_round
                        case rel => exact ⟨q + 1, by omega, by go_num⟩
                        case measure => simp [intOf]; omega
                      · obtain rfl : q = na := by omega
                        have hdf : decide (q < q) = false := by simp
                        have hdi : decide ((q : Int) < (q : Int)) = false := by simp
                        obtain ⟨sp3, cap3, e, hl3, hn3⟩ := own_nums HO13.out
                        cases e
                        have HN3 := Lib.hid hn3
                        clear hn3 hl3
                        go_wp2_with fail
                        refine (ints_same _ _ _ _ _ nc Xc HBlc.out HNc13.out HN3.out).mono ?_
                        rintro e w14 ⟨rfl, hb14⟩
                        have HA14 := Lib.hid (HA13.out.later hb14)
                        have HB14 := Lib.hid HA14.out.below
                        clear a0 hb14
                        have a0 := HA14.out.a0
                        go_wp2_with fail
                        refine (awake_any HT.out _ (HT.out.env _ _ HE.out HB14.out)).mono ?_
                        rintro e w15 ⟨rfl, hb15⟩
                        have HB15 := Lib.hid (HB14.out.trans (hb15.mono HB14.out.size))
                        clear hb15
                        go_wp2
                        go_ret
                        exact ⟨rfl, HB15.out⟩
                  · have hc := HEc.out
                    rw [za] at hc
                    rw [if_neg (fun h => h rfl)] at hc
                    subst hc
                    subst za
                    have f1 : (ec != 0) = true := by simpa using zb
                    have f2 : (ec == ec) = true := by simp
                    have hx := HXn.out zb
                    have hnc : nc = 0 := by rw [← HBlc.out, hx]; rfl
                    subst hnc
                    clear hx zb
                    go_wp2_with fail
                    refine (awake_any HT.out _ (HT.out.env _ _ HE.out HB10.out)).mono ?_
                    rintro e w11 ⟨rfl, hb11⟩
                    have HB11 := Lib.hid (HB10.out.trans (hb11.mono HB10.out.size))
                    clear hb11
                    go_wp2
                    go_ret
                    exact ⟨rfl, HB11.out⟩
                · have hc := HEc.out
                  rw [if_pos za] at hc
                  subst hc
                  have f1 : (ec != 0) = true := by simpa using za
                  have f2 : (ec == ec) = true := by simp
                  have f3 : (ec == 0) = false := by simpa using za
                  have hx := HXn.out za
                  have hnc : nc = 0 := by rw [← HBlc.out, hx]; rfl
                  subst hnc
                  clear hx za
                  go_wp2_with fail
                  refine (awake_any HT.out _ (HT.out.env _ _ HE.out HB10.out)).mono ?_
                  rintro e w11 ⟨rfl, hb11⟩
                  have HB11 := Lib.hid (HB10.out.trans (hb11.mono HB10.out.size))
                  clear hb11
                  go_wp2
                  go_ret
                  exact ⟨rfl, HB11.out⟩
end Go.Proofs.YtchjijifmjbgoaaDoor.Tn
