import Derived.Test.YtalmnmdileagbaaDoorFf
namespace Go.Proofs.YtalmnmdileagbaaDoor.Fx
open Go.ChangeShapes Go.WideShapes Go.ChangeAt Go.RowKit

set_option maxRecDepth 100000 in
set_option maxHeartbeats 4000000 in
theorem exps_walk (w : World) (n : Int) (he : Env w) (hn1 : -9223372036854775808 ≤ n) : Calls Tryd.prog 6 #[.int .i64 n] w fun e w' => e = .returned (.bool true) ∧ Below w.heap.size w w' := by
  have HE := Lib.hid he
  clear he
  have HB0 := Lib.hid (Below.refl w.heap.size w)
  by_cases h : isN n
  · by_cases h0 : 0 < n
    · have HX : Hid (expR n = 0 ∧ expE n = 10) := Lib.hid (by unfold expR expE; rw [if_pos h0, if_pos h0]; exact ⟨rfl, rfl⟩)
      have d0 : decide (0 < n) = true := by simpa using h0
      have HXc := Lib.hid (fun W hW => exp_any W n hW hn1)
      rw [HX.out.1, HX.out.2] at HXc
      have HG : Hid (gateR n = gt n ∧ gateE n = 0) := Lib.hid (by unfold gateR gateE; rw [if_pos h, if_pos h]; exact ⟨rfl, rfl⟩)
      have HI := Lib.hid (isB_yes h)
      have HSg := Lib.hid (fun W => sigmoid_any W n h)
      obtain ⟨n1, n2⟩ : -2147483648 ≤ n ∧ n ≤ 2147483647 := ⟨h.1, h.2⟩
      have hs := sg_le n
      have HGt : Hid (gt n = rnd (n * sg n)) := Lib.hid rfl
      have HGc := Lib.hid (fun W hW => gate_any W n hW)
      rw [HG.out.1, HG.out.2] at HGc
      rw [HGt.out] at HGc
      have hmm := mul_in h (show isN (sg n) by unfold isN; omega)
      obtain ⟨S, hS⟩ : ∃ S, sg n = S := ⟨_, rfl⟩
      rw [hS] at HGc HSg hs hmm
      obtain ⟨s0, s1⟩ := hs
      obtain ⟨m0, m1⟩ := hmm
      have HRn := Lib.hid (fun W => round_any W (n * S) m0 m1)
      obtain ⟨g, hg⟩ : ∃ g, rnd (n * S) = g := ⟨_, rfl⟩
      rw [hg] at HGc HRn
      clear hS hg HGt
      clear h HG HX
      go_enter Tryd.func6, Tryd.ntmps6
      go_wp2_with fail
      refine (HXc.out _ (HE.out.below HB0.out)).mono ?_
      rintro e w' ⟨rfl, rfl⟩
      go_wp2_with fail
      refine (HGc.out _ (HE.out.below HB0.out)).mono ?_
      rintro e w1 ⟨rfl, hb1⟩
      have HB1 := Lib.hid (HB0.out.trans (hb1.mono HB0.out.size))
      clear hb1
      go_wp2_with fail
      refine (is_any _ n).mono ?_
      rintro e w' ⟨rfl, rfl⟩
      rw [HI.out]
      go_wp2_with fail
      refine (HSg.out _).mono ?_
      rintro e w2 ⟨rfl, hb2⟩
      have HB2 := Lib.hid (HB1.out.trans (hb2.mono HB1.out.size))
      clear hb2
      go_wp2_with fail
      refine (HRn.out _).mono ?_
      rintro e w' ⟨rfl, rfl⟩
      go_wp2_with fail
      refine (awake_any _ (HE.out.below HB2.out)).mono ?_
      rintro e w3 ⟨rfl, hb3⟩
      have HB3 := Lib.hid (HB2.out.trans (hb3.mono HB2.out.size))
      clear hb3
      go_wp2
      go_ret
      exact ⟨rfl, HB3.out⟩
    · have HX : Hid (expR n = ex n ∧ expE n = 0) := Lib.hid (by unfold expR expE; rw [if_neg h0, if_neg h0]; exact ⟨rfl, rfl⟩)
      have HRx := Lib.hid (fun W => rexp_any W n (by omega) hn1)
      have d0 : decide (0 < n) = false := by simpa using h0
      have HXc := Lib.hid (fun W hW => exp_any W n hW hn1)
      rw [HX.out.1, HX.out.2] at HXc
      obtain ⟨E, hE⟩ : ∃ E, ex n = E := ⟨_, rfl⟩
      rw [hE] at HXc HRx
      clear hE
      have HG : Hid (gateR n = gt n ∧ gateE n = 0) := Lib.hid (by unfold gateR gateE; rw [if_pos h, if_pos h]; exact ⟨rfl, rfl⟩)
      have HI := Lib.hid (isB_yes h)
      have HSg := Lib.hid (fun W => sigmoid_any W n h)
      obtain ⟨n1, n2⟩ : -2147483648 ≤ n ∧ n ≤ 2147483647 := ⟨h.1, h.2⟩
      have hs := sg_le n
      have HGt : Hid (gt n = rnd (n * sg n)) := Lib.hid rfl
      have HGc := Lib.hid (fun W hW => gate_any W n hW)
      rw [HG.out.1, HG.out.2] at HGc
      rw [HGt.out] at HGc
      have hmm := mul_in h (show isN (sg n) by unfold isN; omega)
      obtain ⟨S, hS⟩ : ∃ S, sg n = S := ⟨_, rfl⟩
      rw [hS] at HGc HSg hs hmm
      obtain ⟨s0, s1⟩ := hs
      obtain ⟨m0, m1⟩ := hmm
      have HRn := Lib.hid (fun W => round_any W (n * S) m0 m1)
      obtain ⟨g, hg⟩ : ∃ g, rnd (n * S) = g := ⟨_, rfl⟩
      rw [hg] at HGc HRn
      clear hS hg HGt
      clear h HG HX
      go_enter Tryd.func6, Tryd.ntmps6
      go_wp2_with fail
      refine (HXc.out _ (HE.out.below HB0.out)).mono ?_
      rintro e w' ⟨rfl, rfl⟩
      go_wp2_with fail
      refine (HGc.out _ (HE.out.below HB0.out)).mono ?_
      rintro e w1 ⟨rfl, hb1⟩
      have HB1 := Lib.hid (HB0.out.trans (hb1.mono HB0.out.size))
      clear hb1
      go_wp2_with fail
      refine (HRx.out _).mono ?_
      rintro e w2 ⟨rfl, hb2⟩
      have HB2 := Lib.hid (HB1.out.trans (hb2.mono HB1.out.size))
      clear hb2
      go_wp2_with fail
      refine (is_any _ n).mono ?_
      rintro e w' ⟨rfl, rfl⟩
      rw [HI.out]
      go_wp2_with fail
      refine (HSg.out _).mono ?_
      rintro e w3 ⟨rfl, hb3⟩
      have HB3 := Lib.hid (HB2.out.trans (hb3.mono HB2.out.size))
      clear hb3
      go_wp2_with fail
      refine (HRn.out _).mono ?_
      rintro e w' ⟨rfl, rfl⟩
      go_wp2_with fail
      refine (awake_any _ (HE.out.below HB3.out)).mono ?_
      rintro e w4 ⟨rfl, hb4⟩
      have HB4 := Lib.hid (HB3.out.trans (hb4.mono HB3.out.size))
      clear hb4
      go_wp2
      go_ret
      exact ⟨rfl, HB4.out⟩
  · by_cases h0 : 0 < n
    · have HX : Hid (expR n = 0 ∧ expE n = 10) := Lib.hid (by unfold expR expE; rw [if_pos h0, if_pos h0]; exact ⟨rfl, rfl⟩)
      have d0 : decide (0 < n) = true := by simpa using h0
      have HXc := Lib.hid (fun W hW => exp_any W n hW hn1)
      rw [HX.out.1, HX.out.2] at HXc
      have HG : Hid (gateR n = 0 ∧ gateE n = 10) := Lib.hid (by unfold gateR gateE; rw [if_neg h, if_neg h]; exact ⟨rfl, rfl⟩)
      have HI := Lib.hid (isB_no h)
      have HGc := Lib.hid (fun W hW => gate_any W n hW)
      rw [HG.out.1, HG.out.2] at HGc
      clear h HG HX
      go_enter Tryd.func6, Tryd.ntmps6
      go_wp2_with fail
      refine (HXc.out _ (HE.out.below HB0.out)).mono ?_
      rintro e w' ⟨rfl, rfl⟩
      go_wp2_with fail
      refine (HGc.out _ (HE.out.below HB0.out)).mono ?_
      rintro e w1 ⟨rfl, hb1⟩
      have HB1 := Lib.hid (HB0.out.trans (hb1.mono HB0.out.size))
      clear hb1
      go_wp2_with fail
      refine (is_any _ n).mono ?_
      rintro e w' ⟨rfl, rfl⟩
      rw [HI.out]
      go_wp2_with fail
      refine (awake_any _ (HE.out.below HB1.out)).mono ?_
      rintro e w2 ⟨rfl, hb2⟩
      have HB2 := Lib.hid (HB1.out.trans (hb2.mono HB1.out.size))
      clear hb2
      go_wp2
      go_ret
      exact ⟨rfl, HB2.out⟩
    · have HX : Hid (expR n = ex n ∧ expE n = 0) := Lib.hid (by unfold expR expE; rw [if_neg h0, if_neg h0]; exact ⟨rfl, rfl⟩)
      have HRx := Lib.hid (fun W => rexp_any W n (by omega) hn1)
      have d0 : decide (0 < n) = false := by simpa using h0
      have HXc := Lib.hid (fun W hW => exp_any W n hW hn1)
      rw [HX.out.1, HX.out.2] at HXc
      obtain ⟨E, hE⟩ : ∃ E, ex n = E := ⟨_, rfl⟩
      rw [hE] at HXc HRx
      clear hE
      have HG : Hid (gateR n = 0 ∧ gateE n = 10) := Lib.hid (by unfold gateR gateE; rw [if_neg h, if_neg h]; exact ⟨rfl, rfl⟩)
      have HI := Lib.hid (isB_no h)
      have HGc := Lib.hid (fun W hW => gate_any W n hW)
      rw [HG.out.1, HG.out.2] at HGc
      clear h HG HX
      go_enter Tryd.func6, Tryd.ntmps6
      go_wp2_with fail
      refine (HXc.out _ (HE.out.below HB0.out)).mono ?_
      rintro e w' ⟨rfl, rfl⟩
      go_wp2_with fail
      refine (HGc.out _ (HE.out.below HB0.out)).mono ?_
      rintro e w1 ⟨rfl, hb1⟩
      have HB1 := Lib.hid (HB0.out.trans (hb1.mono HB0.out.size))
      clear hb1
      go_wp2_with fail
      refine (HRx.out _).mono ?_
      rintro e w2 ⟨rfl, hb2⟩
      have HB2 := Lib.hid (HB1.out.trans (hb2.mono HB1.out.size))
      clear hb2
      go_wp2_with fail
      refine (is_any _ n).mono ?_
      rintro e w' ⟨rfl, rfl⟩
      rw [HI.out]
      go_wp2_with fail
      refine (awake_any _ (HE.out.below HB2.out)).mono ?_
      rintro e w3 ⟨rfl, hb3⟩
      have HB3 := Lib.hid (HB2.out.trans (hb3.mono HB2.out.size))
      clear hb3
      go_wp2
      go_ret
      exact ⟨rfl, HB3.out⟩
end Go.Proofs.YtalmnmdileagbaaDoor.Fx
