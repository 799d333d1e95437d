import Derived.Test.YtalmnmdileagbaaDoorFf
namespace Go.Proofs.YtalmnmdileagbaaDoor.Fx
open Go.ChangeShapes Go.WideShapes Go.ChangeAt Go.RowKit

set_option maxRecDepth 100000 in
set_option maxHeartbeats 4000000 in
theorem bounds_walk (w : World) (n : Int) (he : Env w) (hn1 : -9223372036854775808 ≤ n) : Calls Tryd.prog 8 #[.int .i64 n] w fun e w' => e = .returned (.bool true) ∧ Below w.heap.size w w' := by
  have HE := Lib.hid he
  clear he
  have HB0 := Lib.hid (Below.refl w.heap.size w)
  by_cases h : isN n
  · by_cases h0 : 0 < n
    · have HX : Hid (expR n = 0 ∧ expE n = 10) := Lib.hid (by unfold expR expE; rw [if_pos h0, if_pos h0]; exact ⟨rfl, rfl⟩)
      have HXc := Lib.hid (fun W hW => exp_any W n hW hn1)
      rw [HX.out.1, HX.out.2] at HXc
      have HGc := Lib.hid (fun W hW => gate_any W n hW)
      have HG : Hid (gateR n = gt n ∧ gateE n = 0) := Lib.hid (by unfold gateR gateE; rw [if_pos h, if_pos h]; exact ⟨rfl, rfl⟩)
      rw [HG.out.1, HG.out.2] at HGc
      obtain ⟨n1, n2⟩ : -2147483648 ≤ n ∧ n ≤ 2147483647 := ⟨h.1, h.2⟩
      have hp := gt_pos (show 0 ≤ n by omega)
      obtain ⟨g, hg⟩ : ∃ g, gt n = g := ⟨_, rfl⟩
      rw [hg] at HGc hp
      clear hg
      have f1 : decide (n < 0) = false := by simp; omega
      have f2 : decide (0 < n) = true := by simp; omega
      have f3 : decide (0 ≤ g) = true := by simp; omega
      have f4 : decide (g ≤ n) = true := by simp; omega
      clear h HG HX
      go_enter Tryd.func8, Tryd.ntmps8
      go_wp2_with fail
      refine (HXc.out _ (HE.out.below HB0.out)).mono ?_
      rintro e w' ⟨rfl, rfl⟩
      go_wp2_with fail
      refine (HGc.out _ (HE.out.below HB0.out)).mono ?_
      rintro e w1 ⟨rfl, hb1⟩
      have HB1 := Lib.hid (HB0.out.trans (hb1.mono HB0.out.size))
      clear hb1
      go_wp2_with fail
      refine (awake_any _ (HE.out.below HB1.out)).mono ?_
      rintro e w2 ⟨rfl, hb2⟩
      have HB2 := Lib.hid (HB1.out.trans (hb2.mono HB1.out.size))
      clear hb2
      go_wp2
      go_ret
      exact ⟨rfl, HB2.out⟩
    · by_cases h1 : n < 0
      · have HX : Hid (expR n = ex n ∧ expE n = 0) := Lib.hid (by unfold expR expE; rw [if_neg (by omega), if_neg (by omega)]; exact ⟨rfl, rfl⟩)
        have HXc := Lib.hid (fun W hW => exp_any W n hW hn1)
        rw [HX.out.1, HX.out.2] at HXc
        have hx := ex_le n
        obtain ⟨E, hE⟩ : ∃ E, ex n = E := ⟨_, rfl⟩
        rw [hE] at HXc hx
        obtain ⟨x0, x1⟩ := hx
        have e1 : decide (E < 0) = false := by simpa using x0
        have e2 : decide (65536 < E) = false := by simpa using x1
        clear hE
        have HGc := Lib.hid (fun W hW => gate_any W n hW)
        have HG : Hid (gateR n = gt n ∧ gateE n = 0) := Lib.hid (by unfold gateR gateE; rw [if_pos h, if_pos h]; exact ⟨rfl, rfl⟩)
        rw [HG.out.1, HG.out.2] at HGc
        obtain ⟨n1, n2⟩ : -2147483648 ≤ n ∧ n ≤ 2147483647 := ⟨h.1, h.2⟩
        have hm := gt_neg (show n ≤ 0 by omega)
        obtain ⟨g, hg⟩ : ∃ g, gt n = g := ⟨_, rfl⟩
        rw [hg] at HGc hm
        clear hg
        have f1 : decide (n < 0) = true := by simp; omega
        have f2 : decide (0 < n) = false := by simp; omega
        have f5 : decide (g ≤ 0) = true := by simp; omega
        have f6 : decide (n ≤ g) = true := by simp; omega
        clear h HG HX
        go_enter Tryd.func8, Tryd.ntmps8
        go_wp2_with fail
        refine (HXc.out _ (HE.out.below HB0.out)).mono ?_
        rintro e w' ⟨rfl, rfl⟩
        go_wp2_with fail
        refine (HGc.out _ (HE.out.below HB0.out)).mono ?_
        rintro e w1 ⟨rfl, hb1⟩
        have HB1 := Lib.hid (HB0.out.trans (hb1.mono HB0.out.size))
        clear hb1
        go_wp2_with fail
        refine (awake_any _ (HE.out.below HB1.out)).mono ?_
        rintro e w2 ⟨rfl, hb2⟩
        have HB2 := Lib.hid (HB1.out.trans (hb2.mono HB1.out.size))
        clear hb2
        go_wp2
        go_ret
        exact ⟨rfl, HB2.out⟩
      · have HX : Hid (expR n = ex n ∧ expE n = 0) := Lib.hid (by unfold expR expE; rw [if_neg (by omega), if_neg (by omega)]; exact ⟨rfl, rfl⟩)
        have HXc := Lib.hid (fun W hW => exp_any W n hW hn1)
        rw [HX.out.1, HX.out.2] at HXc
        have hx := ex_le n
        obtain ⟨E, hE⟩ : ∃ E, ex n = E := ⟨_, rfl⟩
        rw [hE] at HXc hx
        obtain ⟨x0, x1⟩ := hx
        have e1 : decide (E < 0) = false := by simpa using x0
        have e2 : decide (65536 < E) = false := by simpa using x1
        clear hE
        have HGc := Lib.hid (fun W hW => gate_any W n hW)
        have HG : Hid (gateR n = gt n ∧ gateE n = 0) := Lib.hid (by unfold gateR gateE; rw [if_pos h, if_pos h]; exact ⟨rfl, rfl⟩)
        rw [HG.out.1, HG.out.2] at HGc
        obtain ⟨n1, n2⟩ : -2147483648 ≤ n ∧ n ≤ 2147483647 := ⟨h.1, h.2⟩
        have hp := gt_pos (show 0 ≤ n by omega)
        have hm := gt_neg (show n ≤ 0 by omega)
        obtain ⟨g, hg⟩ : ∃ g, gt n = g := ⟨_, rfl⟩
        rw [hg] at HGc hp hm
        clear hg
        have f1 : decide (n < 0) = false := by simp; omega
        have f2 : decide (0 < n) = false := by simp; omega
        have f3 : decide (0 ≤ g) = true := by simp; omega
        have f4 : decide (g ≤ n) = true := by simp; omega
        have f5 : decide (g ≤ 0) = true := by simp; omega
        have f6 : decide (n ≤ g) = true := by simp; omega
        clear h HG HX
        go_enter Tryd.func8, Tryd.ntmps8
        go_wp2_with fail
        refine (HXc.out _ (HE.out.below HB0.out)).mono ?_
        rintro e w' ⟨rfl, rfl⟩
        go_wp2_with fail
        refine (HGc.out _ (HE.out.below HB0.out)).mono ?_
        rintro e w1 ⟨rfl, hb1⟩
        have HB1 := Lib.hid (HB0.out.trans (hb1.mono HB0.out.size))
        clear hb1
        go_wp2_with fail
        refine (awake_any _ (HE.out.below HB1.out)).mono ?_
        rintro e w2 ⟨rfl, hb2⟩
        have HB2 := Lib.hid (HB1.out.trans (hb2.mono HB1.out.size))
        clear hb2
        go_wp2
        go_ret
        exact ⟨rfl, HB2.out⟩
  · by_cases h0 : 0 < n
    · have HX : Hid (expR n = 0 ∧ expE n = 10) := Lib.hid (by unfold expR expE; rw [if_pos h0, if_pos h0]; exact ⟨rfl, rfl⟩)
      have HXc := Lib.hid (fun W hW => exp_any W n hW hn1)
      rw [HX.out.1, HX.out.2] at HXc
      have HGc := Lib.hid (fun W hW => gate_any W n hW)
      have HG : Hid (gateR n = 0 ∧ gateE n = 10) := Lib.hid (by unfold gateR gateE; rw [if_neg h, if_neg h]; exact ⟨rfl, rfl⟩)
      rw [HG.out.1, HG.out.2] at HGc
      clear h HG HX
      go_enter Tryd.func8, Tryd.ntmps8
      go_wp2_with fail
      refine (HXc.out _ (HE.out.below HB0.out)).mono ?_
      rintro e w' ⟨rfl, rfl⟩
      go_wp2_with fail
      refine (HGc.out _ (HE.out.below HB0.out)).mono ?_
      rintro e w1 ⟨rfl, hb1⟩
      have HB1 := Lib.hid (HB0.out.trans (hb1.mono HB0.out.size))
      clear hb1
      go_wp2_with fail
      refine (awake_any _ (HE.out.below HB1.out)).mono ?_
      rintro e w2 ⟨rfl, hb2⟩
      have HB2 := Lib.hid (HB1.out.trans (hb2.mono HB1.out.size))
      clear hb2
      go_wp2
      go_ret
      exact ⟨rfl, HB2.out⟩
    · have HX : Hid (expR n = ex n ∧ expE n = 0) := Lib.hid (by unfold expR expE; rw [if_neg (by omega), if_neg (by omega)]; exact ⟨rfl, rfl⟩)
      have HXc := Lib.hid (fun W hW => exp_any W n hW hn1)
      rw [HX.out.1, HX.out.2] at HXc
      have hx := ex_le n
      obtain ⟨E, hE⟩ : ∃ E, ex n = E := ⟨_, rfl⟩
      rw [hE] at HXc hx
      obtain ⟨x0, x1⟩ := hx
      have e1 : decide (E < 0) = false := by simpa using x0
      have e2 : decide (65536 < E) = false := by simpa using x1
      clear hE
      have HGc := Lib.hid (fun W hW => gate_any W n hW)
      have HG : Hid (gateR n = 0 ∧ gateE n = 10) := Lib.hid (by unfold gateR gateE; rw [if_neg h, if_neg h]; exact ⟨rfl, rfl⟩)
      rw [HG.out.1, HG.out.2] at HGc
      clear h HG HX
      go_enter Tryd.func8, Tryd.ntmps8
      go_wp2_with fail
      refine (HXc.out _ (HE.out.below HB0.out)).mono ?_
      rintro e w' ⟨rfl, rfl⟩
      go_wp2_with fail
      refine (HGc.out _ (HE.out.below HB0.out)).mono ?_
      rintro e w1 ⟨rfl, hb1⟩
      have HB1 := Lib.hid (HB0.out.trans (hb1.mono HB0.out.size))
      clear hb1
      go_wp2_with fail
      refine (awake_any _ (HE.out.below HB1.out)).mono ?_
      rintro e w2 ⟨rfl, hb2⟩
      have HB2 := Lib.hid (HB1.out.trans (hb2.mono HB1.out.size))
      clear hb2
      go_wp2
      go_ret
      exact ⟨rfl, HB2.out⟩
end Go.Proofs.YtalmnmdileagbaaDoor.Fx
