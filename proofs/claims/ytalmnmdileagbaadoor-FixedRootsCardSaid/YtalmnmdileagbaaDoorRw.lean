import Derived.Test.YtalmnmdileagbaaDoorFf
namespace Go.Proofs.YtalmnmdileagbaaDoor.Fx
open Go.ChangeShapes Go.WideShapes Go.ChangeAt Go.RowKit

set_option maxRecDepth 100000 in
set_option maxHeartbeats 4000000 in
theorem roots_walk (w : World) (n : Int) (he : Env w) : Calls Tryd.prog 5 #[.int .i64 n] w fun e w' => e = .returned (.bool true) ∧ Below w.heap.size w w' := by
  have HE := Lib.hid he
  clear he
  have HB0 := Lib.hid (Below.refl w.heap.size w)
  by_cases h : isN n
  · by_cases h0 : 0 ≤ n
    · have HN := Lib.hid h
      have HO := Lib.hid h0
      have HEr : Hid (rootE n = 0) := Lib.hid (by unfold rootE; rw [if_pos ⟨h, h0⟩])
      have hr : IsRoot (n * 65536) (rootR n) := by
        unfold rootR
        rw [if_pos ⟨h, h0⟩]
        exact rootGo_n h h0
      have HRr := Lib.hid (fun W => rroot_any W n h h0)
      obtain ⟨n1, n2⟩ : -2147483648 ≤ n ∧ n ≤ 2147483647 := ⟨h.1, h.2⟩
      have r3 := hr.small n2
      obtain ⟨r0, r1, r2⟩ := hr
      have HRo := Lib.hid (fun W => root_any W n)
      obtain ⟨r, hrr⟩ : ∃ r, rootR n = r := ⟨_, rfl⟩
      rw [hrr] at r0 r1 r2 r3 HRr HRo
      rw [HEr.out] at HRo
      clear hrr h
      have m0 : 0 ≤ r * r := Int.mul_nonneg r0 r0
      have m1 : r * r ≤ 11863283 * 11863283 := Int.mul_le_mul r3 r3 r0 (by omega)
      have m2 : 0 ≤ (r + 1) * (r + 1) := Int.mul_nonneg (by omega) (by omega)
      have m3 : (r + 1) * (r + 1) ≤ 11863284 * 11863284 := Int.mul_le_mul (by omega) (by omega) (by omega) (by omega)
      have d0 : decide (n < 0) = false := by simpa using h0
      have d1 : decide (r * r ≤ n * 65536) = true := by simpa using r1
      have d2 : decide (n * 65536 < (r + 1) * (r + 1)) = true := by simpa using r2
      clear r1 r2
      go_enter Tryd.func5, Tryd.ntmps5
      go_wp2_with fail
      refine (HRo.out _).mono ?_
      rintro e w1 ⟨rfl, hb1⟩
      have HB1 := Lib.hid (HB0.out.trans (hb1.mono HB0.out.size))
      clear hb1
      go_wp2_with fail
      refine (is_any _ n).mono ?_
      rintro e w' ⟨rfl, rfl⟩
      rw [isB_yes HN.out]
      go_wp2_with fail
      refine (HRr.out _).mono ?_
      rintro e w' ⟨rfl, rfl⟩
      go_wp2_with fail
      refine (awake_any _ (HE.out.below HB1.out)).mono ?_
      rintro e w2 ⟨rfl, hb2⟩
      have HB2 := Lib.hid (HB1.out.trans (hb2.mono HB1.out.size))
      clear hb2
      go_wp2
      go_ret
      exact ⟨rfl, HB2.out⟩
    · have HN := Lib.hid h
      have HEr : Hid (rootE n = 10) := Lib.hid (by unfold rootE; rw [if_neg (fun hh => h0 hh.2)])
      have HRr : Hid (rootR n = 0) := Lib.hid (by unfold rootR; rw [if_neg (fun hh => h0 hh.2)])
      have d0 : decide (n < 0) = true := by simpa using h0
      clear h
      go_enter Tryd.func5, Tryd.ntmps5
      go_wp2_with fail
      refine (root_any _ n).mono ?_
      rintro e w1 ⟨rfl, hb1⟩
      rw [HEr.out, HRr.out]
      have HB1 := Lib.hid (HB0.out.trans (hb1.mono HB0.out.size))
      clear hb1
      go_wp2_with fail
      refine (is_any _ n).mono ?_
      rintro e w' ⟨rfl, rfl⟩
      rw [isB_yes HN.out]
      go_wp2_with fail
      refine (awake_any _ (HE.out.below HB1.out)).mono ?_
      rintro e w2 ⟨rfl, hb2⟩
      have HB2 := Lib.hid (HB1.out.trans (hb2.mono HB1.out.size))
      clear hb2
      go_wp2
      go_ret
      exact ⟨rfl, HB2.out⟩
  · have HN := Lib.hid h
    have HEr : Hid (rootE n = 10) := Lib.hid (by unfold rootE; rw [if_neg (fun hh => h hh.1)])
    have HRr : Hid (rootR n = 0) := Lib.hid (by unfold rootR; rw [if_neg (fun hh => h hh.1)])
    clear h
    go_enter Tryd.func5, Tryd.ntmps5
    go_wp2_with fail
    refine (root_any _ n).mono ?_
    rintro e w1 ⟨rfl, hb1⟩
    rw [HEr.out, HRr.out]
    have HB1 := Lib.hid (HB0.out.trans (hb1.mono HB0.out.size))
    clear hb1
    go_wp2_with fail
    refine (is_any _ n).mono ?_
    rintro e w' ⟨rfl, rfl⟩
    rw [isB_no HN.out]
    go_wp2_with fail
    refine (awake_any _ (HE.out.below HB1.out)).mono ?_
    rintro e w2 ⟨rfl, hb2⟩
    have HB2 := Lib.hid (HB1.out.trans (hb2.mono HB1.out.size))
    clear hb2
    go_wp2
    go_ret
    exact ⟨rfl, HB2.out⟩
end Go.Proofs.YtalmnmdileagbaaDoor.Fx
