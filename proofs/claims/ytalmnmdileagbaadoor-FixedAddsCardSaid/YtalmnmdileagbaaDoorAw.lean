import Derived.Test.YtalmnmdileagbaaDoorFf
namespace Go.Proofs.YtalmnmdileagbaaDoor.Fx
open Go.ChangeShapes Go.WideShapes Go.ChangeAt Go.RowKit

set_option maxRecDepth 100000 in
set_option maxHeartbeats 4000000 in
theorem adds_walk (w : World) (a b : Int) (he : Env w) : Calls Tryd.prog 3 #[.int .i64 a, .int .i64 b] w fun e w' => e = .returned (.bool true) ∧ Below w.heap.size w w' := by
  have HE := Lib.hid he
  clear he
  have HB0 := Lib.hid (Below.refl w.heap.size w)
  by_cases ha : isN a
  · have HA := Lib.hid ha
    by_cases hb : isN b
    · have HB := Lib.hid hb
      have HAr : Hid (addR a b = res (a + b) ∧ addE a b = err (a + b) ∧ mulR a b = res (rnd (a * b)) ∧ mulE a b = err (rnd (a * b))) := Lib.hid (by
        unfold addR addE mulR mulE
        rw [if_pos ⟨ha, hb⟩, if_pos ⟨ha, hb⟩, if_pos ⟨ha, hb⟩, if_pos ⟨ha, hb⟩]
        exact ⟨rfl, rfl, rfl, rfl⟩)
      clear ha hb
      go_enter Tryd.func3, Tryd.ntmps3
      go_wp2_with fail
      refine (add_any _ a b).mono ?_
      rintro e w1 ⟨rfl, hb1⟩
      rw [HAr.out.1, HAr.out.2.1]
      have HB1 := Lib.hid (HB0.out.trans (hb1.mono HB0.out.size))
      clear hb1
      go_wp2_with fail
      refine (mul_any _ a b).mono ?_
      rintro e w2 ⟨rfl, hb2⟩
      rw [HAr.out.2.2.1, HAr.out.2.2.2]
      have HB2 := Lib.hid (HB1.out.trans (hb2.mono HB1.out.size))
      clear hb2
      go_wp2_with fail
      refine (is_any _ a).mono ?_
      rintro e w' ⟨rfl, rfl⟩
      rw [isB_yes HA.out]
      go_wp2_with fail
      refine (check_any _ a 0 (by rw [if_pos HA.out])).mono ?_
      rintro e w3 ⟨rfl, hb3⟩
      have HB3 := Lib.hid (HB2.out.trans (hb3.mono HB2.out.size))
      clear hb3
      go_wp2_with fail
      refine (is_any _ b).mono ?_
      rintro e w' ⟨rfl, rfl⟩
      rw [isB_yes HB.out]
      obtain ⟨a1, a2⟩ : -2147483648 ≤ a ∧ a ≤ 2147483647 := HA.out
      obtain ⟨b1, b2⟩ : -2147483648 ≤ b ∧ b ≤ 2147483647 := HB.out
      obtain ⟨m1, m2⟩ := mul_in HA.out HB.out
      go_wp2_with fail
      refine (told_any _ (a + b)).mono ?_
      rintro e w' ⟨rfl, rfl⟩
      go_wp2_with fail
      refine (round_any _ (a * b) m1 m2).mono ?_
      rintro e w' ⟨rfl, rfl⟩
      go_wp2_with fail
      refine (told_any _ (rnd (a * b))).mono ?_
      rintro e w' ⟨rfl, rfl⟩
      go_wp2_with fail
      refine (awake_any _ (HE.out.below HB3.out)).mono ?_
      rintro e w4 ⟨rfl, hb4⟩
      have HB4 := Lib.hid (HB3.out.trans (hb4.mono HB3.out.size))
      clear hb4
      go_wp2
      go_ret
      exact ⟨rfl, HB4.out⟩
    · have HB := Lib.hid hb
      have HAr : Hid (addR a b = 0 ∧ addE a b = 10 ∧ mulR a b = 0 ∧ mulE a b = 10) := Lib.hid (by
        have hn : ¬ (isN a ∧ isN b) := fun h => hb h.2
        unfold addR addE mulR mulE
        rw [if_neg hn, if_neg hn, if_neg hn, if_neg hn]
        exact ⟨rfl, rfl, rfl, rfl⟩)
      clear ha hb
      go_enter Tryd.func3, Tryd.ntmps3
      go_wp2_with fail
      refine (add_any _ a b).mono ?_
      rintro e w1 ⟨rfl, hb1⟩
      rw [HAr.out.1, HAr.out.2.1]
      have HB1 := Lib.hid (HB0.out.trans (hb1.mono HB0.out.size))
      clear hb1
      go_wp2_with fail
      refine (mul_any _ a b).mono ?_
      rintro e w2 ⟨rfl, hb2⟩
      rw [HAr.out.2.2.1, HAr.out.2.2.2]
      have HB2 := Lib.hid (HB1.out.trans (hb2.mono HB1.out.size))
      clear hb2
      go_wp2_with fail
      refine (is_any _ a).mono ?_
      rintro e w' ⟨rfl, rfl⟩
      rw [isB_yes HA.out]
      go_wp2_with fail
      refine (check_any _ a 0 (by rw [if_pos HA.out])).mono ?_
      rintro e w3 ⟨rfl, hb3⟩
      have HB3 := Lib.hid (HB2.out.trans (hb3.mono HB2.out.size))
      clear hb3
      go_wp2_with fail
      refine (is_any _ b).mono ?_
      rintro e w' ⟨rfl, rfl⟩
      rw [isB_no HB.out]
      go_wp2_with fail
      refine (awake_any _ (HE.out.below HB3.out)).mono ?_
      rintro e w4 ⟨rfl, hb4⟩
      have HB4 := Lib.hid (HB3.out.trans (hb4.mono HB3.out.size))
      clear hb4
      go_wp2
      go_ret
      exact ⟨rfl, HB4.out⟩
  · have HA := Lib.hid ha
    have HAr : Hid (addR a b = 0 ∧ addE a b = 10 ∧ mulR a b = 0 ∧ mulE a b = 10) := Lib.hid (by
      have hn : ¬ (isN a ∧ isN b) := fun h => ha h.1
      unfold addR addE mulR mulE
      rw [if_neg hn, if_neg hn, if_neg hn, if_neg hn]
      exact ⟨rfl, rfl, rfl, rfl⟩)
    clear ha
    go_enter Tryd.func3, Tryd.ntmps3
    go_wp2_with fail
    refine (add_any _ a b).mono ?_
    rintro e w1 ⟨rfl, hb1⟩
    rw [HAr.out.1, HAr.out.2.1]
    have HB1 := Lib.hid (HB0.out.trans (hb1.mono HB0.out.size))
    clear hb1
    go_wp2_with fail
    refine (mul_any _ a b).mono ?_
    rintro e w2 ⟨rfl, hb2⟩
    rw [HAr.out.2.2.1, HAr.out.2.2.2]
    have HB2 := Lib.hid (HB1.out.trans (hb2.mono HB1.out.size))
    clear hb2
    go_wp2_with fail
    refine (is_any _ a).mono ?_
    rintro e w' ⟨rfl, rfl⟩
    rw [isB_no HA.out]
    go_wp2_with fail
    refine (check_any _ a 10 (by rw [if_neg HA.out])).mono ?_
    rintro e w3 ⟨rfl, hb3⟩
    have HB3 := Lib.hid (HB2.out.trans (hb3.mono HB2.out.size))
    clear hb3
    go_wp2_with fail
    refine (check_any _ a 10 (by rw [if_neg HA.out])).mono ?_
    rintro e w4 ⟨rfl, hb4⟩
    have HB4 := Lib.hid (HB3.out.trans (hb4.mono HB3.out.size))
    clear hb4
    go_wp2_with fail
    refine (awake_any _ (HE.out.below HB4.out)).mono ?_
    rintro e w5 ⟨rfl, hb5⟩
    have HB5 := Lib.hid (HB4.out.trans (hb5.mono HB4.out.size))
    clear hb5
    go_wp2
    go_ret
    exact ⟨rfl, HB5.out⟩
end Go.Proofs.YtalmnmdileagbaaDoor.Fx
