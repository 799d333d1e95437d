import Derived.Test.YtalmnmdileagbaaDoorFf
namespace Go.Proofs.YtalmnmdileagbaaDoor.Fx
open Go.ChangeShapes Go.WideShapes Go.ChangeAt Go.RowKit

set_option maxRecDepth 100000 in
set_option maxHeartbeats 4000000 in
theorem divs_walk (w : World) (a b : Int) (he : Env w) : Calls Tryd.prog 4 #[.int .i64 a, .int .i64 b] w fun e w' => e = .returned (.bool true) ∧ Below w.heap.size w w' := by
  have HE := Lib.hid he
  clear he
  have HB0 := Lib.hid (Below.refl w.heap.size w)
  by_cases ha : isN a
  · have HA := Lib.hid ha
    by_cases hb : isN b
    · have HB := Lib.hid hb
      by_cases hz : b = 0
      · subst hz
        have HAr : Hid (divR a 0 = 0 ∧ divE a 0 = 26) := Lib.hid (by
          unfold divR divE
          rw [if_neg (fun h => h.2.2 rfl), if_pos ⟨ha, hb⟩, if_pos rfl]
          exact ⟨rfl, rfl⟩)
        clear ha hb
        go_enter Tryd.func4, Tryd.ntmps4
        go_wp2_with fail
        refine (div_any _ a 0).mono ?_
        rintro e w1 ⟨rfl, hb1⟩
        rw [HAr.out.1, HAr.out.2]
        have HB1 := Lib.hid (HB0.out.trans (hb1.mono HB0.out.size))
        clear hb1
        go_wp2_with fail
        refine (is_any _ a).mono ?_
        rintro e w' ⟨rfl, rfl⟩
        rw [isB_yes HA.out]
        go_wp2_with fail
        refine (is_any _ 0).mono ?_
        rintro e w' ⟨rfl, rfl⟩
        rw [isB_yes HB.out]
        go_wp2_with fail
        refine (awake_any _ (HE.out.below HB1.out)).mono ?_
        rintro e w2 ⟨rfl, hb2⟩
        have HB2 := Lib.hid (HB1.out.trans (hb2.mono HB1.out.size))
        clear hb2
        go_wp2
        go_ret
        exact ⟨rfl, HB2.out⟩
      · have HZ := Lib.hid hz
        have dz : (b == 0) = false := by simpa using hz
        have HAr : Hid (divR a b = res (dv a b) ∧ divE a b = err (dv a b)) := Lib.hid (by
          unfold divR divE
          rw [if_pos ⟨ha, hb, hz⟩, if_pos ⟨ha, hb⟩, if_neg hz]
          exact ⟨rfl, rfl⟩)
        clear ha hb hz
        go_enter Tryd.func4, Tryd.ntmps4
        go_wp2_with fail
        refine (div_any _ a b).mono ?_
        rintro e w1 ⟨rfl, hb1⟩
        rw [HAr.out.1, HAr.out.2]
        have HB1 := Lib.hid (HB0.out.trans (hb1.mono HB0.out.size))
        clear hb1
        go_wp2_with fail
        refine (is_any _ a).mono ?_
        rintro e w' ⟨rfl, rfl⟩
        rw [isB_yes HA.out]
        go_wp2_with fail
        refine (is_any _ b).mono ?_
        rintro e w' ⟨rfl, rfl⟩
        rw [isB_yes HB.out]
        go_wp2_with fail
        refine (rdiv_any _ a b HZ.out HA.out HB.out).mono ?_
        rintro e w' ⟨rfl, rfl⟩
        go_wp2_with fail
        refine (told_any _ (dv a b)).mono ?_
        rintro e w' ⟨rfl, rfl⟩
        go_wp2_with fail
        refine (awake_any _ (HE.out.below HB1.out)).mono ?_
        rintro e w2 ⟨rfl, hb2⟩
        have HB2 := Lib.hid (HB1.out.trans (hb2.mono HB1.out.size))
        clear hb2
        go_wp2
        go_ret
        exact ⟨rfl, HB2.out⟩
    · have HB := Lib.hid hb
      have HAr : Hid (divR a b = 0 ∧ divE a b = 10) := Lib.hid (by
        have hn : ¬ (isN a ∧ isN b) := fun h => hb h.2
        unfold divR divE
        rw [if_neg (fun h => hn ⟨h.1, h.2.1⟩), if_neg hn]
        exact ⟨rfl, rfl⟩)
      clear ha hb
      go_enter Tryd.func4, Tryd.ntmps4
      go_wp2_with fail
      refine (div_any _ a b).mono ?_
      rintro e w1 ⟨rfl, hb1⟩
      rw [HAr.out.1, HAr.out.2]
      have HB1 := Lib.hid (HB0.out.trans (hb1.mono HB0.out.size))
      clear hb1
      go_wp2_with fail
      refine (is_any _ a).mono ?_
      rintro e w' ⟨rfl, rfl⟩
      rw [isB_yes HA.out]
      go_wp2_with fail
      refine (is_any _ b).mono ?_
      rintro e w' ⟨rfl, rfl⟩
      rw [isB_no HB.out]
      go_wp2_with fail
      refine (awake_any _ (HE.out.below HB1.out)).mono ?_
      rintro e w2 ⟨rfl, hb2⟩
      have HB2 := Lib.hid (HB1.out.trans (hb2.mono HB1.out.size))
      clear hb2
      go_wp2
      go_ret
      exact ⟨rfl, HB2.out⟩
  · have HA := Lib.hid ha
    have HAr : Hid (divR a b = 0 ∧ divE a b = 10) := Lib.hid (by
      have hn : ¬ (isN a ∧ isN b) := fun h => ha h.1
      unfold divR divE
      rw [if_neg (fun h => hn ⟨h.1, h.2.1⟩), if_neg hn]
      exact ⟨rfl, rfl⟩)
    clear ha
    go_enter Tryd.func4, Tryd.ntmps4
    go_wp2_with fail
    refine (div_any _ a b).mono ?_
    rintro e w1 ⟨rfl, hb1⟩
    rw [HAr.out.1, HAr.out.2]
    have HB1 := Lib.hid (HB0.out.trans (hb1.mono HB0.out.size))
    clear hb1
    go_wp2_with fail
    refine (is_any _ a).mono ?_
    rintro e w' ⟨rfl, rfl⟩
    rw [isB_no HA.out]
    go_wp2_with fail
    refine (awake_any _ (HE.out.below HB1.out)).mono ?_
    rintro e w2 ⟨rfl, hb2⟩
    have HB2 := Lib.hid (HB1.out.trans (hb2.mono HB1.out.size))
    clear hb2
    go_wp2
    go_ret
    exact ⟨rfl, HB2.out⟩
end Go.Proofs.YtalmnmdileagbaaDoor.Fx
