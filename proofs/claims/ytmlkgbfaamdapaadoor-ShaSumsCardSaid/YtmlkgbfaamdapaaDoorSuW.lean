import Derived.Test.YtmlkgbfaamdapaaDoorSs
import Derived.Test.YtmlkgbfaamdapaaDoorSl
namespace Go.Proofs.YtmlkgbfaamdapaaDoor
open Go.ChangeShapes Go.WideShapes Go.ChangeAt Go.RowKit

set_option maxRecDepth 100000 in
set_option maxHeartbeats 2000000 in
theorem sums_walk (w : World) (l : List Int) (sp : Option Addr) (m cap : Nat) (hm : l.length = m) (hb : Bytes w sp cap l) (hz : sp = none → cap = 0) (hr : rng l) (he : Env w) :
    Calls Tryd.prog 3 #[.slice sp m cap] w fun e w' => e = .returned (.bool true) ∧ Below w.heap.size w w' := by
  have hmm : m ≤ 9223372036854775807 := by have h1 := hb.le; have h2 := hb.max; rw [hm] at h1; unfold maxLen at h2; omega
  have HE := Lib.hid he
  have HM := Lib.hid hm
  have HB := Lib.hid hb
  have HR : Hid (rng l) := Lib.hid hr
  clear he hm hb hr
  by_cases h300 : 300 < m
  · have hd : decide ((300 : Int) < (m : Int)) = true := by simp; omega
    go_enter Tryd.func3, Tryd.ntmps3
    go_wp2_with fail
    refine (awake_any w HE.out).mono ?_
    rintro e w1 ⟨rfl, hb1⟩
    go_wp2
    go_ret
    exact ⟨rfl, hb1⟩
  · have hd : decide ((300 : Int) < (m : Int)) = false := by simp; omega
    obtain ⟨F, hF⟩ : ∃ F, sum l = F := ⟨_, rfl⟩
    have heq : ∀ w, (binOp .eql 25 (.agg (rowB F)) (.agg (rowB F))).run Tryd.prog w = .ok (.bool true) w := by rw [← hF]; exact eq_sum l
    have HF := Lib.hid hF
    clear hF
    go_enter Tryd.func3, Tryd.ntmps3
    go_wp2_with fail
    refine (sum_any w sp m cap l HM.out HB.out HE.out (by omega)).mono ?_
    rintro e w1 ⟨rfl, hb1⟩
    rw [HF.out]
    have HE1 := Lib.hid (HE.out.below hb1)
    have HB1 := Lib.hid (HB.out.below hb1)
    have HW1 := Lib.hid hb1
    clear hb1
    go_wp2_with fail
    refine (ref_sum block_any w1 sp m cap l HM.out HB1.out hz HR.out (by omega)).mono ?_
    rintro e w2 ⟨rfl, hb2⟩
    rw [HF.out]
    have HE2 := Lib.hid (HE1.out.below hb2)
    have HW2 := Lib.hid (HW1.out.trans (hb2.mono HW1.out.size))
    clear hb2
    go_wp2_with fail
    refine (awake_any w2 HE2.out).mono ?_
    rintro e w3 ⟨rfl, hb3⟩
    have HW3 := Lib.hid (HW2.out.trans (hb3.mono HW2.out.size))
    clear hb3
    go_wp2
    go_ret
    exact ⟨rfl, HW3.out⟩
end Go.Proofs.YtmlkgbfaamdapaaDoor
