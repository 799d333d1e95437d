/- Pools of rows in pages: the laws' right; rows of numbers of the law's own. -/
import Derived.Test.YtcfhchdkohjbfaaLc
import Derived.Test.YtcfhchdkohjbfaaIg
namespace Go.Proofs.Ytcfhchdkohjbfaa.Kv
set_option maxRecDepth 100000
open Go.ChangeShapes Go.WideShapes Go.ChangeAt Go.RowKit Go.Proofs.Ytcfhchdkohjbfaa.Tn
def rightB (x y : Int) : Bool := decide (1 ≤ x ∧ x ≤ 12 ∧ 1 ≤ y ∧ y ≤ 8)
set_option maxHeartbeats 1000000 in
theorem right_any (w : World) (x y : Int) : Calls Try.prog 12 #[.agg #[.int .i64 x, .int .i64 y]] w fun e w' => e = .returned (.bool (rightB x y)) ∧ Below w.heap.size w w' := by
  have hb : Hid (Below w.heap.size w (w.alloc (.cells #[.int .i64 x, .int .i64 y] 22))) := Lib.hid ((Below.refl _ _).alloc (Nat.le_refl _) _)
  by_cases h1 : 1 ≤ x
  · have d1 : decide (1 ≤ x) = true := by simpa using h1
    by_cases h2 : x ≤ 12
    · have d2 : decide (x ≤ 12) = true := by simpa using h2
      by_cases h3 : 1 ≤ y
      · have d3 : decide (1 ≤ y) = true := by simpa using h3
        by_cases h4 : y ≤ 8
        · have d4 : decide (y ≤ 8) = true := by simpa using h4
          have HR : Hid (rightB x y = true) := Lib.hid (by unfold rightB; simp [h1, h2, h3, h4])
          go_enter Try.func12, Try.ntmps12
          go_wp2
          go_ret
          exact ⟨by rw [HR.out]; rfl, hb.out⟩
        · have d4 : decide (y ≤ 8) = false := by simpa using h4
          have HR : Hid (rightB x y = false) := Lib.hid (by unfold rightB; simp [h4])
          go_enter Try.func12, Try.ntmps12
          go_wp2
          go_ret
          exact ⟨by rw [HR.out]; rfl, hb.out⟩
      · have d3 : decide (1 ≤ y) = false := by simpa using h3
        have HR : Hid (rightB x y = false) := Lib.hid (by unfold rightB; simp [h3])
        go_enter Try.func12, Try.ntmps12
        go_wp2
        go_ret
        exact ⟨by rw [HR.out]; rfl, hb.out⟩
    · have d2 : decide (x ≤ 12) = false := by simpa using h2
      have HR : Hid (rightB x y = false) := Lib.hid (by unfold rightB; simp [h2])
      go_enter Try.func12, Try.ntmps12
      go_wp2
      go_ret
      exact ⟨by rw [HR.out]; rfl, hb.out⟩
  · have d1 : decide (1 ≤ x) = false := by simpa using h1
    have HR : Hid (rightB x y = false) := Lib.hid (by unfold rightB; simp [h1])
    go_enter Try.func12, Try.ntmps12
    go_wp2
    go_ret
    exact ⟨by rw [HR.out]; rfl, hb.out⟩
end Go.Proofs.Ytcfhchdkohjbfaa.Kv
