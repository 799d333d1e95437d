import Derived.Test.YtpaffncdfldnmaaDoorY
namespace Go.Proofs.YtpaffncdfldnmaaDoor
open Go.ChangeShapes Go.WideShapes Go.ChangeAt Go.RowKit
theorem arrayLen51 : Tryd.prog.arrayLen 88 = 64 := by kernel_rfl
theorem run_tail (p k : Nat) (hk : k < 64) (w : World) : (Instr.sliceAt 88 (.pointer (some ⟨p, 8, none⟩)) (some (.int .i64 (k : Int))) none none).run Tryd.prog w = .ok (.slice (some ⟨p, 8 + k, none⟩) (64 - k) (64 - k)) w := by
  cases hq : Tryd.prog.info? 5 with
  | none => have := size5; simp [hq] at this
  | some j =>
    have hj : j.size = 1 := by have := size5; simpa [hq] using this
    have hadd : (⟨p, 8, none⟩ : Addr).add k = ⟨p, 8 + k, none⟩ := by unfold Addr.add; split <;> simp_all
    simp [Instr.sliceAt, Instr.sureAddr, run_underlying Tryd.underlying88, Instr.sliceBounds, Instr.sliceBound, asIntOf, sizeOf, typeInfo, hq, hj, show ¬ 64 = k by omega, hadd]
    intro h
    omega
end Go.Proofs.YtpaffncdfldnmaaDoor
