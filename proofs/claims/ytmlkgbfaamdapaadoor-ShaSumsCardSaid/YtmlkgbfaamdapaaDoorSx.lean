import Derived.Test.YtmlkgbfaamdapaaDoorSk
import Derived.IntWalk
namespace Go.Proofs.YtmlkgbfaamdapaaDoor
open Go.ChangeShapes Go.WideShapes Go.ChangeAt Go.RowKit

theorem alloc3 (w : World) (X Y Z : Obj) : (((w.alloc X).alloc Y).alloc Z).heap[w.heap.size]? = some X ∧ (((w.alloc X).alloc Y).alloc Z).heap[w.heap.size + 1]? = some Y ∧ (((w.alloc X).alloc Y).alloc Z).heap[w.heap.size + 2]? = some Z := by
  have h1 : w.heap.size < (w.alloc X).heap.size := by simp
  have h2 : w.heap.size + 1 < ((w.alloc X).alloc Y).heap.size := by simp
  refine ⟨?_, ?_, ?_⟩
  · rw [Below.heap_alloc _ _ _ (by simp; omega), Below.heap_alloc _ _ _ h1]
    exact heap_alloc_new _ _
  · rw [Below.heap_alloc _ _ _ h2]
    have := heap_alloc_new (w.alloc X) Y
    simpa using this
  · have := heap_alloc_new ((w.alloc X).alloc Y) Z
    simpa using this
section
variable {a : Act} {o : Oper} {W : World}
theorem run_sub (u v z : Int) (h : u - v = z) (h1 : -9223372036854775808 ≤ z) (h2 : z ≤ 9223372036854775807) : (binOp .sub 3 (.int .i64 u) (.int .i64 v)).run Tryd.prog W = .ok (.int .i64 z) W := by
  have e : IntKind.i64.wrap (u - v) = z := by rw [IntWalk.i64_in _ (by omega)]; exact h
  simp [go_sem, e]
theorem run_add (u v z : Int) (h : u + v = z) (h1 : -9223372036854775808 ≤ z) (h2 : z ≤ 9223372036854775807) : (binOp .add 3 (.int .i64 u) (.int .i64 v)).run Tryd.prog W = .ok (.int .i64 z) W := by
  have e : IntKind.i64.wrap (u + v) = z := by rw [IntWalk.i64_in _ (by omega)]; exact h
  simp [go_sem, e]
theorem run_mul (u v z : Int) (h : u * v = z) (h1 : -9223372036854775808 ≤ z) (h2 : z ≤ 9223372036854775807) : (binOp .mul 3 (.int .i64 u) (.int .i64 v)).run Tryd.prog W = .ok (.int .i64 z) W := by
  have e : IntKind.i64.wrap (u * v) = z := by rw [IntWalk.i64_in _ (by omega)]; exact h
  simp [go_sem, e]
theorem run_rem (u v z : Int) (h : u % v = z) (h0 : 0 ≤ u) (hv : 0 < v) (h2 : v ≤ 9223372036854775807) : (binOp .rem 3 (.int .i64 u) (.int .i64 v)).run Tryd.prog W = .ok (.int .i64 z) W := by
  have b1 := Int.emod_nonneg u (show v ≠ 0 by omega)
  have b2 := Int.emod_lt_of_pos u hv
  have c : u.tmod v = u % v := Int.tmod_eq_emod_of_nonneg h0
  have d : ¬ v = 0 := by omega
  have _ := b1
  have _ := b2
  have _ := h2
  simp [go_sem, d, c, h]
theorem exec_bin (op : BinOp) (x y : Operand) (ho : o.op = .binOp op 3 x y 3) (hop : (op == .eql || op == .neq) = false) (u v z : Int) (hx : a.eval x = .int .i64 u) (hy : a.eval y = .int .i64 v) (h : (binOp op 3 (.int .i64 u) (.int .i64 v)).run Tryd.prog W = .ok (.int .i64 z) W) : (execOp a.eval o).run Tryd.prog W = .ok (.value (.int .i64 z)) W := by
  unfold execOp
  have hg : (eqGuard op 3 x y (.int .i64 u) (.int .i64 v)).run Tryd.prog W = .ok () W := by
    unfold eqGuard
    cases op <;> simp_all
  simp [ho, hx, hy, hg, h]
theorem built48 (a b c d e f g h : Int) : Tryd.prog.built 48 [(0, .int .i64 a), (1, .int .i64 b), (2, .int .i64 c), (3, .int .i64 d), (4, .int .i64 e), (5, .int .i64 f), (6, .int .i64 g), (7, .int .i64 h)] = some (rowN [a, b, c, d, e, f, g, h]) := by kernel_rfl
theorem wpList_build48 {ops : Array Oper} {rest : List Oper} {Q : Exit → Act → World → Prop} (hg : o.guard = none) (x0 x1 x2 x3 x4 x5 x6 x7 : Operand) (ho : o.op = .build 48 #[(0, x0), (1, x1), (2, x2), (3, x3), (4, x4), (5, x5), (6, x6), (7, x7)])
    (v0 v1 v2 v3 v4 v5 v6 v7 : Int) (h0 : a.eval x0 = .int .i64 v0) (h1 : a.eval x1 = .int .i64 v1) (h2 : a.eval x2 = .int .i64 v2) (h3 : a.eval x3 = .int .i64 v3) (h4 : a.eval x4 = .int .i64 v4) (h5 : a.eval x5 = .int .i64 v5) (h6 : a.eval x6 = .int .i64 v6) (h7 : a.eval x7 = .int .i64 v7)
    (h : wpList Tryd.prog ops Q rest (a.put o.dst (.agg (rowN [v0, v1, v2, v3, v4, v5, v6, v7]))) W) : wpList Tryd.prog ops Q (o :: rest) a W :=
  wpList_built hg 48 _ ho _ (by
    have e : ((#[(0, x0), (1, x1), (2, x2), (3, x3), (4, x4), (5, x5), (6, x6), (7, x7)] : Array (Nat × Operand)).map fun (i, x) => (i, a.eval x)).toList = [(0, .int .i64 v0), (1, .int .i64 v1), (2, .int .i64 v2), (3, .int .i64 v3), (4, .int .i64 v4), (5, .int .i64 v5), (6, .int .i64 v6), (7, .int .i64 v7)] := by simp [h0, h1, h2, h3, h4, h5, h6, h7]
    rw [e]
    exact built48 v0 v1 v2 v3 v4 v5 v6 v7) h
theorem size3 : (Tryd.prog.info? 3).map (·.size) = some 1 := by kernel_rfl
theorem exec_idx (t e n : Nat) (ht : Tryd.prog.underlying t = some (.array n e)) (he : (Tryd.prog.info? e).map (·.size) = some 1) (x y : Operand) (ho : o.op = .indexAddr t x y) (g i : Nat) (hx : a.eval x = .pointer (some ⟨g, 0, none⟩)) (hy : a.eval y = .int .i64 (i : Int)) (hi : i < n) :
    (execOp a.eval o).run Tryd.prog W = .ok (.value (.pointer (some ⟨g, i, none⟩))) W := by
  have hadd : (⟨g, 0, none⟩ : Addr).add i = ⟨g, i, none⟩ := by unfold Addr.add; split <;> simp_all
  cases hq : Tryd.prog.info? e with
  | none => simp [hq] at he
  | some j =>
    have hj : j.size = 1 := by simpa [hq] using he
    unfold execOp
    simp [ho, hx, hy, Instr.indexAt, Instr.sureAddr, asIntOf, run_underlying ht, sizeOf, typeInfo, hq, hj, hi, hadd]
theorem exec_built (t : TypeId) (parts : Array (Nat × Operand)) (ho : o.op = .build t parts) (cs : Array Value) (hb : Tryd.prog.built t (parts.map fun (i, x) => (i, a.eval x)).toList = some cs) : (execOp a.eval o).run Tryd.prog W = .ok (.value (.agg cs)) W := by
  unfold execOp
  simp only [ho, Sem.run_bind, run_build W t _ cs hb, Result.andThen_ok, Sem.run_pure]
theorem cf28 (vs : Array Value) (W : World) : (callFunc 28 vs).run Tryd.prog W = .ok (.enter 28 vs) W := cf Tryd.func28 (by kernel_rfl) (by kernel_rfl) vs W
theorem cf23 (vs : Array Value) (W : World) : (callFunc 23 vs).run Tryd.prog W = .ok (.enter 23 vs) W := cf Tryd.func23 (by kernel_rfl) (by kernel_rfl) vs W
theorem cf22 (vs : Array Value) (W : World) : (callFunc 22 vs).run Tryd.prog W = .ok (.enter 22 vs) W := cf Tryd.func22 (by kernel_rfl) (by kernel_rfl) vs W
theorem exec_call3 (f : FuncId) (x y z : Operand) (ats : Array TypeId) (u v t : Value) (ho : o.op = .call { callee := .value (.func f), args := #[x, y, z], argTypes := ats }) (hx : a.eval x = u) (hy : a.eval y = v) (hz : a.eval z = t)
    (hf : (callFunc f #[u, v, t]).run Tryd.prog W = .ok (.enter f #[u, v, t]) W) : (execOp a.eval o).run Tryd.prog W = .ok (.enter f #[u, v, t]) W :=
  exec_call f #[x, y, z] ats #[u, v, t] ho (by simp [hx, hy, hz]) hf
end
end Go.Proofs.YtmlkgbfaamdapaaDoor
