import Derived.Test.YtighmhoekbnagaaDoorRm
import Derived.Test.YtighmhoekbnagaaDoorFm
namespace Go.Proofs.YtighmhoekbnagaaDoor
open Go.ChangeShapes Go.WideShapes Go.ChangeAt Go.RowKit

theorem few_smal {ls : List (List Int)} (h : few ls = true) (hr : ∀ l ∈ ls, rng l) : Smal ls := by
  obtain ⟨h1, h2⟩ := few_yes h
  exact ⟨by omega, h1, hr⟩
/-- a way's value -/
def wayV (N I : Int) (s1 s2 : Option Addr) (n1 n2 c1 c2 : Nat) : Array Value := #[.int .i64 N, .int .i64 I, .slice s1 n1 c1, .slice s2 n2 c2]
/-- a way in a box of its own -/
structure WayAt (w : World) (V : Array Value) (W : World) : Prop where
  below : Below w.heap.size w W
  box : W.heap[w.heap.size]? = some (.cells V 35 (0, 0))
theorem WayAt.later {w W W' : World} {V : Array Value} (h : WayAt w V W) (hb : Below W.heap.size W W') : WayAt w V W' :=
  ⟨h.below.trans (hb.mono h.below.size), (hb.block _ (Array.getElem?_eq_some_iff.1 h.box).1).trans h.box⟩
theorem WayAt.cell {w W : World} {V : Array Value} (h : WayAt w V W) (k : Nat) (v : Value) (hv : V[k]? = some v) : W.cell? ⟨w.heap.size, k, none⟩ = some v := by
  rw [cell_of_row _ _ _ _ _ _ h.box]
  exact hv
theorem run_place (a : Addr) (f : Field) {t : TypeId} {z : Nat} (hz : (Tryd.prog.info? t).map (·.size) = some (z + 1)) (ht : f.type = t) (W : World) : (fieldPlace a f).run Tryd.prog W = .ok (a.add f.offset) W := by
  subst ht
  cases hq : Tryd.prog.info? f.type with
  | none => simp [hq] at hz
  | some i =>
    have hi : i.size = z + 1 := by simpa [hq] using hz
    simp [fieldPlace, sizeOf, typeInfo, hq, hi]
set_option maxRecDepth 100000 in
theorem exec_way_at {a : Act} {o : Oper} {W : World} (x : Operand) (k : Nat) (hk : k < 4) (ho : o.op = .fieldAddr 35 x k) (g : Nat) (hx : a.eval x = .pointer (some ⟨g, 0, none⟩)) : (execOp a.eval o).run Tryd.prog W = .ok (.value (.pointer (some ⟨g, k, none⟩))) W := by
  unfold execOp
  have e3 : (Tryd.prog.info? 3).map (·.size) = some 1 := by kernel_rfl
  have e33 : (Tryd.prog.info? 33).map (·.size) = some 1 := by kernel_rfl
  rcases k with _ | _ | _ | _ | k
  · simp [ho, hx, Instr.fieldAt, run_underlying Tryd.underlying35, Instr.sureAddr, run_place _ _ e3, add_plain]
  · simp [ho, hx, Instr.fieldAt, run_underlying Tryd.underlying35, Instr.sureAddr, run_place _ _ e3, add_plain]
  · simp [ho, hx, Instr.fieldAt, run_underlying Tryd.underlying35, Instr.sureAddr, run_place _ _ size28, add_plain]
  · simp [ho, hx, Instr.fieldAt, run_underlying Tryd.underlying35, Instr.sureAddr, run_place _ _ e33, add_plain]
  · omega
section
variable {w W : World} {N I : Int} {s1 s2 : Option Addr} {n1 n2 c1 c2 : Nat}
theorem WayAt.f0 (h : WayAt w (wayV N I s1 s2 n1 n2 c1 c2) W) : W.cell? ⟨w.heap.size, 0, none⟩ = some (.int .i64 N) := h.cell 0 _ rfl
theorem WayAt.f1 (h : WayAt w (wayV N I s1 s2 n1 n2 c1 c2) W) : W.cell? ⟨w.heap.size, 1, none⟩ = some (.int .i64 I) := h.cell 1 _ rfl
theorem WayAt.f2 (h : WayAt w (wayV N I s1 s2 n1 n2 c1 c2) W) : W.cell? ⟨w.heap.size, 2, none⟩ = some (.slice s1 n1 c1) := h.cell 2 _ rfl
theorem WayAt.f3 (h : WayAt w (wayV N I s1 s2 n1 n2 c1 c2) W) : W.cell? ⟨w.heap.size, 3, none⟩ = some (.slice s2 n2 c2) := h.cell 3 _ rfl
end
theorem cfDeep (vs : Array Value) (W : World) : (callFunc 21 vs).run Tryd.prog W = .ok (.enter 21 vs) W := cf Tryd.func21 (by kernel_rfl) (by kernel_rfl) vs W
/-- a way in its box, and a digest in one behind it -/
structure FdS (w : World) (V : Array Value) (g : Nat) (d : List Int) (W : World) : Prop where
  way : WayAt w V W
  dig : Dg W g d
theorem FdS.later {w W W' : World} {V : Array Value} {g : Nat} {d : List Int} (h : FdS w V g d W) (hb : Below W.heap.size W W') : FdS w V g d W' := ⟨h.way.later hb, h.dig.below hb⟩
theorem FdS.made {w W : World} {V : Array Value} (h : WayAt w V W) (X : Array Value) (d : List Int) : FdS w V W.heap.size d ((W.alloc (.cells X 24)).setRow W.heap.size (rowB d)) :=
  ⟨h.later (below_setRow ((Below.refl _ _).alloc (Nat.le_refl _) _) (Nat.le_refl _) _), Dg.made W X d⟩
end Go.Proofs.YtighmhoekbnagaaDoor
