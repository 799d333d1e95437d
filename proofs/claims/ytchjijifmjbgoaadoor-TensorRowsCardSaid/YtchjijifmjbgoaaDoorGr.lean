import Derived.Test.YtchjijifmjbgoaaDoorGz
import Derived.Test.YtchjijifmjbgoaaDoorGh
namespace Go.Proofs.YtchjijifmjbgoaaDoor.Tn
open Go.ChangeShapes Go.WideShapes Go.ChangeAt Go.RowKit Go.Proofs.YtchjijifmjbgoaaDoor.Fx Go.Proofs.YtchjijifmjbgoaaDoor.Rf

/-- the law's own copies of the two matrices -/
structure RwA (w : World) (ra ca : Int) (sp : Option Addr) (N cap : Nat) (rb cb : Int) (sq : Option Addr) (M caq : Nat) (W : World) : Prop where
  below : Below w.heap.size w W
  a : W.heap[w.heap.size]? = some (.cells (matC ra ca sp N cap) 24 (0, 0))
  b : W.heap[w.heap.size + 1]? = some (.cells (matC rb cb sq M caq) 24 (0, 0))
section
variable {w W W' : World} {ra ca rb cb : Int} {sp sq : Option Addr} {N cap M caq : Nat}
theorem RwA.made (w : World) (ra ca : Int) (sp : Option Addr) (N cap : Nat) (rb cb : Int) (sq : Option Addr) (M caq : Nat) (X Y : Array Value) (hX : X = matC ra ca sp N cap) (hY : Y = matC rb cb sq M caq) : RwA w ra ca sp N cap rb cb sq M caq ((w.alloc (.cells X 24)).alloc (.cells Y 24)) := by
  subst hX hY
  refine ⟨((Below.refl _ _).alloc (Nat.le_refl _) _).alloc (by simp) _, ?_, ?_⟩
  · rw [Below.heap_alloc _ _ _ (by simp)]
    exact heap_alloc_new _ _
  · have h := heap_alloc_new (w.alloc (.cells (matC ra ca sp N cap) 24)) (.cells (matC rb cb sq M caq) 24)
    rw [World.size_alloc] at h
    exact h
theorem RwA.later (h : RwA w ra ca sp N cap rb cb sq M caq W) (hb : Below W.heap.size W W') : RwA w ra ca sp N cap rb cb sq M caq W' :=
  ⟨h.below.trans (hb.mono h.below.size), (hb.block _ (Array.getElem?_eq_some_iff.1 h.a).1).trans h.a, (hb.block _ (Array.getElem?_eq_some_iff.1 h.b).1).trans h.b⟩
theorem RwA.a0 (h : RwA w ra ca sp N cap rb cb sq M caq W) : W.cell? ⟨w.heap.size, 0, none⟩ = some (.int .i64 ra) := by rw [cell_of_row _ _ _ _ _ _ h.a]; rfl
theorem RwA.a1 (h : RwA w ra ca sp N cap rb cb sq M caq W) : W.cell? ⟨w.heap.size, 1, none⟩ = some (.int .i64 ca) := by rw [cell_of_row _ _ _ _ _ _ h.a]; rfl
theorem RwA.a2 (h : RwA w ra ca sp N cap rb cb sq M caq W) : W.cell? ⟨w.heap.size, 2, none⟩ = some (.slice sp N cap) := by rw [cell_of_row _ _ _ _ _ _ h.a]; rfl
theorem RwA.b0 (h : RwA w ra ca sp N cap rb cb sq M caq W) : W.cell? ⟨w.heap.size + 1, 0, none⟩ = some (.int .i64 rb) := by rw [cell_of_row _ _ _ _ _ _ h.b]; rfl
theorem RwA.b1 (h : RwA w ra ca sp N cap rb cb sq M caq W) : W.cell? ⟨w.heap.size + 1, 1, none⟩ = some (.int .i64 cb) := by rw [cell_of_row _ _ _ _ _ _ h.b]; rfl
theorem RwA.b2 (h : RwA w ra ca sp N cap rb cb sq M caq W) : W.cell? ⟨w.heap.size + 1, 2, none⟩ = some (.slice sq M caq) := by rw [cell_of_row _ _ _ _ _ _ h.b]; rfl
end
theorem RwA.under {w W W' : World} {ra ca rb cb : Int} {sp sq : Option Addr} {N cap M caq B : Nat} (h : RwA w ra ca sp N cap rb cb sq M caq W) (hB : w.heap.size + 2 ≤ B) (hb : Below B W W') : RwA w ra ca sp N cap rb cb sq M caq W' :=
  ⟨h.below.trans (hb.mono (by omega)), (hb.block _ (by omega)).trans h.a, (hb.block _ (by omega)).trans h.b⟩
theorem RwA.size {w W : World} {ra ca rb cb : Int} {sp sq : Option Addr} {N cap M caq : Nat} (h : RwA w ra ca sp N cap rb cb sq M caq W) : w.heap.size + 2 ≤ W.heap.size := by
  have := (Array.getElem?_eq_some_iff.1 h.b).1
  omega
/-- and the matrix of both's rows, while it is made -/
structure RwC (w : World) (ra ca : Int) (sp : Option Addr) (N cap : Nat) (rb cb : Int) (sq : Option Addr) (M caq : Nat) (g : Nat) (S C : Int) (v : Value) (k : Nat) (L : List Int) (W : World) : Prop where
  r : RwA w ra ca sp N cap rb cb sq M caq W
  far : w.heap.size + 2 ≤ g
  c : W.heap[g]? = some (.cells #[.int .i64 S, .int .i64 C, v] 24 (0, 0))
  own : W.ownsRow (g + 1) 3 1 v k (L.map (Value.int .i64))
section
variable {w W W' : World} {ra ca rb cb S C : Int} {sp sq : Option Addr} {N cap M caq g k : Nat} {v : Value} {L : List Int}
theorem RwC.made {X : Array Value} (h : RwA w ra ca sp N cap rb cb sq M caq W) (hX : X = #[.int .i64 S, .int .i64 C, .slice none 0 0]) : RwC w ra ca sp N cap rb cb sq M caq W.heap.size S C (.slice none 0 0) 0 [] (W.alloc (.cells X 24)) := by
  subst hX
  exact ⟨h.later ((Below.refl _ _).alloc (Nat.le_refl _) _), h.size, heap_alloc_new _ _, World.ownsRow_nil _ _ _ _⟩
theorem RwC.c2 (h : RwC w ra ca sp N cap rb cb sq M caq g S C v k L W) : W.cell? ⟨g, 2, none⟩ = some v := by rw [cell_of_row _ _ _ _ _ _ h.c]; rfl
theorem RwC.free (h : RwC w ra ca sp N cap rb cb sq M caq g S C v k L W) : W.frozen? ⟨g, 2, none⟩ = false := frozen_of_row _ _ _ _ _ h.c
theorem RwC.low (h : RwC w ra ca sp N cap rb cb sq M caq g S C v k L W) : g + 1 ≤ W.heap.size := (Array.getElem?_eq_some_iff.1 h.c).1
theorem RwC.later (h : RwC w ra ca sp N cap rb cb sq M caq g S C v k L W) (hb : Below W.heap.size W W') : RwC w ra ca sp N cap rb cb sq M caq g S C v k L W' :=
  ⟨h.r.later hb, h.far, (hb.block _ (Array.getElem?_eq_some_iff.1 h.c).1).trans h.c, owns_below h.own hb⟩
theorem RwC.push {v' : Value} {k' : Nat} {L' : List Int} (h : RwC w ra ca sp N cap rb cb sq M caq g S C v k L W) (ho : W'.ownsRow (g + 1) 3 1 v' k' (L'.map (Value.int .i64))) (hb : Below (g + 1) W W') : RwC w ra ca sp N cap rb cb sq M caq g S C v' k' L' (W'.setCell ⟨g, 2, none⟩ v') := by
  have hf := h.far
  have hc : W'.heap[g]? = some (.cells #[.int .i64 S, .int .i64 C, v] 24 (0, 0)) := (hb.block _ (by omega)).trans h.c
  have h1 := h.r.under (B := g) hf (hb.mono (by omega))
  refine ⟨h1.under (B := g) hf (show Below g W' (W'.setCell ⟨g, 2, none⟩ v') from (Below.refl g W').setCell (Nat.le_refl g) _), hf, ?_, ho.kept (row := some g) ⟨rfl, rfl, rfl, by simp, fun k _ hk => heap_setCell_other _ _ _ _ (fun e => hk (by rw [e]))⟩ (Or.inr fun e => ?_)⟩
  · rw [heap_setCell_same _ _ _ _ _ _ hc]
    rfl
  · have := (ho.lt _ e).1
    omega
end
section
variable {W : World} {ops : Array Oper} {rest : List Oper} {o : Oper} {a : Act} {Q : Exit → Act → World → Prop}
/-- append of numbers to a row of the call's own -/
theorem wpList_appendN (hgd : o.guard = none) (s x : Operand) (ho : o.op = .call { callee := .builtin .append, args := #[s, x], argTypes := #[22, 22] }) (base : Nat) (v : Value) (n m : Nat) (l y : List Int) (hs : a.eval s = v) (hown : W.ownsRow base 3 1 v n (l.map (Value.int .i64)))
    (sq : Option Addr) (caq : Nat) (hx : a.eval x = .slice sq m caq) (hm : y.length = m) (hy : Nums W sq caq y) (hn : n + m ≤ 1000000) (hbase : base ≤ W.heap.size)
    (h : ∀ v' w', w'.ownsRow base 3 1 v' (n + m) ((l ++ y).map (Value.int .i64)) → Below base W w' → wpList Tryd.prog ops Q rest (a.put o.dst v') w') : wpList Tryd.prog ops Q (o :: rest) a W := by
  refine wpList_append_sl 22 3 8 (.int .i64 0) Tryd.underlying22 info3 rfl (by decide) hgd s x ho base v n m (l.map (Value.int .i64)) (y.map (Value.int .i64)) hs hown sq caq hx (by rw [List.length_map, hm]) hy (one_ints y) hn hbase ?_
  intro v' w' h1 h2
  refine h v' w' (by rw [List.map_append]; exact h1) (Below.ofGrown h2 hbase (fun k hk => (hown.lt k hk).1))
end
/-- what the rows' law says of a matrix of noughts' answers -/
def Tup (R : Nat) (v : Value) (W : World) : Prop := ∃ s c, v = .tuple #[.slice s R c, .int .i64 0] ∧ Nums W s c (List.replicate R 0)
def SlZ (R : Nat) (v : Value) (W : World) : Prop := ∃ s c, v = .slice s R c ∧ Nums W s c (List.replicate R 0)
theorem Tup.later {R : Nat} {v : Value} {W W' : World} (h : Tup R v W) (hb : Below W.heap.size W W') : Tup R v W' := by
  obtain ⟨s, c, h1, h2⟩ := h
  exact ⟨s, c, h1, h2.below hb⟩
theorem SlZ.later {R : Nat} {v : Value} {W W' : World} (h : SlZ R v W) (hb : Below W.heap.size W W') : SlZ R v W' := by
  obtain ⟨s, c, h1, h2⟩ := h
  exact ⟨s, c, h1, h2.below hb⟩
theorem made_noughts (w : World) (C : Nat) (hC : C ≤ 1000000) : Nums (w.alloc (.cells (madeCells #[Value.int .i64 0] C) 3)) (some ⟨w.heap.size, 0, none⟩) C (List.replicate C 0) := by
  refine nums_new w (List.replicate C 0) _ C ?_ (by simp) hC
  apply Array.ext
  · simp [madeCells]
  · intro i h1 h2
    simp [madeCells, Nat.mod_one]
/-- what the operations of that call yield -/
def rwVal (w : World) (ra ca : Int) (sp : Option Addr) (N cap : Nat) : Nat → Option Value
  | 0 => some (.agg (matC ra ca sp N cap)) | 1 => some (.pointer (some ⟨w.heap.size, 1, none⟩)) | 2 => some (.int .i64 ca) | 7 => some (.int .i64 0) | _ => none
theorem mulV_len {l v : List Int} {R C : Nat} (h : mulE (R : Int) (C : Int) l v = 0) : (mulV (R : Int) (C : Int) l v).length = R := by
  unfold mulV
  rw [if_pos h, dotsR_length, Int.toNat_natCast]
theorem mulV_no {r c : Int} {l v : List Int} (h : mulE r c l v ≠ 0) : mulV r c l v = [] := by unfold mulV; rw [if_neg h]
theorem exec_extractR {P : Program} {a : Act} {o : Oper} {W : World} (x : Operand) (i : Nat) (ho : o.op = .extract x i) (vs : Array Value) (v : Value) (hx : a.eval x = .tuple vs) (hv : vs[i]? = some v) : (execOp a.eval o).run P W = .ok (.value v) W := by
  unfold execOp
  simp only [ho, hx, hv, Instr.extract, Sem.run_bind, Sem.run_pure, Result.andThen_ok]
theorem exec_makeN {a : Act} {o : Oper} {w : World} (t e : TypeId) (by_ : Nat) (z : Value) (hu : Tryd.prog.underlying t = some (.slice e)) (hinf : (Tryd.prog.info? e).map (fun i => (i.zero, i.size, i.bytes)) = some (some z, 1, by_)) (hby : by_ ≤ 100)
    (s x : Operand) (ho : o.op = .makeSlice t s x) (c : Nat) (hs : a.eval s = .int .i64 (c : Int)) (hx : a.eval x = .int .i64 (c : Int)) (hc : c ≤ 1000000) : (execOp a.eval o).run Tryd.prog w = .ok (.value (.slice (some ⟨w.heap.size, 0, none⟩) c c)) (w.alloc (.cells (madeCells z.cells c) e)) := by
  obtain ⟨i0, hi, hz0, hz1, hz2⟩ := info_parts hinf
  have hb : (i0.bytes : Int) * (c : Int) ≤ 281474976710656 := by
    have h1 : i0.bytes * c ≤ 100 * 1000000 := Nat.mul_le_mul (by omega) hc
    have h2 : ((i0.bytes * c : Nat) : Int) ≤ 100000000 := by omega
    rw [Int.natCast_mul] at h2
    omega
  have hrun := run_makeSlice (P := Tryd.prog) w t e i0 z hu hi hz0 .i64 .i64 (c : Int) (c : Int) (by omega) (by omega) (by rw [hz1]; simp; omega) hb (by omega)
  rw [hz1] at hrun
  simp only [Int.toNat_natCast, Nat.mul_one] at hrun
  simp [execOp, ho, hs, hx, hrun, Result.andThen]
end Go.Proofs.YtchjijifmjbgoaaDoor.Tn
