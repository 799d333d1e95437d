import Derived.Test.YtpaffncdfldnmaaDoorKa
import Derived.Test.YtpaffncdfldnmaaDoorLs
import Derived.Test.YtpaffncdfldnmaaDoorEa
import Derived.StillTailTactics
import Derived.BigRegion
import Derived.BigQuiet
import Derived.Deep.DeepCutAuto
import Derived.Deep.MidRow
import Derived.Lib.SmallJoins
namespace Go.Proofs.YtpaffncdfldnmaaDoor
open Go.ChangeShapes Go.WideShapes Go.ChangeAt Go.RowKit

section
theorem row_dig {d : List Int} (h : d.length = 32) : (Tryd.prog.info? 23).map (·.size) = some (rowB d).size := by rw [rowB_size, h]; exact size25
theorem row_dig0 {d : List Int} (h : d.length = 32) : 32 = (rowB d).size := by rw [rowB_size, h]
/-- a world behind a new block for a digest -/
structure Res (w W : World) : Prop where
  below : Below w.heap.size w W
  res : W.heap[w.heap.size]? = some (.cells (rowB (zs 32)) 23 (0, 0))
theorem Res.later {w W W' : World} (h : Res w W) (hb : Below W.heap.size W W') : Res w W' :=
  ⟨h.below.trans (hb.mono h.below.size), (hb.block _ (Array.getElem?_eq_some_iff.1 h.res).1).trans h.res⟩
theorem Res.new (w : World) (X : Array Value) (hX : X = rowB (zs 32)) : Res w (w.alloc (.cells X 23)) := by
  subst hX
  exact ⟨(Below.refl _ _).alloc (Nat.le_refl _) _, heap_alloc_new _ _⟩
/-- a[:] of a digest in memory -/
theorem run_digest (p : Nat) (w : World) : (Instr.sliceAt 23 (.pointer (some ⟨p, 0, none⟩)) none none none).run Tryd.prog w = .ok (.slice (some ⟨p, 0, none⟩) 32 32) w := by
  cases hq : Tryd.prog.info? 5 with
  | none => have := size5; simp [hq] at this
  | some i =>
    have hadd := add_plain p 0 0
    simp [Instr.sliceAt, Instr.sureAddr, run_underlying Tryd.underlying23, Instr.sliceBounds, sizeOf, typeInfo, hq]
    try simpa using hadd
end
section
/-- every block of cells keeps its cells -/
structure Lk (w w' : World) : Prop where
  size : w.heap.size ≤ w'.heap.size
  cells : ∀ (g : Nat) (C : Array Value) (t : TypeId) (fr : Nat × Nat), w.heap[g]? = some (.cells C t fr) → ∃ fr', w'.heap[g]? = some (Obj.cells C t fr')
theorem Lk.of_below {w w' : World} (h : Below w.heap.size w w') : Lk w w' := ⟨h.size, fun g _ _ fr hg => ⟨fr, (h.block g (Array.getElem?_eq_some_iff.1 hg).1).trans hg⟩⟩
theorem cell_at {w : World} {c o : Nat} {v : Value} (h : w.cell? ⟨c, o, none⟩ = some v) : ∃ (C : Array Value) (t : TypeId) (fr : Nat × Nat), w.heap[c]? = some (.cells C t fr) ∧ C[o]? = some v := by
  simp only [World.cell?] at h
  split at h
  · rename_i C t fr hg
    exact ⟨C, t, fr, hg, by simpa using h⟩
  · cases h
theorem Lk.cell {w w' : World} (h : Lk w w') {c o : Nat} {v : Value} (hc : w.cell? ⟨c, o, none⟩ = some v) : w'.cell? ⟨c, o, none⟩ = some v := by
  obtain ⟨C, t, fr, hg, hv⟩ := cell_at hc
  obtain ⟨fr', hg'⟩ := h.cells c C t fr hg
  rw [cell_of_row _ _ _ _ _ _ hg']
  exact hv
theorem Lk.sl {w w' : World} {sp : Option Addr} {cap : Nat} {xs : List Value} (h : Lk w w') (hs : Sl w sp cap xs) : Sl w' sp cap xs :=
  ⟨hs.le, hs.max, hs.nul, fun h0 => by
    obtain ⟨c, o, e, hl⟩ := hs.lies h0
    exact ⟨c, o, e, fun i v hv => h.cell (hl i v hv)⟩⟩
theorem Lk.byt {w w' : World} {sp : Option Addr} {cap : Nat} {l : List Int} (h : Lk w w') (hb : Byt w sp cap l) : Byt w' sp cap l := byt_iff.2 (h.sl (byt_iff.1 hb))
end
section
variable {a : Act} {o : Oper} {W : World}
theorem exec_load_mid (x : Operand) (ho : o.op = .load 23 x) (c k : Nat) (hx : a.eval x = .pointer (some ⟨c, k, none⟩)) (d : List Int) (hd : d.length = 32) (hr : W.rangeAt c k (d.map (Value.int .u8))) : (execOp a.eval o).run Tryd.prog W = .ok (.value (.agg (rowB d))) W := by
  have h := run_loadVar_mid (P := Tryd.prog) W c k 23 (d.map (Value.int .u8)) _ hr Tryd.underlying23 rfl (by rw [List.length_map, hd]; exact size25)
  unfold execOp
  simp only [ho, hx, Instr.loadAt, Instr.sureAddr, Sem.run_bind, Sem.run_pure, Result.andThen_ok, h]
  rfl
theorem guard24 (op : BinOp) (x y : Operand) (d e : Array Value) : (eqGuard op 23 x y (.agg d) (.agg e)).run Tryd.prog W = .ok () W := by
  unfold eqGuard
  cases op <;> simp
theorem exec_eqD (x y : Operand) (ho : o.op = .binOp .eql 23 x y 23) (d e : List Int) (hx : a.eval x = .agg (rowB d)) (hy : a.eval y = .agg (rowB e)) (hd : d.length = 32) (he : e.length = 32) : (execOp a.eval o).run Tryd.prog W = .ok (.value (.bool (d == e))) W :=
  exec_binOp .eql 23 23 x y ho _ _ _ hx hy (guard24 _ _ _ _ _) (run_eql_row (P := Tryd.prog) 23 5 32 .u8 Tryd.underlying23 Tryd.underlying5 size5 d e hd he W)
theorem exec_neD (x y : Operand) (ho : o.op = .binOp .neq 23 x y 23) (d e : List Int) (hx : a.eval x = .agg (rowB d)) (hy : a.eval y = .agg (rowB e)) (hd : d.length = 32) (he : e.length = 32) : (execOp a.eval o).run Tryd.prog W = .ok (.value (.bool (!(d == e)))) W :=
  exec_binOp .neq 23 23 x y ho _ _ _ hx hy (guard24 _ _ _ _ _) (run_neq_row (P := Tryd.prog) 23 5 32 .u8 Tryd.underlying23 Tryd.underlying5 size5 d e hd he W)
end
section
theorem cell_same {W W' : World} {b : Nat} (h : W'.heap[b]? = W.heap[b]?) (o : Nat) : W'.cell? ⟨b, o, none⟩ = W.cell? ⟨b, o, none⟩ := by simp [World.cell?, h]
theorem frozen_same {W W' : World} {b : Nat} (h : W'.heap[b]? = W.heap[b]?) (o : Nat) : W'.frozen? ⟨b, o, none⟩ = W.frozen? ⟨b, o, none⟩ := by simp [World.frozen?, h]
theorem setCell_heap {w : World} {b o : Nat} {C : Array Value} {t : TypeId} {fr : Nat × Nat} (h : w.heap[b]? = some (.cells C t fr)) (v : Value) : (w.setCell ⟨b, o, none⟩ v).heap[b]? = some (.cells (C.setIfInBounds o v) t fr) := by
  have hb := (Array.getElem?_eq_some_iff.1 h).1
  have he := (Array.getElem?_eq_some_iff.1 h).2
  simp [World.setCell, Array.getElem?_modify, h]
theorem setCells_heap : ∀ (vs : List Value) (o : Nat) (w : World) (b : Nat) (C : Array Value) (t : TypeId) (fr : Nat × Nat), w.heap[b]? = some (.cells C t fr) → ∃ C', (w.setCells b o vs).heap[b]? = some (.cells C' t fr) ∧ C'.size = C.size
  | [], _, _, _, C, _, _, h => ⟨C, h, rfl⟩
  | v :: r, o, w, b, C, t, fr, h => by
    rw [World.setCells]
    obtain ⟨C', h1, h2⟩ := setCells_heap r (o + 1) _ b _ t fr (setCell_heap (o := o) h v)
    exact ⟨C', h1, by rw [h2, Array.size_setIfInBounds]⟩
theorem heap_setCells_ne (w : World) (g o : Nat) (vs : List Value) {i : Nat} (hne : i ≠ g) : (w.setCells g o vs).heap[i]? = w.heap[i]? := by
  induction vs generalizing o w with
  | nil => rfl
  | cons v r ih =>
    rw [World.setCells, ih]
    simp [World.setCell, Array.getElem?_modify, Ne.symm hne]
theorem size_setCells (w : World) (g o : Nat) (vs : List Value) : (w.setCells g o vs).heap.size = w.heap.size := by
  induction vs generalizing o w with
  | nil => rfl
  | cons v r ih =>
    rw [World.setCells, ih]
    simp [World.setCell]
end
section
theorem belowCells {B b : Nat} {a : World} (hb : B ≤ b) : ∀ (vs : List Value) (o : Nat) (w : World), Below B a w → Below B a (w.setCells b o vs)
  | [], _, _, h => h
  | v :: r, o, w, h => by
    rw [World.setCells]
    exact belowCells hb r (o + 1) _ (h.setCell hb v)
end
section
/-- a digest's own block -/
def Dg (W : World) (g : Nat) (d : List Int) : Prop := W.heap[g]? = some (.cells (rowB d) 23 (0, 0))
theorem Dg.below {W W' : World} {g : Nat} {d : List Int} (h : Dg W g d) (hb : Below W.heap.size W W') : Dg W' g d := (hb.block g (Array.getElem?_eq_some_iff.1 h).1).trans h
theorem Dg.made (W : World) (X : Array Value) (d : List Int) : Dg ((W.alloc (.cells X 23)).setRow W.heap.size (rowB d)) W.heap.size d := setRow_heap _ _ _ _ _ _ (heap_alloc_new _ _)
/-- a digest stored into a new block of its own -/
structure Stood (w : World) (ds : List (Nat × List Int)) (W : World) : Prop where
  below : Below w.heap.size w W
  all : ∀ x ∈ ds, Dg W x.1 x.2
theorem Stood.later {w W W' : World} {ds : List (Nat × List Int)} (h : Stood w ds W) (hb : Below W.heap.size W W') : Stood w ds W' := ⟨h.below.trans (hb.mono h.below.size), fun x hx => (h.all x hx).below hb⟩
theorem Stood.more {w W : World} {ds : List (Nat × List Int)} (h : Stood w ds W) (X : Array Value) (d : List Int) : Stood w ((W.heap.size, d) :: ds) ((W.alloc (.cells X 23)).setRow W.heap.size (rowB d)) := by
  have hb : Below W.heap.size W ((W.alloc (.cells X 23)).setRow W.heap.size (rowB d)) := below_setRow ((Below.refl _ _).alloc (Nat.le_refl _) _) (Nat.le_refl _) _
  refine ⟨h.below.trans (hb.mono h.below.size), fun x hx => ?_⟩
  rcases List.mem_cons.1 hx with rfl | hx
  · exact Dg.made W X d
  · exact (h.all x hx).below hb
theorem lk_refl (w : World) : Lk w w := Lk.of_below (Below.refl _ _)
end
section
theorem results_two {P : Program} {fn : Func} {p q : Tmp} {ty : TypeId} (h : fn.results = #[.cell p ty, .tmp q]) (tmps : Array Value) (w : World) (g : Nat) (t : TypeId) (cs : Array Value) (fr : Nat × Nat) (d : TypeDesc) (v : Value)
    (hp : tmps.getD p undef = .pointer (some ⟨g, 0, none⟩)) (hq : tmps.getD q undef = v) (hg : w.heap[g]? = some (.cells cs t fr))
    (hu : P.underlying ty = some d) (hd : (match d with | .struct _ | .array _ _ => true | _ => false) = true) (hi : (P.info? ty).map (·.size) = some cs.size) :
    (results fn tmps).run P w = .ok (.tuple #[.agg cs, v]) w := by
  have hp' : tmps[p]?.getD undef = .pointer (some ⟨g, 0, none⟩) := by simpa using hp
  have hq' : tmps[q]?.getD undef = v := by simpa using hq
  simp [results, h, hp', hq', asAddr, run_loadVar_row w g t ty cs fr d hg hu hd hi]
theorem wpList_val {P : Program} {w : World} {ops : Array Oper} {rest : List Oper} {o : Oper} {a : Act} {Q : Exit → Act → World → Prop} (hg : o.guard = none) (v : Value) (hr : (execOp a.eval o).run P w = .ok (.value v) w) (h : wpList P ops Q rest (a.put o.dst v) w) : wpList P ops Q (o :: rest) a w := by
  refine wpList_plain hg fun K hK => ?_
  unfold Oper.wp
  simp only [hr, Oper.upon]
  exact hK _ _ h
end
section
theorem exec_call2 {P : Program} {a : Act} {o : Oper} {W : World} (f : FuncId) (x y : Operand) (ats : Array TypeId) (u v : Value) (ho : o.op = .call { callee := .value (.func f), args := #[x, y], argTypes := ats }) (hx : a.eval x = u) (hy : a.eval y = v)
    (hf : (callFunc f #[u, v]).run P W = .ok (.enter f #[u, v]) W) : (execOp a.eval o).run P W = .ok (.enter f #[u, v]) W :=
  exec_call f #[x, y] ats #[u, v] ho (by simp [hx, hy]) hf
/-- a load of one cell -/
theorem run_loadVar1 {P : Program} {W : World} (ty : TypeId) (p : Addr) (v : Value) (hc : W.cell? p = some v) (d : TypeDesc) (hu : P.underlying ty = some d) (hd : (match d with | .struct _ | .array _ _ => false | _ => true) = true) : (loadVar ty p).run P W = .ok v W := by
  have hag : (isAgg ty).run P W = .ok false W := by
    simp only [isAgg, Sem.run_bind, run_underlying hu, Result.andThen_ok]
    cases d <;> simp_all
  simp [loadVar, hag, go_sem, hc]
theorem exec_load1 {P : Program} {a : Act} {o : Oper} {W : World} (ty : TypeId) (x : Operand) (ho : o.op = .load ty x) (p : Addr) (hx : a.eval x = .pointer (some p)) (v : Value) (hc : W.cell? p = some v) (d : TypeDesc) (hu : P.underlying ty = some d)
    (hd : (match d with | .struct _ | .array _ _ => false | _ => true) = true) : (execOp a.eval o).run P W = .ok (.value v) W := by
  unfold execOp
  simp only [ho, hx, Instr.loadAt, Instr.sureAddr, Sem.run_bind, Sem.run_pure, Result.andThen_ok, run_loadVar1 ty p v hc d hu hd]
end
end Go.Proofs.YtpaffncdfldnmaaDoor
