/- Steps: what is wrong with a plan; how many places and cells there are. -/
import Derived.Test.YtdffbjjiojheoaaSb
namespace Go.Proofs.Ytdffbjjiojheoaa.St
set_option maxRecDepth 100000
open Go.ChangeShapes Go.WideShapes Go.ChangeAt Go.RowKit Go.Shelf Go.Proofs.Ytdffbjjiojheoaa.Tn Go.Proofs.Ytdffbjjiojheoaa.Wg
def Pl.n (q : Pl) : Nat := (min (max q.p 0) q.c.x).toNat
def Pl.chk (q : Pl) : Int := if q.c.chk ≠ 0 then q.c.chk else mchk q.c (List.replicate q.n 0) q.m q.k
theorem size_pl : (Try.prog.info? 40).map (·.size) = some 9 := by kernel_rfl
/-- the box of a plan -/
structure PlI (w : World) (q : Pl) (W : World) : Prop where
  below : Below w.heap.size w W
  row : W.heap[w.heap.size]? = some (.cells q.cells 40 (0, 0))
theorem PlI.later {w W W' : World} {q : Pl} (h : PlI w q W) (hb : Below W.heap.size W W') : PlI w q W' :=
  ⟨h.below.trans (hb.mono h.below.size), (hb.block _ (Array.getElem?_eq_some_iff.1 h.row).1).trans h.row⟩
theorem PlI.made (w : World) (q : Pl) : PlI w q (w.alloc (.cells q.cells 40)) := ⟨(Below.refl _ _).alloc (Nat.le_refl _) _, heap_alloc_new _ _⟩
theorem PlI.cells {w W : World} {q : Pl} (h : PlI w q W) : W.cell? ⟨w.heap.size, 0, none⟩ = some (.int .i64 q.c.v) ∧ W.cell? ⟨w.heap.size, 1, none⟩ = some (.int .i64 q.c.d) ∧ W.cell? ⟨w.heap.size, 2, none⟩ = some (.int .i64 q.c.h) ∧ W.cell? ⟨w.heap.size, 3, none⟩ = some (.int .i64 q.c.l) ∧ W.cell? ⟨w.heap.size, 4, none⟩ = some (.int .i64 q.c.x) ∧ W.cell? ⟨w.heap.size, 5, none⟩ = some (.int .i64 q.c.i) ∧ W.cell? ⟨w.heap.size, 6, none⟩ = some (.int .i64 q.p) ∧ W.cell? ⟨w.heap.size, 7, none⟩ = some (.int .i64 q.m) ∧ W.cell? ⟨w.heap.size, 8, none⟩ = some (.int .i64 q.k) := by
  refine ⟨?_, ?_, ?_, ?_, ?_, ?_, ?_, ?_, ?_⟩ <;> (rw [cell_of_row _ _ _ _ _ _ h.row]; rfl)
/-- the configuration within a plan's block -/
theorem pl_cfg {W : World} {g : Nat} {q : Pl} (h : W.heap[g]? = some (.cells q.cells 40 (0, 0))) : W.rangeAt g 0 q.c.cells.toList := by
  intro i v hv
  rw [Nat.zero_add, cell_of_row _ _ _ _ _ _ h]
  rcases i with _ | _ | _ | _ | _ | _ | i
  all_goals first | exact hv | (simp [Cfg.cells] at hv)
theorem made_zero (n : Nat) : madeCells (Value.cells (.int .i64 0)) n = ((List.replicate n (0 : Int)).map (Value.int .i64)).toArray := by
  apply Array.ext
  · simp [madeCells]
  · intro i h1 h2
    simp [madeCells, Value.cells, Nat.mod_one]
section
variable {w : World} {ops : Array Oper} {rest : List Oper} {o : Oper} {a : Act} {Q : Exit → Act → World → Prop}
theorem exec_maxM {W : World} (x y : Operand) (ats : Array TypeId) (ho : o.op = .call { callee := .builtin .max, args := #[x, y], argTypes := ats }) (u v : Int) (hx : a.eval x = .int .i64 u) (hy : a.eval y = .int .i64 v) : (execOp a.eval o).run Try.prog W = .ok (.value (.int .i64 (max u v))) W := by
  unfold execOp
  simp only [ho, resolve, invoke, Sem.run_bind, Sem.run_pure, Result.andThen_ok, List.map_toArray, List.map_cons, List.map_nil, hx, hy, BigFrame.builtin_max]
  simp [go_sem, Builtin.max_, Builtin.max2]
  by_cases h : u < v <;> simp [h, go_sem] <;> omega
theorem exec_minM {W : World} (x y : Operand) (ats : Array TypeId) (ho : o.op = .call { callee := .builtin .min, args := #[x, y], argTypes := ats }) (u v : Int) (hx : a.eval x = .int .i64 u) (hy : a.eval y = .int .i64 v) : (execOp a.eval o).run Try.prog W = .ok (.value (.int .i64 (min u v))) W := by
  unfold execOp
  simp only [ho, resolve, invoke, Sem.run_bind, Sem.run_pure, Result.andThen_ok, List.map_toArray, List.map_cons, List.map_nil, hx, hy, BigFrame.builtin_min]
  simp [go_sem, Builtin.min_, Builtin.min2]
  by_cases h : v < u <;> simp [h, go_sem] <;> omega
theorem wpList_makeZ (hgd : o.guard = none) (s x : Operand) (ho : o.op = .makeSlice 23 s x) (c : Nat) (hs : a.eval s = .int .i64 (c : Int)) (hx : a.eval x = .int .i64 (c : Int)) (hc : c ≤ 1000000)
    (h : wpList Try.prog ops Q rest (a.put o.dst (.slice (some ⟨w.heap.size, 0, none⟩) c c)) (w.alloc (.cells ((List.replicate c (0 : Int)).map (Value.int .i64)).toArray 3))) : wpList Try.prog ops Q (o :: rest) a w := by
  obtain ⟨i0, hi, hz0, hz1, hz2⟩ := info_parts info3
  have hb : (i0.bytes : Int) * (c : Int) ≤ 281474976710656 := by
    have h1 : i0.bytes * c ≤ 100 * 1000000 := Nat.mul_le_mul (by omega) hc
    have h2 : ((i0.bytes * c : Nat) : Int) ≤ 100000000 := by omega
    rw [Int.natCast_mul] at h2
    omega
  have hrun := run_makeSlice (P := Try.prog) w 23 3 i0 _ Try.underlying23 hi hz0 .i64 .i64 (c : Int) (c : Int) (by omega) (by omega) (by rw [hz1]; simp; omega) hb (by omega)
  rw [hz1] at hrun
  simp only [Int.toNat_natCast, Nat.mul_one, made_zero] at hrun
  refine wpList_plain hgd fun K hK => ?_
  unfold Oper.wp
  simp [execOp, ho, hs, hx, hrun, Result.andThen]
  exact hK _ _ (by simpa using h)
end
end Go.Proofs.Ytdffbjjiojheoaa.St
