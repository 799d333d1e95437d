import Derived.Test.YtkfkjapkcjidnaaQa
import Derived.Test.YtkfkjapkcjidnaaCe
namespace Go.Proofs.Ytkfkjapkcjidnaa.Wg
set_option maxRecDepth 100000
open Go.ChangeShapes Go.WideShapes Go.ChangeAt Go.RowKit Go.Shelf Go.Proofs.Ytkfkjapkcjidnaa.Tn
attribute [local go_sem] Oper.semAt_some

/-! ### WeightsBack -/
theorem wpList_load_rowG {P : Program} {ops : Array Oper} {rest : List Oper} {o : Oper} {a : Act} {w : World} {Q : Exit → Act → World → Prop} (hw : Region.wanted o (yielded ops a.tmps) = true) (ty : TypeId) (x : Operand) (ho : o.op = .load ty x)
    (g : Nat) (hx : a.eval x = .pointer (some ⟨g, 0, none⟩)) (t : TypeId) (cs : Array Value) (fr : Nat × Nat) (d : TypeDesc) (hg : w.heap[g]? = some (.cells cs t fr))
    (hu : P.underlying ty = some d) (hd : (match d with | .struct _ | .array _ _ => true | _ => false) = true) (hi : (P.info? ty).map (·.size) = some cs.size)
    (h : wpList P ops Q rest (a.put o.dst (.agg cs)) w) : wpList P ops Q (o :: rest) a w :=
  wpList_step fun K hK => by rw [if_pos hw]; exact wp_load_row ty x ho g hx t cs fr d hg hu hd hi (hK _ _ h)
structure BkI (w : World) (v : Wv) (k y r : Int) (W : World) : Prop where
  below : Below w.heap.size w W
  row : W.heap[w.heap.size]? = some (.cells v.cells 31 (0, 0))
  prt : W.heap[w.heap.size + 1]? = some (.cells #[.int .i64 k, .int .i64 y, .int .i64 r] 48 (0, 0))
section
variable {w W W' : World} {v : Wv} {k y r : Int}
theorem BkI.later (h : BkI w v k y r W) (hb : Below W.heap.size W W') : BkI w v k y r W' := ⟨h.below.trans (hb.mono h.below.size), (hb.block _ (Array.getElem?_eq_some_iff.1 h.row).1).trans h.row, (hb.block _ (Array.getElem?_eq_some_iff.1 h.prt).1).trans h.prt⟩
theorem BkI.new (w : World) (v : Wv) (k y r : Int) : BkI w v k y r ((w.alloc (.cells v.cells 31)).alloc (.cells #[.int .i64 k, .int .i64 y, .int .i64 r] 48)) := by
  have h1 : Below w.heap.size w (w.alloc (.cells v.cells 31)) := (Below.refl _ _).alloc (Nat.le_refl _) _
  have r1 := heap_alloc_new w (.cells v.cells 31)
  have s1 : (w.alloc (.cells v.cells 31)).heap.size = w.heap.size + 1 := by simp
  obtain ⟨w1, e1⟩ : ∃ w1, w.alloc (.cells v.cells 31) = w1 := ⟨_, rfl⟩
  rw [e1] at h1 r1 s1 ⊢
  have h2 : Below w1.heap.size w1 (w1.alloc (.cells #[.int .i64 k, .int .i64 y, .int .i64 r] 48)) := (Below.refl _ _).alloc (Nat.le_refl _) _
  have r2 := heap_alloc_new w1 (.cells #[.int .i64 k, .int .i64 y, .int .i64 r] 48)
  rw [s1] at r2
  exact ⟨h1.trans (h2.mono h1.size), (h2.block _ (by omega)).trans r1, r2⟩
theorem BkI.cell (h : BkI w v k y r W) (j : Nat) : W.cell? ⟨w.heap.size, j, none⟩ = v.cells[j]? := by rw [cell_of_row _ _ _ _ _ _ h.row]
theorem BkI.pt (h : BkI w v k y r W) (j : Nat) : W.cell? ⟨w.heap.size + 1, j, none⟩ = (#[.int .i64 k, .int .i64 y, .int .i64 r] : Array Value)[j]? := by rw [cell_of_row _ _ _ _ _ _ h.prt]
end
theorem Twin.symm {a b : Md} (h : Twin a b) : Twin b a := ⟨h.cfg.symm, h.al.symm, h.ps.symm, h.n.symm, fun k y hk => by
  obtain ⟨h1, h2⟩ := h.part k y (by rw [h.n]; exact hk)
  exact ⟨h1.symm, fun hv => ⟨(h2 hv).1.symm, (h2 hv).2.symm⟩⟩⟩
theorem run_buildPt (k y : Int) (W : World) : (Instr.build 61 #[(0, .int .i64 k), (1, .int .i64 y)]).run Try.prog W = .ok (.agg (prC k y 0 0 false)) W := by kernel_rfl
theorem wpList_buildPt {w : World} {ops : Array Oper} {rest : List Oper} {o : Oper} {a : Act} {Q : Exit → Act → World → Prop} (hg : o.guard = none) (x y : Operand) (ho : o.op = .build 61 #[(0, x), (1, y)]) (u v : Int)
    (hx : a.eval x = .int .i64 u) (hy : a.eval y = .int .i64 v) (h : wpList Try.prog ops Q rest (a.put o.dst (.agg (prC u v 0 0 false))) w) : wpList Try.prog ops Q (o :: rest) a w := by
  refine wpList_plain hg fun K hK => ?_
  unfold Oper.wp
  simp [execOp, ho, hx, hy, run_buildPt, Result.andThen]
  exact hK _ _ h
theorem run_mid (sp : Option Addr) (m cap k h : Nat) (hk : k ≤ h) (hh : h ≤ cap) (w : World) : (Instr.slice 26 (.slice sp m cap) (some (.int .i64 (k : Int))) (some (.int .i64 (h : Int))) none).run Try.prog w = .ok (.slice (cutA sp cap k) (h - k) (cap - k)) w := by
  cases hq : Try.prog.info? 3 with
  | none => have := size3; simp [hq] at this
  | some i =>
    have hi : i.size = 1 := by have := size3; simpa [hq] using this
    simp only [Instr.slice, run_underlying Try.underlying26, Instr.sliceBounds, Instr.sliceBound, asIntOf, sizeOf, typeInfo, Sem.run_bind, Result.andThen_ok, Sem.run_pure, Sem.run_ite]
    simp [hq, hi, hk, hh, cutA]
theorem nums_mid {W : World} {sp : Option Addr} {cap : Nat} {l : List Int} (h : Nums W sp cap l) (C q : Nat) (hC : 1 ≤ C) (hq : q * C + C ≤ l.length) : Cd.Nums W (cutA sp cap (q * C)) (cap - q * C) ((l.drop (q * C)).take C) := by
  have h1 := nums_row h C q hC hq
  have hle : l.length ≤ cap := by simpa using h.le
  refine ⟨by simp; omega, by have := h.max; omega, fun e => ?_, h1.lies⟩
  exfalso
  unfold cutA at e
  rw [if_neg (by omega)] at e
  have := h.nul (by simpa using e)
  omega
structure LfAt (W : World) (sL : Option Addr) (LN A : Nat) (l : List Int) (g o : Nat) (s2 : Option Addr) (c2 : Nat) : Prop where
  e : sL = some ⟨g, o, none⟩
  cell : W.cell? ⟨g, o + A, none⟩ = some (.slice s2 l.length c2)
  byt : Cd.Bytes W s2 c2 l
theorem lf_at {W : World} {sL : Option Addr} {capL LN A : Nat} {LD : List (List Int)} {l : List Int} (h : Cd.Pieces W sL capL LD) (hl : LD[A]? = some l) : ∃ g o s2 c2, LfAt W sL LN A l g o s2 c2 := by
  obtain ⟨c, o, s2, c2, e, h1, h2⟩ := h.at_ A (List.getElem?_eq_some_iff.1 hl).1
  have hd : LD.getD A [] = l := by rw [List.getD_eq_getElem?_getD, hl]; rfl
  rw [hd] at h1 h2
  exact ⟨c, o, s2, c2, e, h1, h2⟩
theorem LfAt.later {W W' : World} {sL : Option Addr} {LN A : Nat} {l : List Int} {g o : Nat} {s2 : Option Addr} {c2 : Nat} (h : LfAt W sL LN A l g o s2 c2) (hb : Below W.heap.size W W') : LfAt W' sL LN A l g o s2 c2 := ⟨h.e, (hb.cell (block_lt_of_cell h.cell)).trans h.cell, h.byt.below hb⟩
theorem numsQ_length (l : List Int) : (Cd.nums l).length = 8 * l.length := by
  induction l with
  | nil => rfl
  | cons a t ih =>
    have h : Cd.nums (a :: t) = Cd.be 8 a ++ Cd.nums t := rfl
    rw [h, List.length_append, ih, Cd.be_length, List.length_cons]
    omega
theorem run_fieldG (r c : Int) (sp : Option Addr) (n cap : Nat) (W : World) : (Instr.field 58 (.agg (gvC r c sp n cap)) 2).run Try.prog W = .ok (.slice sp n cap) W := by kernel_rfl
theorem exec_fieldG {a : Act} {o : Oper} {W : World} (x : Operand) (ho : o.op = .field 58 x 2) (r c : Int) (sp : Option Addr) (n cap : Nat) (hx : a.eval x = .agg (gvC r c sp n cap)) : (execOp a.eval o).run Try.prog W = .ok (.value (.slice sp n cap)) W := by
  unfold execOp
  simp only [ho, hx, Sem.run_bind, run_fieldG, Result.andThen_ok, Sem.run_pure]
theorem run_pf2 (g : Nat) (W : World) : (Instr.fieldAt 48 (.pointer (some ⟨g, 0, none⟩)) 2).run Try.prog W = .ok (.pointer (some ⟨g, 2, none⟩)) W := by kernel_rfl
theorem exec_pf2 {a : Act} {o : Oper} {W : World} (x : Operand) (ho : o.op = .fieldAddr 48 x 2) (g : Nat) (hx : a.eval x = .pointer (some ⟨g, 0, none⟩)) : (execOp a.eval o).run Try.prog W = .ok (.value (.pointer (some ⟨g, 2, none⟩))) W := by
  unfold execOp
  simp only [ho, hx, Sem.run_bind, run_pf2, Result.andThen_ok, Sem.run_pure]
end Go.Proofs.Ytkfkjapkcjidnaa.Wg
