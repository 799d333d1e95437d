/- Small models that a law makes: the look at the sizes. -/
import Derived.Test.YtdffbjjiojheoaaZb
import Derived.Test.YtdffbjjiojheoaaMf
namespace Go.Proofs.Ytdffbjjiojheoaa.Mk
set_option maxRecDepth 100000
open Go.ChangeShapes Go.WideShapes Go.ChangeAt Go.RowKit Go.Shelf Go.Proofs.Ytdffbjjiojheoaa.Tn Go.Proofs.Ytdffbjjiojheoaa.Wg
section
variable {ops : Array Oper} {rest : List Oper} {o : Oper} {a : Act} {W : World} {Q : Exit → Act → World → Prop}
theorem wpList_vl (hgd : o.guard = none) (v : Value) (hrun : (execOp a.eval o).run Try.prog W = .ok (.value v) W) (h : wpList Try.prog ops Q rest (a.put o.dst v) W) : wpList Try.prog ops Q (o :: rest) a W := by
  refine wpList_plain hgd fun K hK => ?_
  unfold Oper.wp
  rw [hrun]
  exact hK _ _ h
/-- an operation behind a guard: what it answers, if it is done at all -/
theorem wpList_vlIf (b : Bool) (hw : Region.wanted o (yielded ops a.tmps) = b) (v : Value) (hrun : b = true → (execOp a.eval o).run Try.prog W = .ok (.value v) W) (h : ∀ u, (b = true → u = v) → (b = false → u = undef) → wpList Try.prog ops Q rest (a.put o.dst u) W) : wpList Try.prog ops Q (o :: rest) a W :=
  wpList_step fun K hK => by
    cases b with
    | true =>
      rw [if_pos hw]
      unfold Oper.wp
      rw [hrun rfl]
      exact hK _ _ (h v (fun _ => rfl) (fun h => by cases h))
    | false =>
      rw [if_neg (by rw [hw]; decide)]
      exact hK _ _ (h undef (fun h => by cases h) (fun _ => rfl))
theorem wpList_callM (hg : o.guard = none) (f : FuncId) (args : Array Value) (hrun : (execOp a.eval o).run Try.prog W = .ok (.enter f args) W) {post : Ending → World → Prop} (hc : Calls Try.prog f args W post) (h : ∀ e w', post e w' → ∃ v, e = .returned v ∧ wpList Try.prog ops Q rest (a.put o.dst v) w') : wpList Try.prog ops Q (o :: rest) a W := by
  refine wpList_plain hg fun K hK => ?_
  unfold Oper.wp
  rw [hrun, Oper.upon_enter]
  refine hc.mono fun e w'' hh => ?_
  obtain ⟨v, rfl, hv⟩ := h e w'' hh
  exact hK _ _ hv
theorem wpList_wM (hgd : o.guard = none) (v : Value) (W' : World) (hrun : (execOp a.eval o).run Try.prog W = .ok (.value v) W') (h : wpList Try.prog ops Q rest (a.put o.dst v) W') : wpList Try.prog ops Q (o :: rest) a W := by
  refine wpList_plain hgd fun K hK => ?_
  unfold Oper.wp
  rw [hrun]
  exact hK _ _ h
end
section
variable {a : Act} {o : Oper} {W : World}
theorem exec_movM (x : Operand) (ho : o.op = .move x) (v : Value) (hx : a.eval x = v) : (execOp a.eval o).run Try.prog W = .ok (.value v) W := by
  unfold execOp
  simp only [ho, hx, Sem.run_pure]
theorem exec_lssM (x y : Operand) (ho : o.op = .binOp .lss 3 x y 3) (u v : Int) (b : Bool) (hx : a.eval x = .int .i64 u) (hy : a.eval y = .int .i64 v) (h : decide (u < v) = b) : (execOp a.eval o).run Try.prog W = .ok (.value (.bool b)) W := by
  subst h
  unfold execOp
  simp [ho, hx, hy, binOp, Op.intCmp, eqGuard]
theorem exec_gtrM (x y : Operand) (ho : o.op = .binOp .gtr 3 x y 3) (u v : Int) (b : Bool) (hx : a.eval x = .int .i64 u) (hy : a.eval y = .int .i64 v) (h : decide (v < u) = b) : (execOp a.eval o).run Try.prog W = .ok (.value (.bool b)) W := by
  subst h
  unfold execOp
  simp [ho, hx, hy, binOp, Op.intCmp, eqGuard]
theorem exec_neqM (x y : Operand) (ho : o.op = .binOp .neq 3 x y 3) (u v : Int) (b : Bool) (hx : a.eval x = .int .i64 u) (hy : a.eval y = .int .i64 v) (h : decide (u ≠ v) = b) : (execOp a.eval o).run Try.prog W = .ok (.value (.bool b)) W := by
  subst h
  unfold execOp
  simp [ho, hx, hy, binOp, Op.intCmp, eqGuard]
  rfl
theorem exec_mulM (x y : Operand) (ho : o.op = .binOp .mul 3 x y 3) (u v z : Int) (hx : a.eval x = .int .i64 u) (hy : a.eval y = .int .i64 v) (h : IntKind.i64.wrap (u * v) = z) : (execOp a.eval o).run Try.prog W = .ok (.value (.int .i64 z)) W := by
  unfold execOp
  simp [ho, hx, hy, binOp, Op.intArith, h, eqGuard]
theorem exec_orM (c x y : Operand) (ho : o.op = .pick c x y) (b d : Bool) (hc : a.eval c = .bool b) (hx : a.eval x = .bool true) (hy : b = false → a.eval y = .bool d) : (execOp a.eval o).run Try.prog W = .ok (.value (.bool (b || d))) W := by
  unfold execOp
  cases b with
  | true => simp [ho, hc, hx, asBool]
  | false => simp [ho, hc, hy rfl, asBool]
theorem exec_andM (c x y : Operand) (ho : o.op = .pick c x y) (b d : Bool) (hc : a.eval c = .bool b) (hx : b = true → a.eval x = .bool d) (hy : a.eval y = .bool false) : (execOp a.eval o).run Try.prog W = .ok (.value (.bool (b && d))) W := by
  unfold execOp
  cases b with
  | true => simp [ho, hc, hx rfl, asBool]
  | false => simp [ho, hc, hy, asBool]
theorem exec_arrM (x : Operand) (i : Nat) (hi : i < 6) (ho : o.op = .indexAddr 22 x (.const (.int .i64 (i : Int)))) (c : Nat) (hx : a.eval x = .pointer (some ⟨c, 0, none⟩)) : (execOp a.eval o).run Try.prog W = .ok (.value (.pointer (some ⟨c, i, none⟩))) W := by
  have hadd := Tn.add_plain c 0 i
  rw [Nat.zero_add] at hadd
  cases hq : Try.prog.info? 3 with
  | none => have := size3; simp [hq] at this
  | some j =>
    have hj : j.size = 1 := by simpa [hq] using size3
    have hy : a.eval (.const (.int .i64 (i : Int))) = .int .i64 (i : Int) := rfl
    unfold execOp
    simp [ho, hx, hy, Instr.indexAt, Instr.sureAddr, asIntOf, run_underlying Try.underlying22, sizeOf, typeInfo, hq, hj, hi, hadd]
end
/-- may a small model have such sizes? -/
def badS (s0 s1 s2 s3 s4 s5 : Int) (nf : Nat) : Bool :=
  ((((((((((((decide (s0 < 2) || decide (12 < s0)) || (decide (s1 ≠ 2) && decide (s1 ≠ 4))) || decide (s2 < 1)) || decide (2 < s2)) || decide (s1.tmod (2 * s2) ≠ 0)) || decide (s3 < 1)) || decide (2 < s3)) || decide (s4 < 2)) || decide (8 < s4)) || decide (s5 < 1)) || decide (4 < s5)) || decide ((nf : Int) < 1)) || decide (80 < (nf : Int))
/-- the boxes of Made -/
structure Ms (w : World) (s0 s1 s2 s3 s4 s5 : Int) (sf : Option Addr) (nf cf : Nat) (W : World) : Prop where
  below : Below w.heap.size w W
  bx : W.heap[w.heap.size]? = some (.cells #[.int .i64 s0, .int .i64 s1, .int .i64 s2, .int .i64 s3, .int .i64 s4, .int .i64 s5, .slice sf nf cf] 25 (0, 0))
  br : W.heap[w.heap.size + 1]? = some (.cells (Wv.cells ⟨⟨0, 0, 0, 0, 0, 0⟩, none, 0, 0, none, 0, 0, 0, 0, none, 0, 0, none, 0, 0, none, 0, 0, 0, 0, none, 0, 0⟩) 38 (0, 0))
  bs : W.heap[w.heap.size + 1 + 1]? = some (.cells #[.int .i64 s0, .int .i64 s1, .int .i64 s2, .int .i64 s3, .int .i64 s4, .int .i64 s5] 22 (0, 0))
theorem Ms.later {w W W' : World} {s0 s1 s2 s3 s4 s5 : Int} {sf : Option Addr} {nf cf : Nat} (h : Ms w s0 s1 s2 s3 s4 s5 sf nf cf W) (hb : Below W.heap.size W W') : Ms w s0 s1 s2 s3 s4 s5 sf nf cf W' :=
  ⟨h.below.trans (hb.mono h.below.size), (hb.block _ (Array.getElem?_eq_some_iff.1 h.bx).1).trans h.bx, (hb.block _ (Array.getElem?_eq_some_iff.1 h.br).1).trans h.br, (hb.block _ (Array.getElem?_eq_some_iff.1 h.bs).1).trans h.bs⟩
theorem Ms.cells {w W : World} {s0 s1 s2 s3 s4 s5 : Int} {sf : Option Addr} {nf cf : Nat} (h : Ms w s0 s1 s2 s3 s4 s5 sf nf cf W) : W.cell? ⟨w.heap.size, 6, none⟩ = some (.slice sf nf cf) ∧ W.cell? ⟨w.heap.size + 1 + 1, 0, none⟩ = some (.int .i64 s0) ∧ W.cell? ⟨w.heap.size + 1 + 1, 1, none⟩ = some (.int .i64 s1) ∧ W.cell? ⟨w.heap.size + 1 + 1, 2, none⟩ = some (.int .i64 s2) ∧ W.cell? ⟨w.heap.size + 1 + 1, 3, none⟩ = some (.int .i64 s3) ∧ W.cell? ⟨w.heap.size + 1 + 1, 4, none⟩ = some (.int .i64 s4) ∧ W.cell? ⟨w.heap.size + 1 + 1, 5, none⟩ = some (.int .i64 s5) := by
  refine ⟨?_, ?_, ?_, ?_, ?_, ?_, ?_⟩
  · rw [cell_of_row _ _ _ _ _ _ h.bx]; rfl
  all_goals (rw [cell_of_row _ _ _ _ _ _ h.bs]; rfl)
theorem Ms.made (w : World) (s0 s1 s2 s3 s4 s5 : Int) (sf : Option Addr) (nf cf : Nat) : Ms w s0 s1 s2 s3 s4 s5 sf nf cf (((w.alloc (.cells #[.int .i64 s0, .int .i64 s1, .int .i64 s2, .int .i64 s3, .int .i64 s4, .int .i64 s5, .slice sf nf cf] 25)).alloc (.cells (Wv.cells ⟨⟨0, 0, 0, 0, 0, 0⟩, none, 0, 0, none, 0, 0, 0, 0, none, 0, 0, none, 0, 0, none, 0, 0, 0, 0, none, 0, 0⟩) 38)).alloc (.cells #[.int .i64 s0, .int .i64 s1, .int .i64 s2, .int .i64 s3, .int .i64 s4, .int .i64 s5] 22)) := by
  obtain ⟨O1, hO1⟩ : ∃ O, (Obj.cells #[.int .i64 s0, .int .i64 s1, .int .i64 s2, .int .i64 s3, .int .i64 s4, .int .i64 s5, .slice sf nf cf] 25 (0, 0)) = O := ⟨_, rfl⟩
  obtain ⟨O2, hO2⟩ : ∃ O, (Obj.cells (Wv.cells ⟨⟨0, 0, 0, 0, 0, 0⟩, none, 0, 0, none, 0, 0, 0, 0, none, 0, 0, none, 0, 0, none, 0, 0, 0, 0, none, 0, 0⟩) 38 (0, 0)) = O := ⟨_, rfl⟩
  obtain ⟨O3, hO3⟩ : ∃ O, (Obj.cells #[.int .i64 s0, .int .i64 s1, .int .i64 s2, .int .i64 s3, .int .i64 s4, .int .i64 s5] 22 (0, 0)) = O := ⟨_, rfl⟩
  rw [hO1, hO2, hO3]
  have e1 : (w.alloc O1).heap.size = w.heap.size + 1 := by simp
  have e2 : ((w.alloc O1).alloc O2).heap.size = w.heap.size + 1 + 1 := by simp
  refine ⟨(((Below.refl _ _).alloc (Nat.le_refl _) _).alloc (by simp) _).alloc (by simp; omega) _, ?_, ?_, ?_⟩
  · rw [hO1, heap_alloc_old _ _ (by omega), heap_alloc_old _ _ (by omega)]; exact heap_alloc_new _ _
  · rw [hO2, ← e1, heap_alloc_old _ _ (by omega)]; exact heap_alloc_new _ _
  · rw [hO3, ← e2]; exact heap_alloc_new _ _
/-- the boxes of Made behind the sizes: the sizes, the filler, the model under way -/
structure Mk (w0 : World) (cb fb wb : Nat) (V D H L X I : Nat) (sf : Option Addr) (cf : Nat) (fl : List Int) (at_ : Nat) (cs : Array Value) (W : World) : Prop where
  fil : Fil w0 fb sf cf fl at_ W
  cb0 : w0.heap.size ≤ cb
  wb0 : w0.heap.size ≤ wb
  crow : W.heap[cb]? = some (.cells #[.int .i64 (V : Int), .int .i64 (D : Int), .int .i64 (H : Int), .int .i64 (L : Int), .int .i64 (X : Int), .int .i64 (I : Int)] 31 (0, 0))
  wrow : W.heap[wb]? = some (.cells cs 38 (0, 0))
  wb1 : w0.heap.size + 1 < wb
  rrow : W.heap[w0.heap.size + 1]? = some (.cells (Wv.cells ⟨⟨0, 0, 0, 0, 0, 0⟩, none, 0, 0, none, 0, 0, 0, 0, none, 0, 0, none, 0, 0, none, 0, 0, 0, 0, none, 0, 0⟩) 38 (0, 0))
section
variable {w0 W W' : World} {cb fb wb V D H L X I : Nat} {sf : Option Addr} {cf : Nat} {fl : List Int} {at_ at' : Nat} {cs : Array Value}
theorem Mk.ner (h : Mk w0 cb fb wb V D H L X I sf cf fl at_ cs W) : w0.heap.size + 1 ≠ cb ∧ w0.heap.size + 1 ≠ fb ∧ w0.heap.size + 1 ≠ wb := by
  have h1 := h.crow
  have h2 := h.rrow
  have h3 := h.fil.row
  refine ⟨fun e => ?_, fun e => ?_, fun e => ?_⟩
  · rw [← e, h2] at h1; simp at h1
  · rw [← e, h2] at h3; simp at h3
  · have := h.wb1; omega
theorem Mk.ne (h : Mk w0 cb fb wb V D H L X I sf cf fl at_ cs W) : cb ≠ fb ∧ cb ≠ wb ∧ fb ≠ wb := by
  have h1 := h.crow
  have h2 := h.wrow
  have h3 := h.fil.row
  refine ⟨fun e => ?_, fun e => ?_, fun e => ?_⟩
  · rw [e, h3] at h1; simp at h1
  · rw [e, h2] at h1; simp at h1
  · rw [e, h2] at h3; simp at h3
theorem Mk.later (h : Mk w0 cb fb wb V D H L X I sf cf fl at_ cs W) (hb : Below W.heap.size W W') : Mk w0 cb fb wb V D H L X I sf cf fl at_ cs W' :=
  ⟨h.fil.later hb, h.cb0, h.wb0, (hb.block _ (Array.getElem?_eq_some_iff.1 h.crow).1).trans h.crow, (hb.block _ (Array.getElem?_eq_some_iff.1 h.wrow).1).trans h.wrow, h.wb1, (hb.block _ (Array.getElem?_eq_some_iff.1 h.rrow).1).trans h.rrow⟩
theorem Mk.next (h : Mk w0 cb fb wb V D H L X I sf cf fl at_ cs W) (hf : Fil w0 fb sf cf fl at' W') (hg : W.grownBy W' (some fb)) : Mk w0 cb fb wb V D H L X I sf cf fl at' cs W' :=
  ⟨hf, h.cb0, h.wb0, (hg.block _ (Array.getElem?_eq_some_iff.1 h.crow).1 (fun e => h.ne.1 (by cases e; rfl))).trans h.crow, (hg.block _ (Array.getElem?_eq_some_iff.1 h.wrow).1 (fun e => h.ne.2.2 (by cases e; rfl))).trans h.wrow, h.wb1, (hg.block _ (Array.getElem?_eq_some_iff.1 h.rrow).1 (fun e => h.ner.2.1 (by injection e))).trans h.rrow⟩
theorem Mk.grown (h : Mk w0 cb fb wb V D H L X I sf cf fl at_ cs W) {row : Option Nat} (hg : W.grownBy W' row) (hr : ∀ k, row = some k → (w0.heap.size ≤ k ∧ k ≠ w0.heap.size + 1) ∧ k ≠ cb ∧ k ≠ fb ∧ k ≠ wb) : Mk w0 cb fb wb V D H L X I sf cf fl at_ cs W' :=
  ⟨⟨h.fil.below.trans (Below.ofGrown hg h.fil.below.size (fun k hk => (hr k hk).1.1)), h.fil.hb, (hg.block _ (Array.getElem?_eq_some_iff.1 h.fil.row).1 (fun e => (hr _ e.symm).2.2.1 rfl)).trans h.fil.row⟩, h.cb0, h.wb0, (hg.block _ (Array.getElem?_eq_some_iff.1 h.crow).1 (fun e => (hr _ e.symm).2.1 rfl)).trans h.crow, (hg.block _ (Array.getElem?_eq_some_iff.1 h.wrow).1 (fun e => (hr _ e.symm).2.2.2 rfl)).trans h.wrow, h.wb1, (hg.block _ (Array.getElem?_eq_some_iff.1 h.rrow).1 (fun e => (hr _ e.symm).1.2 rfl)).trans h.rrow⟩
theorem Mk.put (h : Mk w0 cb fb wb V D H L X I sf cf fl at_ cs W) (j : Nat) (v : Value) : Mk w0 cb fb wb V D H L X I sf cf fl at_ (cs.setIfInBounds j v) (W.setCell ⟨wb, j, none⟩ v) := by
  refine ⟨h.fil.set h.wb0 h.ne.2.2 v, h.cb0, h.wb0, ?_, heap_setCell_same _ _ _ _ _ _ h.wrow, h.wb1, ?_⟩
  · rw [heap_setCell_other _ _ _ _ (by simpa using h.ne.2.1)]
    exact h.crow
  · rw [heap_setCell_other _ _ _ _ (by simpa using h.ner.2.2)]
    exact h.rrow
theorem Mk.cfg (h : Mk w0 cb fb wb V D H L X I sf cf fl at_ cs W) : W.cell? ⟨cb, 0, none⟩ = some (.int .i64 (V : Int)) ∧ W.cell? ⟨cb, 1, none⟩ = some (.int .i64 (D : Int)) ∧ W.cell? ⟨cb, 3, none⟩ = some (.int .i64 (L : Int)) ∧ W.cell? ⟨cb, 5, none⟩ = some (.int .i64 (I : Int)) := by
  refine ⟨?_, ?_, ?_, ?_⟩ <;> (rw [cell_of_row _ _ _ _ _ _ h.crow]; rfl)
theorem Mk.w (h : Mk w0 cb fb wb V D H L X I sf cf fl at_ cs W) (j : Nat) : W.cell? ⟨wb, j, none⟩ = cs[j]? ∧ W.frozen? ⟨wb, j, none⟩ = false := ⟨by rw [cell_of_row _ _ _ _ _ _ h.wrow], frozen_of_row _ _ _ _ _ h.wrow⟩
theorem owns_row {base e k n g : Nat} {v : Value} {xs : List Value} (h : W.ownsRow base e k v n xs) (hv : v.ownBlock = some g) : base ≤ g ∧ ∃ cur, W.heap[g]? = some (.cells cur e (0, 0)) := by
  rcases h.2 with ⟨rfl, _⟩ | ⟨g', cap, cur, rfl, h1, h2, _⟩
  · cases hv
  · cases hv
    exact ⟨h1, cur, h2⟩
end
theorem info5 : (Try.prog.info? 5).map (fun i => (i.zero, i.size, i.bytes)) = some (some (.int .u8 0), 1, 1) := by kernel_rfl
section
variable {W : World} {ops : Array Oper} {rest : List Oper} {o : Oper} {a : Act} {Q : Exit → Act → World → Prop}
/-- append of one byte to a row of the call's own -/
theorem wpList_pushB (hgd : o.guard = none) (s x : Operand) (ho : o.op = .call { callee := .builtin .append, args := #[s, x], argTypes := #[32, 32] }) (base : Nat) (v : Value) (n : Nat) (l : List Int) (y : Int) (hs : a.eval s = v) (hown : W.ownsRow base 5 1 v n (l.map (Value.int .u8)))
    (hx : a.eval x = .slice (some ⟨W.heap.size, 0, none⟩) 1 1) (hn : n ≤ 999999) (hbase : base ≤ W.heap.size)
    (h : ∀ sq cq w', w'.ownsRow base 5 1 (.slice sq (n + 1) cq) (n + 1) ((l ++ [y]).map (Value.int .u8)) → W.grownBy w' v.ownBlock → wpList Try.prog ops Q rest (a.put o.dst (.slice sq (n + 1) cq)) w') : wpList Try.prog ops Q (o :: rest) a (W.alloc (.cells #[.int .u8 y] 5)) := by
  have hb : Below W.heap.size W (W.alloc (.cells #[.int .u8 y] 5)) := (Below.refl _ _).alloc (Nat.le_refl _) _
  have hsl : Sl (W.alloc (.cells #[.int .u8 y] 5)) (some ⟨W.heap.size, 0, none⟩) 1 [.int .u8 y] := Sl.new W [.int .u8 y] #[.int .u8 y] 5 (0, 0) rfl (by simp)
  have ho' := owns_below hown hb
  refine wpList_append_sl 32 5 1 (.int .u8 0) Try.underlying32 info5 rfl (by decide) hgd s x ho base v n 1 (l.map (Value.int .u8)) [.int .u8 y] hs ho' (some ⟨W.heap.size, 0, none⟩) 1 hx rfl hsl (fun v hv => by simp at hv; subst hv; rfl) (by omega) (by simp; omega) ?_
  intro v' w' h1 h2
  obtain ⟨sq, cq, rfl, _⟩ := Sl.all1 h1
  exact h sq cq w' (by rw [List.map_append]; exact h1) (grownM_trans (grownM_of hb _) h2)
end
def alp (n : Nat) : List Int := (List.range n).map fun i => ((97 + i : Nat) : Int)
theorem alp_succ (n : Nat) : alp (n + 1) = alp n ++ [((97 + n : Nat) : Int)] := by simp [alp, List.range_succ]
theorem alp_length (n : Nat) : (alp n).length = n := by simp [alp]
/-- the block of a row of bytes, or of numbers, or of layers, is none of the boxes -/
theorem Mk.far {w0 W : World} {cb fb wb V D H L X I : Nat} {sf : Option Addr} {cf : Nat} {fl : List Int} {at_ : Nat} {cs : Array Value} (h : Mk w0 cb fb wb V D H L X I sf cf fl at_ cs W) {e k n : Nat} {v : Value} {xs : List Value} (ho : W.ownsRow w0.heap.size e k v n xs) (h1 : e ≠ 31) (h2 : e ≠ 103) (h3 : e ≠ 38) :
    ∀ g, v.ownBlock = some g → (w0.heap.size ≤ g ∧ g ≠ w0.heap.size + 1) ∧ g ≠ cb ∧ g ≠ fb ∧ g ≠ wb := fun g hg => by
  obtain ⟨hb, cur, hc⟩ := owns_row ho hg
  refine ⟨⟨hb, fun e1 => by subst e1; rw [h.rrow] at hc; simp only [Option.some.injEq, Obj.cells.injEq] at hc; exact h3 hc.2.1.symm⟩, fun e1 => ?_, fun e1 => ?_, fun e1 => ?_⟩
  · subst e1; rw [h.crow] at hc; simp only [Option.some.injEq, Obj.cells.injEq] at hc; exact h1 hc.2.1.symm
  · subst e1; rw [h.fil.row] at hc; simp only [Option.some.injEq, Obj.cells.injEq] at hc; exact h2 hc.2.1.symm
  · subst e1; rw [h.wrow] at hc; simp only [Option.some.injEq, Obj.cells.injEq] at hc; exact h3 hc.2.1.symm
theorem owns_set3 {W : World} {base e k n g : Nat} {v : Value} {xs : List Value} (h : W.ownsRow base e k v n xs) (hne : v.ownBlock ≠ some g) (i j l : Nat) (x y z : Value) : (((W.setCell ⟨g, i, none⟩ x).setCell ⟨g, j, none⟩ y).setCell ⟨g, l, none⟩ z).ownsRow base e k v n xs :=
  ((h.kept (grownM_set _ _ _ _) (Or.inr hne)).kept (grownM_set _ _ _ _) (Or.inr hne)).kept (grownM_set _ _ _ _) (Or.inr hne)
/-- a layer's nine rows: values, and numbers -/
structure LayV where
  n1 : Value × List Int
  q : Value × List Int
  k : Value × List Int
  v : Value × List Int
  o : Value × List Int
  n2 : Value × List Int
  g : Value × List Int
  u : Value × List Int
  d : Value × List Int
def LayV.cells (D I : Nat) (x : LayV) : List Value := [x.n1.1, .int .i64 (D : Int), .int .i64 (D : Int), x.q.1, .int .i64 (D : Int), .int .i64 (D : Int), x.k.1, .int .i64 (D : Int), .int .i64 (D : Int), x.v.1, .int .i64 (D : Int), .int .i64 (D : Int), x.o.1, x.n2.1, .int .i64 (I : Int), .int .i64 (D : Int), x.g.1, .int .i64 (I : Int), .int .i64 (D : Int), x.u.1, .int .i64 (D : Int), .int .i64 (I : Int), x.d.1]
/-- a row of the call's own that reads as so many numbers -/
def RowN (B : Nat) (W : World) (n : Nat) (r : Value × List Int) : Prop := W.ownsRow B 3 1 r.1 n (r.2.map (Value.int .i64))
structure LayV.own (B : Nat) (W : World) (D I : Nat) (x : LayV) : Prop where
  n1 : RowN B W D x.n1
  q : RowN B W (D * D) x.q
  k : RowN B W (D * D) x.k
  v : RowN B W (D * D) x.v
  o : RowN B W (D * D) x.o
  n2 : RowN B W D x.n2
  g : RowN B W (I * D) x.g
  u : RowN B W (I * D) x.u
  d : RowN B W (D * I) x.d
/-- rows stay -/
def Kp (B lb : Nat) (W W' : World) : Prop := ∀ (e k n : Nat) (v : Value) (xs : List Value), (e = 3 ∨ e = 5 ∨ (e = 83 ∧ v.ownBlock ≠ some lb)) → W.ownsRow B e k v n xs → W'.ownsRow B e k v n xs
theorem Kp.trans {B lb : Nat} {W1 W2 W3 : World} (h1 : Kp B lb W1 W2) (h2 : Kp B lb W2 W3) : Kp B lb W1 W3 := fun e k n v xs he h => h2 e k n v xs he (h1 e k n v xs he h)
theorem Kp.num {B lb n : Nat} {W W' : World} {r : Value × List Int} (h : Kp B lb W W') (hr : RowN B W n r) : RowN B W' n r := h 3 1 n _ _ (Or.inl rfl) hr
theorem Kp.lay {B lb D I : Nat} {W W' : World} {x : LayV} (h : Kp B lb W W') (hx : x.own B W D I) : x.own B W' D I :=
  ⟨h.num hx.n1, h.num hx.q, h.num hx.k, h.num hx.v, h.num hx.o, h.num hx.n2, h.num hx.g, h.num hx.u, h.num hx.d⟩
/-- the boxes, and that of the layer under way -/
structure Lst (w0 : World) (cb fb wb lb : Nat) (V D H L X I : Nat) (sf : Option Addr) (cf : Nat) (fl : List Int) (at_ : Nat) (cs ls : Array Value) (W : World) : Prop where
  bx : Mk w0 cb fb wb V D H L X I sf cf fl at_ cs W
  lb0 : w0.heap.size ≤ lb
  lrow : W.heap[lb]? = some (.cells ls 83 (0, 0))
section
variable {w0 W W' : World} {cb fb wb lb V D H L X I : Nat} {sf : Option Addr} {cf : Nat} {fl : List Int} {at_ at' : Nat} {cs ls : Array Value}
theorem Lst.ne (h : Lst w0 cb fb wb lb V D H L X I sf cf fl at_ cs ls W) : lb ≠ cb ∧ lb ≠ fb ∧ lb ≠ wb := by
  have h1 := h.lrow
  have h2 := h.bx.crow
  have h3 := h.bx.fil.row
  have h4 := h.bx.wrow
  refine ⟨fun e => ?_, fun e => ?_, fun e => ?_⟩
  · rw [e, h2] at h1; simp at h1
  · rw [e, h3] at h1; simp at h1
  · rw [e, h4] at h1; simp at h1
theorem Lst.next (h : Lst w0 cb fb wb lb V D H L X I sf cf fl at_ cs ls W) (hf : Fil w0 fb sf cf fl at' W') (hg : W.grownBy W' (some fb)) : Lst w0 cb fb wb lb V D H L X I sf cf fl at' cs ls W' :=
  ⟨h.bx.next hf hg, h.lb0, (hg.block _ (Array.getElem?_eq_some_iff.1 h.lrow).1 (fun e => h.ne.2.1 (by cases e; rfl))).trans h.lrow⟩
theorem Lst.kpN (h : Lst w0 cb fb wb lb V D H L X I sf cf fl at_ cs ls W) (hg : W.grownBy W' (some fb)) : Kp w0.heap.size lb W W' := fun e k n v xs he ho =>
  ho.kept hg (Or.inr fun e1 => by
    obtain ⟨_, cur, hc⟩ := owns_row ho e1
    rw [h.bx.fil.row] at hc
    simp only [Option.some.injEq, Obj.cells.injEq] at hc
    have := hc.2.1
    rcases he with rfl | rfl | ⟨rfl, _⟩ <;> exact absurd this (by decide))
theorem Lst.put (h : Lst w0 cb fb wb lb V D H L X I sf cf fl at_ cs ls W) (j : Nat) (v : Value) : Lst w0 cb fb wb lb V D H L X I sf cf fl at_ cs (ls.setIfInBounds j v) (W.setCell ⟨lb, j, none⟩ v) := by
  have hrl : w0.heap.size + 1 ≠ lb := fun e => by
    have h1 := h.lrow
    rw [← e, h.bx.rrow] at h1; simp at h1
  refine ⟨⟨h.bx.fil.set h.lb0 (Ne.symm h.ne.2.1) v, h.bx.cb0, h.bx.wb0, ?_, ?_, h.bx.wb1, ?_⟩, h.lb0, heap_setCell_same _ _ _ _ _ _ h.lrow⟩
  · rw [heap_setCell_other _ _ _ _ (by simpa using Ne.symm h.ne.1)]; exact h.bx.crow
  · rw [heap_setCell_other _ _ _ _ (by simpa using Ne.symm h.ne.2.2)]; exact h.bx.wrow
  · rw [heap_setCell_other _ _ _ _ (by simpa using hrl)]; exact h.bx.rrow
theorem Lst.kpP (h : Lst w0 cb fb wb lb V D H L X I sf cf fl at_ cs ls W) (j : Nat) (u : Value) : Kp w0.heap.size lb W (W.setCell ⟨lb, j, none⟩ u) := fun e k n v xs he ho =>
  ho.kept (grownM_set _ _ _ _) (Or.inr fun e1 => by
    obtain ⟨_, cur, hc⟩ := owns_row ho e1
    rw [h.lrow] at hc
    simp only [Option.some.injEq, Obj.cells.injEq] at hc
    have := hc.2.1
    rcases he with rfl | rfl | ⟨rfl, h9⟩
    · exact absurd this (by decide)
    · exact absurd this (by decide)
    · exact h9 e1)
theorem Lst.l (h : Lst w0 cb fb wb lb V D H L X I sf cf fl at_ cs ls W) (j : Nat) : W.cell? ⟨lb, j, none⟩ = ls[j]? ∧ W.frozen? ⟨lb, j, none⟩ = false := ⟨by rw [cell_of_row _ _ _ _ _ _ h.lrow], frozen_of_row _ _ _ _ _ h.lrow⟩
end
theorem size_layM : (Try.prog.info? 83).map (·.size) = some 23 := by kernel_rfl
theorem run_buildL (W : World) (sp : Option Addr) (n c : Nat) : (Instr.build 83 #[(0, .slice sp n c)]).run Try.prog W = .ok (.agg #[.slice sp n c, .int .i64 0, .int .i64 0, .slice none 0 0, .int .i64 0, .int .i64 0, .slice none 0 0, .int .i64 0, .int .i64 0, .slice none 0 0, .int .i64 0, .int .i64 0, .slice none 0 0, .slice none 0 0, .int .i64 0, .int .i64 0, .slice none 0 0, .int .i64 0, .int .i64 0, .slice none 0 0, .int .i64 0, .int .i64 0, .slice none 0 0]) W := by kernel_rfl
theorem exec_buildL {a : Act} {o : Oper} {W : World} (x : Operand) (ho : o.op = .build 83 #[(0, x)]) (sp : Option Addr) (n c : Nat) (hx : a.eval x = .slice sp n c) : (execOp a.eval o).run Try.prog W = .ok (.value (.agg #[.slice sp n c, .int .i64 0, .int .i64 0, .slice none 0 0, .int .i64 0, .int .i64 0, .slice none 0 0, .int .i64 0, .int .i64 0, .slice none 0 0, .int .i64 0, .int .i64 0, .slice none 0 0, .slice none 0 0, .int .i64 0, .int .i64 0, .slice none 0 0, .int .i64 0, .int .i64 0, .slice none 0 0, .int .i64 0, .int .i64 0, .slice none 0 0])) W := by
  have e : (#[((0 : Nat), x)].map fun (i, x) => (i, a.eval x)) = #[(0, .slice sp n c)] := by simp [hx]
  unfold execOp
  simp only [ho, e, Sem.run_bind, run_buildL, Result.andThen_ok, Sem.run_pure]
theorem exec_allocL {a : Act} {o : Oper} {W : World} (ho : o.op = .alloc 83) : (execOp a.eval o).run Try.prog W = .ok (.value (.pointer (some ⟨W.heap.size, 0, none⟩))) (W.alloc (.cells #[.slice none 0 0, .int .i64 0, .int .i64 0, .slice none 0 0, .int .i64 0, .int .i64 0, .slice none 0 0, .int .i64 0, .int .i64 0, .slice none 0 0, .int .i64 0, .int .i64 0, .slice none 0 0, .slice none 0 0, .int .i64 0, .int .i64 0, .slice none 0 0, .int .i64 0, .int .i64 0, .slice none 0 0, .int .i64 0, .int .i64 0, .slice none 0 0] 83)) := by
  have hr : (Instr.alloc 83 true (.tuple #[])).run Try.prog W = .ok (.pointer (some ⟨W.heap.size, 0, none⟩)) (W.alloc (.cells #[.slice none 0 0, .int .i64 0, .int .i64 0, .slice none 0 0, .int .i64 0, .int .i64 0, .slice none 0 0, .int .i64 0, .int .i64 0, .slice none 0 0, .int .i64 0, .int .i64 0, .slice none 0 0, .slice none 0 0, .int .i64 0, .int .i64 0, .slice none 0 0, .int .i64 0, .int .i64 0, .slice none 0 0, .int .i64 0, .int .i64 0, .slice none 0 0] 83)) := by kernel_rfl
  unfold execOp
  simp only [ho, Sem.run_bind, hr, Result.andThen_ok, Sem.run_pure]
theorem ly_one (sp : Option Addr) (n c : Nat) : (#[.slice sp n c, .int .i64 0, .int .i64 0, .slice none 0 0, .int .i64 0, .int .i64 0, .slice none 0 0, .int .i64 0, .int .i64 0, .slice none 0 0, .int .i64 0, .int .i64 0, .slice none 0 0, .slice none 0 0, .int .i64 0, .int .i64 0, .slice none 0 0, .int .i64 0, .int .i64 0, .slice none 0 0, .int .i64 0, .int .i64 0, .slice none 0 0] : Array Value).all (·.oneCell') = true := by kernel_rfl
theorem exec_call2M {a : Act} {o : Oper} {W : World} (f : FuncId) (x y : Operand) (ats : Array TypeId) (u v : Value) (ho : o.op = .call { callee := .value (.func f), args := #[x, y], argTypes := ats }) (hx : a.eval x = u) (hy : a.eval y = v)
    (hf : (callFunc f #[u, v]).run Try.prog W = .ok (.enter f #[u, v]) W) : (execOp a.eval o).run Try.prog W = .ok (.enter f #[u, v]) W := Tn.exec_call f #[x, y] ats #[u, v] ho (by simp [hx, hy]) hf
theorem exec_call3M {a : Act} {o : Oper} {W : World} (f : FuncId) (x y z : Operand) (ats : Array TypeId) (u v r : Value) (ho : o.op = .call { callee := .value (.func f), args := #[x, y, z], argTypes := ats }) (hx : a.eval x = u) (hy : a.eval y = v) (hz : a.eval z = r)
    (hf : (callFunc f #[u, v, r]).run Try.prog W = .ok (.enter f #[u, v, r]) W) : (execOp a.eval o).run Try.prog W = .ok (.enter f #[u, v, r]) W := Tn.exec_call f #[x, y, z] ats #[u, v, r] ho (by simp [hx, hy, hz]) hf
theorem infoL : (Try.prog.info? 83).map (fun i => (i.zero, i.size, i.bytes)) = some (some (.agg #[.slice none 0 0, .int .i64 0, .int .i64 0, .slice none 0 0, .int .i64 0, .int .i64 0, .slice none 0 0, .int .i64 0, .int .i64 0, .slice none 0 0, .int .i64 0, .int .i64 0, .slice none 0 0, .slice none 0 0, .int .i64 0, .int .i64 0, .slice none 0 0, .int .i64 0, .int .i64 0, .slice none 0 0, .int .i64 0, .int .i64 0, .slice none 0 0]), 23, 328) := by kernel_rfl
theorem load_rowL {a : Act} {o : Oper} {W : World} (x : Operand) (ho : o.op = .load 83 x) (g : Nat) (hx : a.eval x = .pointer (some ⟨g, 0, none⟩)) (cs : Array Value) (hs : some cs.size = some 23) (h : W.heap[g]? = some (.cells cs 83 (0, 0))) : (execOp a.eval o).run Try.prog W = .ok (.value (.agg cs)) W := by
  have hl : (loadVar 83 ⟨g, 0, none⟩).run Try.prog W = .ok (.agg cs) W := run_loadVar_row W g 83 83 _ _ _ h Try.underlying83 rfl (size_layM.trans hs.symm)
  unfold execOp
  simp only [ho, hx, Instr.loadAt, Instr.sureAddr, Sem.run_bind, Sem.run_pure, Result.andThen_ok, hl]
theorem exec_oneL {a : Act} {o : Oper} {W : World} (y : Operand) (ho : o.op = .buildSlice 36 1 #[(0, y)]) (x0 x1 x2 x3 x4 x5 x6 x7 x8 x9 x10 x11 x12 x13 x14 x15 x16 x17 x18 x19 x20 x21 x22 : Value) (hx : a.eval y = .agg #[x0, x1, x2, x3, x4, x5, x6, x7, x8, x9, x10, x11, x12, x13, x14, x15, x16, x17, x18, x19, x20, x21, x22]) : (execOp a.eval o).run Try.prog W = .ok (.value (.slice (some ⟨W.heap.size, 0, none⟩) 1 1)) (W.alloc (.cells #[x0, x1, x2, x3, x4, x5, x6, x7, x8, x9, x10, x11, x12, x13, x14, x15, x16, x17, x18, x19, x20, x21, x22] 83)) := by
  obtain ⟨i0, hi, hz0, hz1, hz2⟩ := info_parts infoL
  unfold execOp
  have hr := run_buildSlice (P := Try.prog) W 36 83 1 #[(0, .agg #[x0, x1, x2, x3, x4, x5, x6, x7, x8, x9, x10, x11, x12, x13, x14, x15, x16, x17, x18, x19, x20, x21, x22])] #[x0, x1, x2, x3, x4, x5, x6, x7, x8, x9, x10, x11, x12, x13, x14, x15, x16, x17, x18, x19, x20, x21, x22] i0 _ Try.underlying36 hi hz0 (by rw [hz1]; decide) (by rw [hz1]; decide) (by rw [hz1]; kernel_rfl)
  have e : (#[((0 : Nat), y)].map fun (i, x) => (i, a.eval x)) = #[(0, .agg #[x0, x1, x2, x3, x4, x5, x6, x7, x8, x9, x10, x11, x12, x13, x14, x15, x16, x17, x18, x19, x20, x21, x22])] := by simp [hx]
  simp only [ho, e, Sem.run_bind, hr, Result.andThen_ok, Sem.run_pure]
/-- append of one layer to a row of the call's own -/
theorem wpList_pushL {ops : Array Oper} {rest : List Oper} {o : Oper} {a : Act} {W : World} {Q : Exit → Act → World → Prop} (hgd : o.guard = none) (s x : Operand) (ho : o.op = .call { callee := .builtin .append, args := #[s, x], argTypes := #[36, 36] }) (base : Nat) (v : Value) (n : Nat) (xs cs : List Value) (hs : a.eval s = v) (hown : W.ownsRow base 83 23 v n xs) (hl : cs.length = 23) (h1 : ∀ u ∈ cs, u.oneCell' = true)
    (hx : a.eval x = .slice (some ⟨W.heap.size, 0, none⟩) 1 1) (hn : n ≤ 1000) (hbase : base ≤ W.heap.size)
    (h : ∀ sq cq w', w'.ownsRow base 83 23 (.slice sq (n + 1) cq) (n + 1) (xs ++ cs) → W.grownBy w' v.ownBlock → wpList Try.prog ops Q rest (a.put o.dst (.slice sq (n + 1) cq)) w') : wpList Try.prog ops Q (o :: rest) a (W.alloc (.cells cs.toArray 83)) := by
  have hb : Below W.heap.size W (W.alloc (.cells cs.toArray 83)) := (Below.refl _ _).alloc (Nat.le_refl _) _
  have ho' : (W.alloc (.cells cs.toArray 83)).ownsRow base 83 23 v n xs := hown.kept (row := none) (grownM_of hb none) (by cases v.ownBlock <;> simp)
  obtain ⟨i0, hi, hz0, hz1, hz2⟩ := info_parts infoL
  obtain ⟨v', w', hrun, k1, k2, _⟩ := run_append_own (P := Try.prog) (W.alloc (.cells cs.toArray 83)) base 36 o.type 83 i0 _ 23 328 Try.underlying36 hi hz0 hz1 hz2 rfl (by decide) v n xs ho' ⟨W.heap.size, 0, none⟩ 1 1 cs (by rw [hl]) (fun j u hj => by
    rw [Tn.add_plain, Nat.zero_add, cell_of_row _ _ _ _ _ _ (heap_alloc_new _ _)]
    simpa using hj) h1 (by unfold maxLen; omega) (by omega) (Nat.le_trans hbase hb.size)
  obtain ⟨sq, cq, rfl⟩ : ∃ sq cq, v' = .slice sq (n + 1) cq := by
    obtain ⟨_, ⟨e, e2⟩ | ⟨g, cap, cur, e, _⟩⟩ := k1
    · omega
    · exact ⟨_, _, e⟩
  refine wpList_wM hgd _ w' ?_ (h sq cq w' k1 (grownM_trans (grownM_of hb _) k2))
  simp [execOp, ho, resolve, invoke, builtin, hs, hx, hrun, Result.andThen]
theorem keep_lay {W W' : World} {B m : Nat} {lv : Value} {ys : List Value} (hl : W.ownsRow B 83 23 lv m ys) (hg : W.grownBy W' lv.ownBlock) (e k n : Nat) (v : Value) (xs : List Value) (he : e = 3 ∨ e = 5) (ho : W.ownsRow B e k v n xs) : W'.ownsRow B e k v n xs := by
  cases hv : v.ownBlock with
  | none => exact ho.kept hg (Or.inl hv)
  | some g =>
    refine ho.kept hg (Or.inr fun e1 => ?_)
    rw [hv] at e1
    obtain ⟨_, c1, h1⟩ := owns_row ho hv
    obtain ⟨_, c2, h2⟩ := owns_row hl e1.symm
    rw [h1] at h2
    simp only [Option.some.injEq, Obj.cells.injEq] at h2
    have := h2.2.1
    rcases he with rfl | rfl <;> exact absurd this (by decide)
theorem flat_snoc {D I : Nat} (Ls : List LayV) (x : LayV) : (Ls ++ [x]).flatMap (LayV.cells D I) = Ls.flatMap (LayV.cells D I) ++ LayV.cells D I x := by simp
theorem genM {Q : World → Prop} (w : World) (P : World → Prop) (h : P w) (k : ∀ W, P W → Q W) : Q w := k w h
theorem size_wM : (Try.prog.info? 38).map (·.size) = some 16 := by kernel_rfl
theorem zc_one : (#[.int .i64 0, .int .i64 0, .int .i64 0, .int .i64 0, .int .i64 0, .int .i64 0, .slice none 0 0, .slice none 0 0, .int .i64 0, .int .i64 0, .slice none 0 0, .slice none 0 0, .slice none 0 0, .int .i64 0, .int .i64 0, .slice none 0 0] : Array Value).all (·.oneCell') = true := by kernel_rfl
theorem results_rtM {P : Program} {fn : Func} {p q : Tmp} {ty : TypeId} (h : fn.results = #[.cell p ty, .tmp q]) (tmps : Array Value) (w : World) (g : Nat) (t : TypeId) (cs : Array Value) (fr : Nat × Nat) (d : TypeDesc) (u : Value)
    (hp : tmps.getD p undef = .pointer (some ⟨g, 0, none⟩)) (hg : w.heap[g]? = some (.cells cs t fr))
    (hu : P.underlying ty = some d) (hd : (match d with | .struct _ | .array _ _ => true | _ => false) = true) (hi : (P.info? ty).map (·.size) = some cs.size) (hq : tmps.getD q undef = u) :
    (results fn tmps).run P w = .ok (.tuple #[.agg cs, u]) w := by
  have hp' : tmps[p]?.getD undef = .pointer (some ⟨g, 0, none⟩) := by simpa using hp
  have hq' : tmps[q]?.getD undef = u := by simpa using hq
  simp [results, h, hp', hq', asAddr, run_loadVar_row w g t ty cs fr d hg hu hd hi]
theorem below_setRowM {B : Nat} {w W : World} (h : Below B w W) {g : Nat} (hg : B ≤ g) (cs : Array Value) : Below B w (W.setRow g cs) :=
  ⟨h.os, h.tape, h.output, by simp; exact h.size, fun k hk => (setRow_other _ _ _ _ (by omega)).trans (h.block k hk)⟩
theorem good_sizes {s0 s1 s2 s3 s4 s5 : Int} {nf : Nat} (h : badS s0 s1 s2 s3 s4 s5 nf = false) : ∃ V D H L X I : Nat, s0 = (V : Int) ∧ s1 = (D : Int) ∧ s2 = (H : Int) ∧ s3 = (L : Int) ∧ s4 = (X : Int) ∧ s5 = (I : Int) ∧ (2 ≤ V ∧ V ≤ 12) ∧ (2 ≤ D ∧ D ≤ 4) ∧ (1 ≤ H ∧ H ≤ 2) ∧ (1 ≤ L ∧ L ≤ 2) ∧ (2 ≤ X ∧ X ≤ 8) ∧ (1 ≤ I ∧ I ≤ 4) ∧ 1 ≤ nf ∧ nf ≤ 80 := by
  unfold badS at h
  simp only [Bool.or_eq_false_iff, Bool.and_eq_false_iff, decide_eq_false_iff_not] at h
  exact ⟨s0.toNat, s1.toNat, s2.toNat, s3.toNat, s4.toNat, s5.toNat, by omega, by omega, by omega, by omega, by omega, by omega, by omega, by omega, by omega, by omega, by omega, by omega, by omega, by omega⟩
/-- a small model -/
structure Small (m : Md) : Prop where
  v : 2 ≤ m.cfg.v ∧ m.cfg.v ≤ 12
  d : 2 ≤ m.cfg.d ∧ m.cfg.d ≤ 4
  h : 1 ≤ m.cfg.h ∧ m.cfg.h ≤ 2
  l : 1 ≤ m.cfg.l ∧ m.cfg.l ≤ 2
  x : 2 ≤ m.cfg.x ∧ m.cfg.x ≤ 8
  i : 1 ≤ m.cfg.i ∧ m.cfg.i ≤ 4
  n : (m.n : Int) = m.cfg.l
  al : m.al.length ≤ 12
  ps : m.ps = []
end Go.Proofs.Ytdffbjjiojheoaa.Mk
