import Derived.Test.YtmlkgbfaamdapaaDoorSx
namespace Go.Proofs.YtmlkgbfaamdapaaDoor
open Go.ChangeShapes Go.WideShapes Go.ChangeAt Go.RowKit

theorem blocks_succ : ∀ (j : Nat) (s : St) (l : List Int), blocks (j + 1) s l = (blocks j s l).turn ((l.drop (64 * j)).take 64)
  | 0, s, l => by simp [blocks]
  | j + 1, s, l => by
    rw [blocks, blocks_succ j, blocks, List.drop_drop, show 64 + 64 * j = 64 * (j + 1) by omega]
theorem rng_full (l : List Int) (n : Nat) (h : rng l) : rng (full l n) := by
  intro x hx
  unfold full at hx
  simp only [List.cons_append, List.mem_append, List.mem_cons, List.mem_replicate] at hx
  rcases hx with h1 | rfl | ⟨_, rfl⟩ | h1
  · exact h x h1
  · omega
  · omega
  · obtain ⟨i, hi⟩ := List.getElem?_of_mem h1
    have hi8 : i < 8 := by
      have := (List.getElem?_eq_some_iff.1 hi).1
      rwa [tail8_length] at this
    rw [tail8_at n i hi8] at hi
    injection hi with hi
    rw [← hi]
    omega
/-- a byte of the digest -/
def dbyte (s : List Int) (j : Nat) : Int := s.getD (j / 4) 0 / 2 ^ (24 - 8 * (j % 4)) % 256
/-- i bytes of the digest -/
def digs (s : List Int) (i : Nat) : List Int := (List.range 32).map (fun j => if j < i then dbyte s j else 0)
theorem digs_length (s : List Int) (i : Nat) : (digs s i).length = 32 := by simp [digs]
theorem digs_set (s : List Int) (i : Nat) (_hi : i < 32) : (digs s i).set i (dbyte s i) = digs s (i + 1) := by
  apply List.ext_getElem (by simp [digs])
  intro n h1 h2
  simp only [digs, List.getElem_set, List.getElem_map, List.getElem_range]
  by_cases hn : i = n
  · subst hn; simp
  · rw [if_neg hn]
    by_cases h : n < i
    · rw [if_pos h, if_pos (by omega)]
    · rw [if_neg h, if_neg (by omega)]
theorem digs_all (s : List Int) : digs s 32 = dig s 8 := by
  simp [digs, dig, dbyte, List.range_succ, List.replicate]
structure Su (w : World) (s : St) (c o : Nat) (F : List Int) (wr : World) : Prop where
  below : Below w.heap.size w wr
  res : wr.heap[w.heap.size]? = some (.cells (rowB (zs 32)) 25 (0, 0))
  st : wr.heap[w.heap.size + 1]? = some (.cells (rowN s.list) 48 (0, 0))
  lies : Lies wr c o F
  pos : 0 < F.length
  cne : w.heap.size + 1 < c
section
variable {w wr W : World} {s : St} {c o : Nat} {F : List Int}
theorem Su.next (h : Su w s c o F wr) (hb : Below wr.heap.size wr W) : Su w s c o F W :=
  ⟨h.below.trans (hb.mono h.below.size), (hb.block _ (lt_of_row h.res)).trans h.res, (hb.block _ (lt_of_row h.st)).trans h.st, fun i hi => (hb.cell (block_lt_of_cell (h.lies i hi))).trans (h.lies i hi), h.pos, h.cne⟩
theorem Su.drew (h : Su w s c o F wr) : Su w s c o F wr.drew := h.next (Below.refl _ _).drew
theorem Su.store (h : Su w s c o F wr) (x : St) : Su w x c o F (wr.setRow (w.heap.size + 1) (rowN x.list)) := by
  have h1 := h.cne
  refine ⟨below_setRow h.below (by omega) _, ?_, setRow_heap _ _ _ _ _ _ h.st, fun i hi => ?_, h.pos, h1⟩
  · rw [setRow_other _ _ _ _ (by omega)]; exact h.res
  · have hg : wr.heap[c]? = (wr.setRow (w.heap.size + 1) (rowN x.list)).heap[c]? := (setRow_other _ _ _ _ (by omega)).symm
    rw [← h.lies i hi]
    exact World.cell?_of_block hg.symm
end
/-- the world while the digest is written -/
structure Sv (w : World) (s : St) (g : Nat) (l : List Int) (wr : World) : Prop where
  below : Below w.heap.size w wr
  res : wr.heap[w.heap.size]? = some (.cells (rowB (zs 32)) 25 (0, 0))
  st : wr.heap[w.heap.size + 1]? = some (.cells (rowN s.list) 48 (0, 0))
  ge : w.heap.size + 1 < g
  row : wr.heap[g]? = some (.cells (rowB l) 25 (0, 0))
section
variable {w wr W : World} {s : St} {g : Nat} {l : List Int}
theorem Sv.next (h : Sv w s g l wr) (hb : Below wr.heap.size wr W) : Sv w s g l W :=
  ⟨h.below.trans (hb.mono h.below.size), (hb.block _ (lt_of_row h.res)).trans h.res, (hb.block _ (lt_of_row h.st)).trans h.st, h.ge, (hb.block _ (lt_of_row h.row)).trans h.row⟩
theorem Sv.drew (h : Sv w s g l wr) : Sv w s g l wr.drew := h.next (Below.refl _ _).drew
theorem Sv.put (h : Sv w s g l wr) (i : Nat) (x : Int) : Sv w s g (l.set i x) (wr.setCell ⟨g, i, none⟩ (.int .u8 x)) := by
  have h1 := h.ge
  refine ⟨h.below.setCell (by simp only; omega) _, ?_, ?_, h1, ?_⟩
  · rw [heap_setCell_other _ _ _ _ (by simp only; omega)]; exact h.res
  · rw [heap_setCell_other _ _ _ _ (by simp only; omega)]; exact h.st
  · rw [heap_setCell_same _ _ _ _ _ _ h.row, rowB_set]
theorem Sv.cell (h : Sv w s g l wr) (i : Nat) (hi : i < l.length) : wr.cell? ⟨g, i, none⟩ = some (.int .u8 (l.getD i 0)) := by
  rw [cell_of_row _ _ _ _ _ _ h.row, rowB_get _ _ hi]
theorem Sv.scell (h : Sv w s g l wr) (i : Nat) (hi : i < 8) : wr.cell? ⟨w.heap.size + 1, i, none⟩ = some (.int .i64 (s.list.getD i 0)) := by
  rw [cell_of_row _ _ _ _ _ _ h.st, rowN_get _ _ hi]
theorem Sv.free (h : Sv w s g l wr) (i : Nat) : wr.frozen? ⟨g, i, none⟩ = false := frozen_of_row _ _ _ _ _ h.row
end
theorem run_chunk (c o L cap k : Nat) (h1 : k + 64 ≤ L) (h2 : L ≤ cap) (w : World) : (Instr.slice 22 (.slice (some ⟨c, o, none⟩) L cap) (some (.int .i64 (k : Int))) (some (.int .i64 ((k + 64 : Nat) : Int))) none).run Tryd.prog w = .ok (.slice (some ⟨c, o + k, none⟩) 64 (cap - k)) w := by
  have hadd : (⟨c, o, none⟩ : Addr).add k = ⟨c, o + k, none⟩ := by unfold Addr.add; split <;> simp_all
  cases hq : Tryd.prog.info? 5 with
  | none => have := size5; simp [hq] at this
  | some i =>
    have hi : i.size = 1 := by have := size5; simpa [hq] using this
    have e1 : ((k + 64 : Nat) : Int) ≤ (cap : Int) := by omega
    have e2 : (0 : Int) ≤ ((k + 64 : Nat) : Int) := by omega
    have e3 : ((k + 64 : Nat) : Int).toNat = k + 64 := by omega
    have e4 : ¬ cap = k := by omega
    simp only [Instr.slice, run_underlying Tryd.underlying22, Instr.sliceBounds, Instr.sliceBound, asIntOf, sizeOf, typeInfo, Sem.run_bind, Result.andThen_ok, Sem.run_pure, Sem.run_ite, e1, e2, and_self, if_true, e3]
    simp [hq, hi, hadd, e4]
    intro h
    exact absurd h (by omega)
theorem exec_cut2 {a : Act} {o : Oper} {W : World} (x y z : Operand) (ho : o.op = .slice 22 x (some y) (some z) none) (u : Value) (hr : (Instr.slice 22 (a.eval x) (some (a.eval y)) (some (a.eval z)) none).run Tryd.prog W = .ok u W) : (execOp a.eval o).run Tryd.prog W = .ok (.value u) W := by
  unfold execOp
  simp [ho, Instr.sliceAt, run_underlying Tryd.underlying22, hr]
end Go.Proofs.YtmlkgbfaamdapaaDoor
