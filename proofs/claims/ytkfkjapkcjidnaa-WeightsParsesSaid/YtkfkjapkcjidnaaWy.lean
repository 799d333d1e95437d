import Derived.Test.YtkfkjapkcjidnaaWj
-- from Wk
namespace Go.Proofs.Ytkfkjapkcjidnaa.Wg
set_option maxRecDepth 100000
open Go.ChangeShapes Go.WideShapes Go.ChangeAt Go.RowKit Go.Shelf Go.Proofs.Ytkfkjapkcjidnaa.Tn
/-! ### the document's parts -/
/-- a part's cells, as the document's answer has it -/
def partC (b : Bl) : List Value := [.int .i64 (b.k : Int), .int .i64 (b.y : Int), .int .i64 (b.r : Int), .int .i64 (b.c : Int), .bool (!isVec b.k)]
def partsC (l : List Bl) : List Value := l.flatMap partC
theorem grown_of' {w w' : World} (hb : Below w.heap.size w w') (row : Option Nat) : w.grownBy w' row := ⟨hb.os, hb.tape, hb.output, hb.size, fun k hk _ => hb.block k hk⟩
/-- a row of parts of one's own, beyond base -/
def PtsR (base : Nat) (v : Value) (l : List Bl) (W : World) : Prop := W.ownsRow base 61 5 v l.length (partsC l) ∧ base ≤ W.heap.size
section
variable {W : World} {ops : Array Oper} {rest : List Oper} {o : Oper} {a : Act} {Q : Exit → Act → World → Prop}
end
theorem PtsR.later {base : Nat} {v : Value} {l : List Bl} {W W' : World} (h : PtsR base v l W) (hb : Below W.heap.size W W') : PtsR base v l W' := ⟨h.1.kept (row := none) (grown_of' hb none) (by cases v.ownBlock <;> simp), Nat.le_trans h.2 hb.size⟩
theorem PtsR.below {base : Nat} {v : Value} {l : List Bl} {W w1 : World} (h : PtsR base v l W) (hg : W.grownBy w1 v.ownBlock) : Below base W w1 := ⟨hg.os, hg.tape, hg.output, hg.size, fun k hk => hg.block k (by have := h.2; omega) (fun e => by
  rcases h.1.2 with ⟨rfl, _⟩ | ⟨g, cap, cur, rfl, hb, _⟩
  · simp [Value.ownBlock] at e
  · simp [Value.ownBlock] at e; omega)⟩
end Go.Proofs.Ytkfkjapkcjidnaa.Wg
-- from Wl
namespace Go.Proofs.Ytkfkjapkcjidnaa.Wg
set_option maxRecDepth 100000
open Go.ChangeShapes Go.WideShapes Go.ChangeAt Go.RowKit Go.Shelf Go.Proofs.Ytkfkjapkcjidnaa.Tn
end Go.Proofs.Ytkfkjapkcjidnaa.Wg
-- from Wm
namespace Go.Proofs.Ytkfkjapkcjidnaa.Wg
set_option maxRecDepth 100000
open Go.ChangeShapes Go.WideShapes Go.ChangeAt Go.RowKit Go.Shelf Go.Proofs.Ytkfkjapkcjidnaa.Tn
/-! ### the document's Parts -/
structure Pz (w : World) (c : Cfg) (W : World) : Prop where
  below : Below w.heap.size w W
  sz : W.heap[w.heap.size]? = some (.cells c.cells 67 (0, 0))
theorem Pz.later {w : World} {c : Cfg} {W W' : World} (h : Pz w c W) (hb : Below (w.heap.size + 1) W W') : Pz w c W' := ⟨h.below.trans (hb.mono (by omega)), (hb.block _ (by omega)).trans h.sz⟩
theorem PtsR.mono {b b' : Nat} {v : Value} {l : List Bl} {W : World} (h : PtsR b v l W) (hb : b' ≤ b) : PtsR b' v l W := by
  refine ⟨⟨h.1.1, ?_⟩, Nat.le_trans hb h.2⟩
  rcases h.1.2 with h1 | ⟨g, cap, cur, h1, h2, h3⟩
  · exact .inl h1
  · exact .inr ⟨g, cap, cur, h1, by omega, h3⟩
end Go.Proofs.Ytkfkjapkcjidnaa.Wg
-- from Wn
namespace Go.Proofs.Ytkfkjapkcjidnaa.Wg
set_option maxRecDepth 100000
open Go.ChangeShapes Go.WideShapes Go.ChangeAt Go.RowKit Go.Shelf Go.Proofs.Ytkfkjapkcjidnaa.Tn
/-! ### the document's Many and Place -/
/-- parts that lie in a block -/
def PtsAt (g : Nat) (l : List Bl) (W : World) : Prop := ∀ j b, l[j]? = some b → W.cell? ⟨g, j * 5, none⟩ = some (.int .i64 (b.k : Int)) ∧ W.cell? ⟨g, j * 5 + 1, none⟩ = some (.int .i64 (b.y : Int)) ∧ W.cell? ⟨g, j * 5 + 2, none⟩ = some (.int .i64 (b.r : Int)) ∧ W.cell? ⟨g, j * 5 + 3, none⟩ = some (.int .i64 (b.c : Int)) ∧ W.cell? ⟨g, j * 5 + 4, none⟩ = some (.bool (!isVec b.k))
theorem PtsAt.later {g : Nat} {l : List Bl} {W W' : World} (h : PtsAt g l W) (hb : Below W.heap.size W W') : PtsAt g l W' := fun j b hj => by
  obtain ⟨h0, h1, h2, h3, h4⟩ := h j b hj
  exact ⟨(hb.cell (block_lt_of_cell h0)).trans h0, (hb.cell (block_lt_of_cell h1)).trans h1, (hb.cell (block_lt_of_cell h2)).trans h2, (hb.cell (block_lt_of_cell h3)).trans h3, (hb.cell (block_lt_of_cell h4)).trans h4⟩
end Go.Proofs.Ytkfkjapkcjidnaa.Wg
-- from Wo
namespace Go.Proofs.Ytkfkjapkcjidnaa.Wg
set_option maxRecDepth 100000
open Go.ChangeShapes Go.WideShapes Go.ChangeAt Go.RowKit Go.Shelf Go.Proofs.Ytkfkjapkcjidnaa.Tn
/-! ### the chapter's example, and the walk of WeightsSizes -/
theorem many_ex (w : World) : Calls Try.prog 28 #[.agg #[.int .i64 3, .int .i64 2, .int .i64 1, .int .i64 1, .int .i64 4, .int .i64 1]] w fun e w' => e = .returned (.tuple #[.int .i64 22, .int .i64 0]) ∧ Below w.heap.size w w' := by
  have h := many_any w ⟨3, 2, 1, 1, 4, 1⟩
  have e : manyV ⟨3, 2, 1, 1, 4, 1⟩ = #[.int .i64 22, .int .i64 0] := by
    have h1 : (⟨3, 2, 1, 1, 4, 1⟩ : Cfg).chk = 0 := by decide
    have h2 : 1 + rowsB (⟨3, 2, 1, 1, 4, 1⟩ : Cfg).blks = 22 := by decide
    unfold manyV
    rw [if_neg (by rw [h1]; decide), h2]
    rfl
  rw [e] at h
  exact h
theorem place_ex (w : World) : Calls Try.prog 15 #[.agg #[.int .i64 3, .int .i64 2, .int .i64 1, .int .i64 1, .int .i64 4, .int .i64 1], .agg #[.int .i64 3, .int .i64 0, .int .i64 1]] w fun e w' => e = .returned (.tuple #[.int .i64 6, .int .i64 0]) ∧ Below w.heap.size w w' := by
  have h := place_any w ⟨3, 2, 1, 1, 4, 1⟩ 3 0 1
  have e : placeV ⟨3, 2, 1, 1, 4, 1⟩ 3 0 1 = (6, 0) := by decide
  rw [e] at h
  exact h
structure Cx (w : World) (W : World) : Prop where
  below : Below w.heap.size w W
  row : W.heap[w.heap.size]? = some (.cells #[.int .i64 3, .int .i64 2, .int .i64 1, .int .i64 1, .int .i64 4, .int .i64 1] 23 (0, 0))
theorem Cx.later {w W W' : World} (h : Cx w W) (hb : Below W.heap.size W W') : Cx w W' := ⟨h.below.trans (hb.mono h.below.size), (hb.block _ (Array.getElem?_eq_some_iff.1 h.row).1).trans h.row⟩
set_option maxHeartbeats 8000000 in
theorem awake_any (w : World) : Calls Try.prog 8 #[] w fun e w' => e = .returned (.bool true) ∧ Below w.heap.size w w' := by
  have HB : Hid (Cx w (w.alloc (.cells #[.int .i64 3, .int .i64 2, .int .i64 1, .int .i64 1, .int .i64 4, .int .i64 1] 23))) := Lib.hid ⟨(Below.refl _ _).alloc (Nat.le_refl _) _, heap_alloc_new _ _⟩
  go_enter Try.func8, Try.ntmps8
  go_upto_region 2 with fail
  refine gen_w (Q := fun w => Code.wp _ _ _ _ w) _ (Cx w) HB.out ?_
  clear HB
  intro w1 hx
  have HX := Lib.hid hx
  have HR := Lib.hid hx.row
  clear hx
  go_wp2_with (first
    | (refine wpList_load_row rfl 23 (.tmp 1) rfl w.heap.size rfl 23 _ (0, 0) _ HR.out Try.underlying23 rfl size_cfg ?_)
    | (refine wpList_load_row rfl 23 (.tmp 1) rfl w.heap.size rfl 23 _ (0, 0) _ HR2.out Try.underlying23 rfl size_cfg ?_)
    | (refine (many_ex w1).mono ?_; rintro e w2 ⟨rfl, hb2⟩; have HX2 := Lib.hid (HX.out.later hb2); have HR2 := Lib.hid HX2.out.row; clear hb2)
    | (refine (place_ex _).mono ?_; rintro e w3 ⟨rfl, hb3⟩; have HX3 := Lib.hid (HX2.out.later hb3); clear hb3))
  go_ret
  exact ⟨rfl, HX3.out.below⟩
end Go.Proofs.Ytkfkjapkcjidnaa.Wg
