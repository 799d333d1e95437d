import Derived.Test.YtdmgkapclgfljaaWj
namespace Go.Proofs.Ytdmgkapclgfljaa.Wg
set_option maxRecDepth 100000
open Go.ChangeShapes Go.WideShapes Go.ChangeAt Go.RowKit Go.Shelf Go.Proofs.Ytdmgkapclgfljaa.Tn

/-! ### the document's parts -/
/-- a part's cells, as the document's answer has it -/
def partC (b : Bl) : List Value := [.int .i64 (b.k : Int), .int .i64 (b.y : Int), .int .i64 (b.r : Int), .int .i64 (b.c : Int), .bool (!isVec b.k)]
def partsC (l : List Bl) : List Value := l.flatMap partC
theorem partsC_length (l : List Bl) : (partsC l).length = l.length * 5 := by
  induction l with
  | nil => rfl
  | cons b l ih => simp only [partsC, List.flatMap_cons, List.length_append] at ih ⊢; rw [ih]; simp [partC]; omega
theorem partsC_at : ∀ (l : List Bl) (j m : Nat) (b : Bl), l[j]? = some b → m < 5 → (partsC l)[j * 5 + m]? = (partC b)[m]?
  | [], j, m, b, h, _ => by simp at h
  | a :: l, 0, m, b, h, hm => by
    obtain rfl : a = b := by simpa using h
    rw [partsC, List.flatMap_cons, List.getElem?_append_left (by simp [partC]; omega)]
    simp
  | a :: l, j + 1, m, b, h, hm => by
    rw [partsC, List.flatMap_cons, List.getElem?_append_right (by simp [partC]; omega)]
    have e : (j + 1) * 5 + m - (partC a).length = j * 5 + m := by simp [partC]; omega
    rw [e]
    exact partsC_at l j m b (by simpa using h) hm
theorem infoP : (Try.prog.info? 60).map (fun i => (i.zero, i.size, i.bytes)) = some (some (.agg #[.int .i64 0, .int .i64 0, .int .i64 0, .int .i64 0, .bool false]), 5, 40) := by kernel_rfl
theorem sizeP : (Try.prog.info? 60).map (·.size) = some 5 := by kernel_rfl
theorem grown_of' {w w' : World} (hb : Below w.heap.size w w') (row : Option Nat) : w.grownBy w' row := ⟨hb.os, hb.tape, hb.output, hb.size, fun k hk _ => hb.block k hk⟩
/-- a row of parts of one's own, beyond base -/
def PtsR (base : Nat) (v : Value) (l : List Bl) (W : World) : Prop := W.ownsRow base 60 5 v l.length (partsC l) ∧ base ≤ W.heap.size
section
variable {W : World} {ops : Array Oper} {rest : List Oper} {o : Oper} {a : Act} {Q : Exit → Act → World → Prop}
theorem wpList_push_part (hgd : o.guard = none) (s x : Operand) (ho : o.op = .call { callee := .builtin .append, args := #[s, x], argTypes := #[82, 82] }) (base : Nat) (v : Value) (l : List Bl) (b : Bl) (m : Bool) (hm : (!isVec b.k) = m) (hs : a.eval s = v) (hown : PtsR base v l W)
    (hx : a.eval x = .slice (some ⟨W.heap.size, 0, none⟩) 1 1) (hn : l.length ≤ 999999)
    (h : ∀ v' w', PtsR base v' (l ++ [b]) w' → W.grownBy w' v.ownBlock → wpList Try.prog ops Q rest (a.put o.dst v') w') : wpList Try.prog ops Q (o :: rest) a (W.alloc (.cells #[.int .i64 (b.k : Int), .int .i64 (b.y : Int), .int .i64 (b.r : Int), .int .i64 (b.c : Int), .bool m] 60)) := by
  subst hm
  show wpList Try.prog ops Q (o :: rest) a (W.alloc (.cells (partC b).toArray 60))
  have hbase := hown.2
  have hb : Below W.heap.size W (W.alloc (.cells (partC b).toArray 60)) := (Below.refl _ _).alloc (Nat.le_refl _) _
  have ho' := hown.1.kept (row := none) (grown_of' hb none) (by cases v.ownBlock <;> simp)
  obtain ⟨i0, hi, hz0, hz1, hz2⟩ := info_parts infoP
  refine wpList_append_own _ hgd s x 82 ho base 60 i0 _ 5 40 Try.underlying82 hi hz0 hz1 hz2 rfl (by decide) v l.length (partsC l) hs ho' ⟨W.heap.size, 0, none⟩ 1 1 (partC b) hx rfl (fun j u hj => ?_) (fun u hu => ?_) (by unfold maxLen; omega) (by omega) (by simp; omega) ?_
  · rw [Tn.add_plain, Nat.zero_add, cell_of_row _ _ _ _ _ _ (heap_alloc_new _ _)]
    simpa using hj
  · simp [partC] at hu
    rcases hu with rfl | rfl | rfl | rfl | rfl <;> rfl
  · intro v' w' h1 h2 _
    have hsz := h2.size
    simp at hsz
    refine h v' w' ⟨?_, by omega⟩ ⟨h2.os, h2.tape, h2.output, by omega, fun k hk hne => ?_⟩
    · rw [List.length_append, List.length_singleton]
      unfold partsC at h1 ⊢
      rw [List.flatMap_append]
      simpa using h1
    · rw [h2.block k (by simp; omega) hne]
      exact hb.block k hk
end
theorem PtsR.later {base : Nat} {v : Value} {l : List Bl} {W W' : World} (h : PtsR base v l W) (hb : Below W.heap.size W W') : PtsR base v l W' := ⟨h.1.kept (row := none) (grown_of' hb none) (by cases v.ownBlock <;> simp), Nat.le_trans h.2 hb.size⟩
theorem PtsR.below {base : Nat} {v : Value} {l : List Bl} {W w1 : World} (h : PtsR base v l W) (hg : W.grownBy w1 v.ownBlock) : Below base W w1 := ⟨hg.os, hg.tape, hg.output, hg.size, fun k hk => hg.block k (by have := h.2; omega) (fun e => by
  rcases h.1.2 with ⟨rfl, _⟩ | ⟨g, cap, cur, rfl, hb, _⟩
  · simp [Value.ownBlock] at e
  · simp [Value.ownBlock] at e; omega)⟩
/-- the sizes' function -/
structure Zz (w : World) (c : Cfg) (W : World) : Prop where
  below : Below w.heap.size w W
  cf : W.heap[w.heap.size]? = some (.cells c.cells 23 (0, 0))
  res : W.heap[w.heap.size + 1]? = some (.cells #[.int .i64 0, .int .i64 0, .int .i64 0, .int .i64 0, .int .i64 0, .int .i64 0] 27 (0, 0))
theorem Zz.made (w : World) (c : Cfg) : Zz w c ((w.alloc (.cells c.cells 23)).alloc (.cells #[.int .i64 0, .int .i64 0, .int .i64 0, .int .i64 0, .int .i64 0, .int .i64 0] 27)) := by
  refine ⟨((Below.refl _ _).alloc (Nat.le_refl _) _).alloc (by simp) _, ?_, ?_⟩
  · rw [heap_alloc_old _ _ (by simp)]
    exact heap_alloc_new _ _
  · have := heap_alloc_new (w.alloc (.cells c.cells 23)) (.cells #[.int .i64 0, .int .i64 0, .int .i64 0, .int .i64 0, .int .i64 0, .int .i64 0] 27)
    rwa [World.size_alloc] at this
theorem size_sizes : (Try.prog.info? 27).map (·.size) = some 6 := by kernel_rfl
theorem cfg_one (c : Cfg) : c.cells.all (·.oneCell') = true := by
  simp [Cfg.cells]
  exact ⟨rfl, rfl, rfl, rfl, rfl, rfl⟩
set_option maxHeartbeats 4000000 in
theorem sizes_any (w : World) (c : Cfg) : Calls Try.prog 9 #[.agg c.cells] w fun e w' => e = .returned (.agg c.cells) ∧ Below w.heap.size w w' := by
  have HB := Lib.hid (Zz.made w c)
  have HO := Lib.hid (cfg_one c)
  unfold Cfg.cells at HB HO ⊢
  go_enter Try.func9, Try.ntmps9
  go_upto_region 1 with fail
  refine gen_w (Q := fun w => Code.wp _ _ _ _ w) _ (Zz w c) HB.out ?_
  clear HB
  intro W hx
  have HX := Lib.hid hx
  have HR := Lib.hid hx.res
  obtain ⟨c0, c1, c2, c3, c4, c5⟩ := cfg_cells hx.cf
  clear hx
  go_wp2_with (refine wpList_store_row rfl 27 (.tmp 2) (.tmp 15) rfl (w.heap.size + 1) c.cells rfl rfl 27 _ HR.out size_sizes rfl (cfg_one c) ?_)
  (try simp only [Exit.inBlock, Exit.then])
  refine bodyPost_ret (v := .agg c.cells) (results_cell_row Try.results9 _ _ (w.heap.size + 1) 27 c.cells (0, 0) _ rfl (setRow_heap _ _ _ _ _ _ HX.out.res) Try.underlying27 rfl size_sizes) rfl ?_
  exact ⟨rfl, HX.out.below.trans ⟨rfl, rfl, rfl, by simp, fun k hk => setRow_other W _ k _ (by omega)⟩⟩
end Go.Proofs.Ytdmgkapclgfljaa.Wg
