import Derived.Test.YtllaecliaojmjaaDoorBc
namespace Go.Proofs.YtllaecliaojmjaaDoor.Bp
set_option maxRecDepth 100000
open Go.ChangeShapes Go.WideShapes Go.ChangeAt Go.RowKit Go.Proofs.YtllaecliaojmjaaDoor.Tn
open Go.ChangeMaps (setBlock heap_setBlock_same heap_setBlock_other)

/-! ### a coder of the package while it grows -/
/-- the coder's block g, its map's m, the texts' row behind B -/
structure Gw (lo g m B : Nat) (al : List Int) (ps : List (Int × Int)) (T : List (List Int)) (sv : Value) (W : World) : Prop where
  cr : Cr g m al ps sv W
  texts : W.ownsRow B 9 1 sv T.length (T.map strV)
  big : B ≤ W.heap.size
  gB : g < B
  mB : m < B
  gm : g ≠ m
  lg : lo ≤ g
  lm : lo ≤ m
section
variable {W W' : World} {lo g m B : Nat} {al : List Int} {ps : List (Int × Int)} {T : List (List Int)} {sv sv' : Value}
theorem Gw.later (h : Gw lo g m B al ps T sv W) (hb : Below W.heap.size W W') : Gw lo g m B al ps T sv W' :=
  ⟨h.cr.later hb, h.texts.kept (row := none) (grown_of hb none) (by cases sv.ownBlock <;> simp), Nat.le_trans h.big hb.size, h.gB, h.mB, h.gm, h.lg, h.lm⟩
theorem plc_snoc {al : List Int} {x y : Nat} (hx : (x : Int) ∉ al) : plc (al ++ [(x : Int)]) y = if y = x then (al.length : Int) + 1 else plc al y := by
  unfold plc
  by_cases hyx : y = x
  · subst hyx
    rw [if_pos (by simp), if_pos rfl, List.idxOf_append, if_neg hx]
    simp
  · have hne : (y : Int) ≠ (x : Int) := by omega
    rw [if_neg hyx]
    by_cases hy : (y : Int) ∈ al
    · rw [if_pos (by simp [hy]), if_pos hy, List.idxOf_append, if_pos hy]
    · rw [if_neg (by simp [hy, hne]), if_neg hy]
theorem plcs_snoc {al : List Int} {x : Nat} (hx : (x : Int) ∉ al) : plcs (al ++ [(x : Int)]) = (plcs al).set x (.int .i64 ((al.length : Int) + 1)) := by
  apply List.ext_getElem?
  intro i
  by_cases hi : i < 256
  · rw [plcs_at _ hi, plc_snoc hx, List.getElem?_set]
    by_cases hix : i = x
    · subst hix
      rw [if_pos rfl, if_pos rfl, if_pos (by rw [plcs_length]; exact hi)]
    · rw [if_neg hix, if_neg (fun e => hix e.symm), plcs_at _ hi]
  · rw [List.getElem?_eq_none (by rw [plcs_length]; omega), List.getElem?_eq_none (by rw [List.length_set, plcs_length]; omega)]
theorem crow_snoc {al : List Int} {x : Nat} (hx : (x : Int) ∉ al) (hx2 : x < 256) (sv : Value) (m : Nat) : (crow sv al m).setIfInBounds (1 + x) (.int .i64 ((al.length : Int) + 1)) = crow sv (al ++ [(x : Int)]) m := by
  unfold crow
  rw [plcs_snoc hx, List.setIfInBounds_toArray, Nat.add_comm 1 x, List.set_cons_succ, List.set_append_left _ _ (by rw [plcs_length]; exact hx2)]
theorem crow_text (sv sv' : Value) (al : List Int) (m : Nat) : (crow sv al m).setIfInBounds 0 sv' = crow sv' al m := by
  unfold crow
  rw [List.setIfInBounds_toArray, List.set_cons_zero]
/-- a text more: the row of texts has grown, and the coder's cell tells it -/
theorem Gw.push {t : List Int} (h : Gw lo g m B al ps T sv W) (hg : W.grownBy W' sv.ownBlock) (ho : W'.ownsRow B 9 1 sv' (T.length + 1) ((T ++ [t]).map strV)) : Gw lo g m B al ps (T ++ [t]) sv' (W'.setCell ⟨g, 0, none⟩ sv') := by
  have hfar : ∀ k, sv.ownBlock = some k → B ≤ k := fun k hk => (own_block h.texts hk).1
  have hgB := h.gB
  have hmB := h.mB
  have hbig := h.big
  have hgm := h.gm
  have hrow : W'.heap[g]? = some (.cells (crow sv al m) 57 (0, 0)) := (hg.block _ (by omega) (fun e => by have := hfar _ e.symm; omega)).trans h.cr.row
  refine ⟨⟨?_, ?_⟩, ?_, by have := hg.size; simp; omega, h.gB, h.mB, h.gm, h.lg, h.lm⟩
  · rw [heap_setCell_same _ _ _ _ _ _ hrow, crow_text]
  · show (W'.setCell ⟨g, 0, none⟩ sv').heap[m]? = _
    rw [heap_setCell_other _ _ _ _ (fun e => hgm e.symm), hg.block m (by omega) (fun e => by have := hfar _ e.symm; omega)]
    exact h.cr.mp
  · have hgs : W'.grownBy (W'.setCell ⟨g, 0, none⟩ sv') (some g) := ⟨rfl, rfl, rfl, by simp, fun k hk hne => by rw [heap_setCell_other _ _ _ _ (fun e => hne (by rw [e]))]⟩
    rw [List.length_append]
    exact ho.kept hgs (by
      rcases hs : sv'.ownBlock with _ | k
      · exact Or.inl rfl
      · exact Or.inr (fun e => by have := (own_block ho hs).1; cases e; omega))
theorem below_push (h : Gw lo g m B al ps T sv W) (hg : W.grownBy W' sv.ownBlock) : Below lo W (W'.setCell ⟨g, 0, none⟩ sv') := by
  have hlg := h.lg
  have hgB := h.gB
  have hbig := h.big
  refine ⟨hg.os, hg.tape, hg.output, by have := hg.size; simp; omega, fun k hk => ?_⟩
  rw [heap_setCell_other _ _ _ _ (by simp; omega)]
  exact hg.block k (by omega) (fun e => by have := (own_block h.texts e.symm).1; omega)
/-- a byte's place -/
theorem Gw.place {x : Nat} (h : Gw lo g m B al [] T sv W) (hx : (x : Int) ∉ al) (hx2 : x < 256) : Gw lo g m B (al ++ [(x : Int)]) [] T sv (W.setCell ⟨g, 1 + x, none⟩ (.int .i64 ((al.length : Int) + 1))) := by
  have hgs : W.grownBy (W.setCell ⟨g, 1 + x, none⟩ (.int .i64 ((al.length : Int) + 1))) (some g) := ⟨rfl, rfl, rfl, by simp, fun k hk hne => by rw [heap_setCell_other _ _ _ _ (fun e => hne (by rw [e]))]⟩
  refine ⟨⟨?_, ?_⟩, ?_, by have := h.big; simp; omega, h.gB, h.mB, h.gm, h.lg, h.lm⟩
  · rw [heap_setCell_same _ _ _ _ _ _ h.cr.row, crow_snoc hx hx2]
  · show (W.setCell ⟨g, 1 + x, none⟩ (.int .i64 ((al.length : Int) + 1))).heap[m]? = _
    rw [heap_setCell_other _ _ _ _ (fun e => h.gm e.symm)]
    exact h.cr.mp
  · exact h.texts.kept hgs (by
      rcases hs : sv.ownBlock with _ | k
      · exact Or.inl rfl
      · exact Or.inr (fun e => by have := (own_block h.texts hs).1; have := h.gB; cases e; omega))
theorem below_place {x : Nat} {v : Value} (h : Gw lo g m B al ps T sv W) : Below lo W (W.setCell ⟨g, 1 + x, none⟩ v) :=
  ⟨rfl, rfl, rfl, by simp, fun k hk => by rw [heap_setCell_other _ _ _ _ (by have := h.lg; simp; omega)]⟩
/-- a pair's entry -/
theorem Gw.entry (h : Gw lo g m B al ps T sv W) (p : Int × Int) : Gw lo g m B al (ps ++ [p]) T sv (setBlock W m (.map (ents al.length 0 (ps ++ [p])).toArray (ps.length + 1))) := by
  have hgs : W.grownBy (setBlock W m (.map (ents al.length 0 (ps ++ [p])).toArray (ps.length + 1))) (some m) := ⟨rfl, rfl, rfl, by simp [setBlock], fun k hk hne => heap_setBlock_other h.cr.mp _ (fun e => hne (by rw [e]))⟩
  refine ⟨⟨?_, h.cr.mp.put p⟩, ?_, by have := h.big; simp [setBlock]; omega, h.gB, h.mB, h.gm, h.lg, h.lm⟩
  · rw [heap_setBlock_other h.cr.mp _ h.gm]
    exact h.cr.row
  · exact h.texts.kept hgs (by
      rcases hs : sv.ownBlock with _ | k
      · exact Or.inl rfl
      · exact Or.inr (fun e => by have := (own_block h.texts hs).1; have := h.mB; cases e; omega))
theorem below_entry (h : Gw lo g m B al ps T sv W) (o : Obj) : Below lo W (setBlock W m o) :=
  ⟨rfl, rfl, rfl, by simp [setBlock], fun k hk => heap_setBlock_other h.cr.mp _ (by have := h.lm; omega)⟩
end
section
variable {a : Act} {o : Oper} {W : World}
theorem run_cf0 (g : Nat) : (Instr.fieldAt 57 (.pointer (some ⟨g, 0, none⟩)) 0).run Tryd.prog W = .ok (.pointer (some ⟨g, 0, none⟩)) W := by kernel_rfl
theorem run_cf1 (g : Nat) : (Instr.fieldAt 57 (.pointer (some ⟨g, 0, none⟩)) 1).run Tryd.prog W = .ok (.pointer (some ⟨g, 1, none⟩)) W := by kernel_rfl
theorem run_cf2 (g : Nat) : (Instr.fieldAt 57 (.pointer (some ⟨g, 0, none⟩)) 2).run Tryd.prog W = .ok (.pointer (some ⟨g, 257, none⟩)) W := by kernel_rfl
theorem exec_cf0 (x : Operand) (ho : o.op = .fieldAddr 57 x 0) (g : Nat) (hx : a.eval x = .pointer (some ⟨g, 0, none⟩)) : (execOp a.eval o).run Tryd.prog W = .ok (.value (.pointer (some ⟨g, 0, none⟩))) W := by
  unfold execOp
  simp only [ho, hx, Sem.run_bind, run_cf0, Result.andThen_ok, Sem.run_pure]
theorem exec_cf1 (x : Operand) (ho : o.op = .fieldAddr 57 x 1) (g : Nat) (hx : a.eval x = .pointer (some ⟨g, 0, none⟩)) : (execOp a.eval o).run Tryd.prog W = .ok (.value (.pointer (some ⟨g, 1, none⟩))) W := by
  unfold execOp
  simp only [ho, hx, Sem.run_bind, run_cf1, Result.andThen_ok, Sem.run_pure]
theorem exec_cf2 (x : Operand) (ho : o.op = .fieldAddr 57 x 2) (g : Nat) (hx : a.eval x = .pointer (some ⟨g, 0, none⟩)) : (execOp a.eval o).run Tryd.prog W = .ok (.value (.pointer (some ⟨g, 257, none⟩))) W := by
  unfold execOp
  simp only [ho, hx, Sem.run_bind, run_cf2, Result.andThen_ok, Sem.run_pure]
theorem exec_nilc (x : Operand) (ho : o.op = .nilCheck x) (g : Nat) (hx : a.eval x = .pointer (some ⟨g, 0, none⟩)) : (execOp a.eval o).run Tryd.prog W = .ok (.value (.pointer (some ⟨g, 0, none⟩))) W := by
  unfold execOp
  simp only [ho, hx, Sem.run_pure]
end
end Go.Proofs.YtllaecliaojmjaaDoor.Bp
