import Derived.Test.YtllaecliaojmjaaDoorBe
namespace Go.Proofs.YtllaecliaojmjaaDoor.Bp
set_option maxRecDepth 100000
open Go.ChangeShapes Go.WideShapes Go.ChangeAt Go.RowKit Go.Proofs.YtllaecliaojmjaaDoor.Tn

/-! ### the document's New: a coder that grows -/
def pv (p : Int × Int) : List Value := [.int .i64 p.1, .int .i64 p.2]
def pcs (ps : List (Int × Int)) : List Value := ps.flatMap pv
theorem pcs_length : ∀ ps : List (Int × Int), (pcs ps).length = ps.length * 2
  | [] => rfl
  | p :: r => by
    have := pcs_length r
    simp only [pcs, List.flatMap_cons, List.length_append, List.length_cons, pv, List.length_nil] at this ⊢
    omega
theorem pcs_at : ∀ (ps : List (Int × Int)) (k : Nat), k < ps.length → (pcs ps)[k * 2]? = some (.int .i64 (ps.getD k (0, 0)).1) ∧ (pcs ps)[k * 2 + 1]? = some (.int .i64 (ps.getD k (0, 0)).2)
  | [], _, h => by simp at h
  | p :: r, 0, _ => by simp [pcs, pv]
  | p :: r, k + 1, h => by
    have := pcs_at r k (by simpa using h)
    rw [show (k + 1) * 2 = k * 2 + 2 by omega]
    simpa [pcs, pv] using this
theorem info9 : (Tryd.prog.info? 9).map (fun i => (i.zero, i.size, i.bytes)) = some (some (.string ByteArray.empty), 1, 16) := by kernel_rfl
theorem info52 : (Tryd.prog.info? 47).map (fun i => (i.zero, i.size, i.bytes)) = some (some (.agg #[.int .i64 0, .int .i64 0]), 2, 16) := by kernel_rfl
/-- while a coder grows: the result's cell, the coder's block, its texts and its pairs -/
structure Nw (w : World) (n : Nat) (T : List (List Int)) (seen : List (Int × Int)) (sv qv : Value) (W : World) : Prop where
  below : Below w.heap.size w W
  res : W.heap[w.heap.size]? = some (.cells #[.slice none 0 0, .slice none 0 0, .int .i64 0] 36 (0, 0))
  row : W.heap[w.heap.size + 1]? = some (.cells #[sv, qv, .int .i64 (n : Int)] 36 (0, 0))
  texts : W.ownsRow (w.heap.size + 2) 9 1 sv T.length (T.map strV)
  pairs : W.ownsRow (w.heap.size + 2) 47 2 qv seen.length (pcs seen)
section
variable {w W W' : World} {n : Nat} {T : List (List Int)} {seen : List (Int × Int)} {sv qv sv' qv' : Value}
theorem Nw.big (h : Nw w n T seen sv qv W) : w.heap.size + 2 ≤ W.heap.size := (Array.getElem?_eq_some_iff.1 h.row).1
theorem grown_of (hb : Below W.heap.size W W') (row : Option Nat) : W.grownBy W' row := ⟨hb.os, hb.tape, hb.output, hb.size, fun k hk _ => hb.block k hk⟩
theorem Nw.later (h : Nw w n T seen sv qv W) (hb : Below W.heap.size W W') : Nw w n T seen sv qv W' :=
  ⟨h.below.trans (hb.mono h.below.size), (hb.block _ (by have := h.big; omega)).trans h.res, (hb.block _ (by have := h.big; omega)).trans h.row,
    h.texts.kept (row := none) (grown_of hb none) (by cases sv.ownBlock <;> simp), h.pairs.kept (row := none) (grown_of hb none) (by cases qv.ownBlock <;> simp)⟩
theorem Nw.cells (h : Nw w n T seen sv qv W) : W.cell? ⟨w.heap.size + 1, 0, none⟩ = some sv ∧ W.cell? ⟨w.heap.size + 1, 1, none⟩ = some qv ∧ W.cell? ⟨w.heap.size + 1, 2, none⟩ = some (.int .i64 (n : Int)) := by
  refine ⟨?_, ?_, ?_⟩
  · rw [cell_of_row _ _ _ _ _ _ h.row]; rfl
  · rw [cell_of_row _ _ _ _ _ _ h.row]; rfl
  · rw [cell_of_row _ _ _ _ _ _ h.row]; rfl
/-- the block of an owned row stands behind base, and tells its type -/
theorem own_block {base e size n : Nat} {v : Value} {xs : List Value} (h : W.ownsRow base e size v n xs) {k : Nat} (hk : v.ownBlock = some k) : base ≤ k ∧ ∃ cur, W.heap[k]? = some (.cells cur e (0, 0)) := by
  rcases h.2 with ⟨rfl, _⟩ | ⟨g, cap, cur, rfl, hb, hg, _⟩
  · cases hk
  · obtain rfl : g = k := by simpa [Value.ownBlock] using hk
    exact ⟨hb, cur, hg⟩
theorem Nw.apart (h : Nw w n T seen sv qv W) : sv.ownBlock = none ∨ sv.ownBlock ≠ qv.ownBlock := by
  rcases hs : sv.ownBlock with _ | k
  · exact Or.inl rfl
  · right
    intro e
    obtain ⟨_, c1, h1⟩ := own_block h.texts hs
    obtain ⟨_, c2, h2⟩ := own_block h.pairs e.symm
    rw [h1] at h2
    cases h2
theorem Nw.text (h : Nw w n T seen sv qv W) {t : List Int} (hg : W.grownBy W' sv.ownBlock) (ho : W'.ownsRow (w.heap.size + 2) 9 1 sv' (T.length + 1) ((T ++ [t]).map strV)) : Nw w n (T ++ [t]) seen sv' qv (W'.setCell ⟨w.heap.size + 1, 0, none⟩ sv') := by
  have hbg := h.big
  have hfar : ∀ k, sv.ownBlock = some k → w.heap.size + 2 ≤ k := fun k hk => (own_block h.texts hk).1
  have hrow : W'.heap[w.heap.size + 1]? = some (.cells #[sv, qv, .int .i64 (n : Int)] 36 (0, 0)) := (hg.block _ (by omega) (fun e => by have := hfar _ e.symm; omega)).trans h.row
  have hgs : W'.grownBy (W'.setCell ⟨w.heap.size + 1, 0, none⟩ sv') (some (w.heap.size + 1)) := ⟨rfl, rfl, rfl, by simp, fun k hk hne => by rw [heap_setCell_other _ _ _ _ (fun e => hne (by rw [e]))]⟩
  refine ⟨⟨hg.os.trans h.below.os, hg.tape.trans h.below.tape, hg.output.trans h.below.output, by have := h.below.size; have := hg.size; simp; omega, fun k hk => ?_⟩, ?_, ?_, ?_, ?_⟩
  · rw [heap_setCell_other _ _ _ _ (by simp; omega), hg.block k (by omega) (fun e => by have := hfar _ e.symm; omega)]
    exact h.below.block k hk
  · rw [heap_setCell_other _ _ _ _ (by simp), hg.block _ (by omega) (fun e => by have := hfar _ e.symm; omega)]
    exact h.res
  · rw [heap_setCell_same _ _ _ _ _ _ hrow]; rfl
  · rw [List.length_append]
    exact ho.kept hgs (by
      rcases hs : sv'.ownBlock with _ | k
      · exact Or.inl rfl
      · exact Or.inr (fun e => by have := (own_block ho hs).1; cases e; omega))
  · exact (h.pairs.kept hg (by
      rcases h.apart with e | e
      · rw [e]; cases qv.ownBlock <;> simp
      · exact Or.inr (fun e' => e e'.symm))).kept hgs (by
      rcases hs : qv.ownBlock with _ | k
      · exact Or.inl rfl
      · exact Or.inr (fun e => by have := (own_block h.pairs hs).1; cases e; omega))
theorem Nw.pair (h : Nw w n T seen sv qv W) {p : Int × Int} (hg : W.grownBy W' qv.ownBlock) (ho : W'.ownsRow (w.heap.size + 2) 47 2 qv' (seen.length + 1) (pcs (seen ++ [p]))) : Nw w n T (seen ++ [p]) sv qv' (W'.setCell ⟨w.heap.size + 1, 1, none⟩ qv') := by
  have hbg := h.big
  have hfar : ∀ k, qv.ownBlock = some k → w.heap.size + 2 ≤ k := fun k hk => (own_block h.pairs hk).1
  have hrow : W'.heap[w.heap.size + 1]? = some (.cells #[sv, qv, .int .i64 (n : Int)] 36 (0, 0)) := (hg.block _ (by omega) (fun e => by have := hfar _ e.symm; omega)).trans h.row
  have hgs : W'.grownBy (W'.setCell ⟨w.heap.size + 1, 1, none⟩ qv') (some (w.heap.size + 1)) := ⟨rfl, rfl, rfl, by simp, fun k hk hne => by rw [heap_setCell_other _ _ _ _ (fun e => hne (by rw [e]))]⟩
  refine ⟨⟨hg.os.trans h.below.os, hg.tape.trans h.below.tape, hg.output.trans h.below.output, by have := h.below.size; have := hg.size; simp; omega, fun k hk => ?_⟩, ?_, ?_, ?_, ?_⟩
  · rw [heap_setCell_other _ _ _ _ (by simp; omega), hg.block k (by omega) (fun e => by have := hfar _ e.symm; omega)]
    exact h.below.block k hk
  · rw [heap_setCell_other _ _ _ _ (by simp), hg.block _ (by omega) (fun e => by have := hfar _ e.symm; omega)]
    exact h.res
  · rw [heap_setCell_same _ _ _ _ _ _ hrow]; rfl
  · exact (h.texts.kept hg h.apart).kept hgs (by
      rcases hs : sv.ownBlock with _ | k
      · exact Or.inl rfl
      · exact Or.inr (fun e => by have := (own_block h.texts hs).1; cases e; omega))
  · rw [List.length_append]
    exact ho.kept hgs (by
      rcases hs : qv'.ownBlock with _ | k
      · exact Or.inl rfl
      · exact Or.inr (fun e => by have := (own_block ho hs).1; cases e; omega))
theorem grown_trans {W1 W2 W3 : World} {row : Option Nat} (h1 : W1.grownBy W2 row) (h2 : W2.grownBy W3 row) : W1.grownBy W3 row :=
  ⟨h2.os.trans h1.os, h2.tape.trans h1.tape, h2.output.trans h1.output, Nat.le_trans h1.size h2.size, fun k hk hne => (h2.block k (by have := h1.size; omega) hne).trans (h1.block k hk hne)⟩
/-- a value in a slice of its own, behind lo -/
def OneV (lo : Nat) (x : Value) (W : World) (v : Value) : Prop := ∃ b, v = .slice (some ⟨b, 0, none⟩) 1 1 ∧ lo ≤ b ∧ W.cell? ⟨b, 0, none⟩ = some x
theorem OneV.later {lo : Nat} {x v : Value} {W W' : World} (h : OneV lo x W v) (hb : Below W.heap.size W W') : OneV lo x W' v := by
  obtain ⟨b, e, hl, hc⟩ := h
  exact ⟨b, e, hl, (hb.cell (block_lt_of_cell hc)).trans hc⟩
theorem cell_grown {W W' : World} {row : Option Nat} (hg : W.grownBy W' row) {b o : Nat} {x : Value} (hc : W.cell? ⟨b, o, none⟩ = some x) (hne : ∀ k, row = some k → b ≠ k) : W'.cell? ⟨b, o, none⟩ = some x := by
  have hb : W'.heap[b]? = W.heap[b]? := hg.block b (block_lt_of_cell hc) (fun e => hne b e.symm rfl)
  unfold World.cell? at hc ⊢
  simp only [hb] at hc ⊢
  exact hc
theorem OneV.grown {lo : Nat} {x v : Value} {W W' : World} {row : Option Nat} (h : OneV lo x W v) (hg : W.grownBy W' row) (hr : ∀ k, row = some k → k < lo) : OneV lo x W' v := by
  obtain ⟨b, e, hl, hc⟩ := h
  exact ⟨b, e, hl, cell_grown hg hc (fun k hk => by have := hr k hk; omega)⟩
theorem OneV.made {lo : Nat} (x : Value) (W : World) (t : TypeId) (hl : lo ≤ W.heap.size) : OneV lo x (W.alloc (.cells #[x] t)) (.slice (some ⟨W.heap.size, 0, none⟩) 1 1) := ⟨_, rfl, hl, by rw [cell_of_row _ _ _ _ _ _ (heap_alloc_new _ _)]; rfl⟩
theorem exec_slstr {a : Act} {o : Oper} {W : World} (x : Operand) (ho : o.op = .buildSlice 33 1 #[(0, x)]) (t : List Int) (hx : a.eval x = strV t) : (execOp a.eval o).run Tryd.prog W = .ok (.value (.slice (some ⟨W.heap.size, 0, none⟩) 1 1)) (W.alloc (.cells #[strV t] 9)) := by
  obtain ⟨i0, hi, hz0, hz1, hz2⟩ := info_parts info9
  unfold execOp
  have hr := run_buildSlice (P := Tryd.prog) W 33 9 1 #[(0, strV t)] #[strV t] i0 _ Tryd.underlying33 hi hz0 (by rw [hz1]; decide) (by rw [hz1]; decide) (by rw [hz1]; unfold strV; kernel_rfl)
  have e : (#[((0 : Nat), x)].map fun (i, x) => (i, a.eval x)) = #[(0, strV t)] := by simp [hx]
  simp only [ho, e, Sem.run_bind, hr, Result.andThen_ok, Sem.run_pure]
theorem exec_append_str {a : Act} {o : Oper} {W : World} (s x : Operand) (ho : o.op = .call { callee := .builtin .append, args := #[s, x], argTypes := #[33, 33] }) (base : Nat) (v : Value) (n : Nat) (T : List (List Int)) (t : List Int) (hs : a.eval s = v) (hown : W.ownsRow base 9 1 v n (T.map strV)) (b : Nat)
    (hx : a.eval x = .slice (some ⟨b, 0, none⟩) 1 1) (hc : W.cell? ⟨b, 0, none⟩ = some (strV t)) (hn : n ≤ 999999) (hbase : base ≤ W.heap.size) :
    ∃ v' W', (execOp a.eval o).run Tryd.prog W = .ok (.value v') W' ∧ W'.ownsRow base 9 1 v' (n + 1) ((T ++ [t]).map strV) ∧ W.grownBy W' v.ownBlock := by
  obtain ⟨i0, hi, hz0, hz1, hz2⟩ := info_parts info9
  obtain ⟨v', w', hrun, hown', hg, _⟩ := run_append_own (P := Tryd.prog) W base 33 o.type 9 i0 (.string ByteArray.empty) 1 16 Tryd.underlying33 hi hz0 hz1 hz2 rfl (by decide) v n _ hown ⟨b, 0, none⟩ 1 1 [strV t] rfl (fun j u hj => by
      rcases j with _ | j
      · obtain rfl : strV t = u := by simpa using hj
        rw [Tn.add_plain]
        exact hc
      · simp at hj) (fun u hu => by simp at hu; subst hu; rfl)
      (by unfold maxLen; omega) (by omega) hbase
  refine ⟨v', w', ?_, by rw [List.map_append]; exact hown', hg⟩
  simp [execOp, ho, resolve, invoke, builtin, hs, hx, hrun, Result.andThen]
theorem gives_append_str {a : Act} {o : Oper} {W : World} {G : Value → World → Prop} (s x : Operand) (ho : o.op = .call { callee := .builtin .append, args := #[s, x], argTypes := #[33, 33] }) (base : Nat) (v : Value) (n : Nat) (T : List (List Int)) (t : List Int) (hs : a.eval s = v) (hown : W.ownsRow base 9 1 v n (T.map strV)) (b : Nat)
    (hx : a.eval x = .slice (some ⟨b, 0, none⟩) 1 1) (hc : W.cell? ⟨b, 0, none⟩ = some (strV t)) (hn : n ≤ 999999) (hbase : base ≤ W.heap.size) (h : ∀ v' W', W'.ownsRow base 9 1 v' (n + 1) ((T ++ [t]).map strV) → W.grownBy W' v.ownBlock → G v' W') : Gives Tryd.prog o a W G := by
  obtain ⟨v', W', hrun, h1, h2⟩ := exec_append_str s x ho base v n T t hs hown b hx hc hn hbase
  exact Tn.gives_val v' W' hrun (h v' W' h1 h2)
/-- what the operations of the region that appends a byte's text may change: the ninth grows the row -/
def Le12 (row : Option Nat) (k : Nat) (w w' : World) : Prop := (k = 9 → w.grownBy w' row) ∧ (k ≠ 9 → Below w.heap.size w w')
theorem le_b {row : Option Nat} {k : Nat} {W1 W2 : World} (hk : k ≠ 9) (hb : Below W1.heap.size W1 W2) : Le12 row k W1 W2 := ⟨fun h => absurd h hk, fun _ => hb⟩
theorem le_g {row : Option Nat} {W1 W2 : World} (hg : W1.grownBy W2 row) : Le12 row 9 W1 W2 := ⟨fun _ => hg, fun h => absurd rfl h⟩
def neP (base lo : Nat) (str byte : Value) (m : Nat) (xs : List Value) (vals : Nat → Option Value) (j : Nat) (W : World) (v : Value) : Prop :=
  (j = 6 → OneV lo byte W v) ∧ (j = 8 → OneV lo str W v) ∧ (j = 9 → W.ownsRow base 9 1 v m xs) ∧ ∀ z, vals j = some z → v = z
theorem neP_later {row : Option Nat} {base lo m j i : Nat} {str byte v : Value} {xs : List Value} {vals : Nat → Option Value} {W1 W2 : World} (hlo : ∀ k, row = some k → k < lo) (hne : j ≠ i) (hle : Le12 row i W1 W2) (h : neP base lo str byte m xs vals j W1 v) : neP base lo str byte m xs vals j W2 v := by
  have ho : ∀ x, OneV lo x W1 v → OneV lo x W2 v := fun x hx => by
    by_cases hi : i = 9
    · exact hx.grown (hle.1 hi) hlo
    · exact hx.later (hle.2 hi)
  exact ⟨fun e => ho _ (h.1 e), fun e => ho _ (h.2.1 e), fun e => (h.2.2.1 e).kept (row := none) (grown_of (hle.2 (by omega)) none) (by cases v.ownBlock <;> simp), h.2.2.2⟩
def neX (B : Nat) (sv : Value) (ap : Option Addr) (n ca d p k : Nat) (x : Int) : Nat → Option Value
  | 0 => some (.pointer (some ⟨B + 1, 0, none⟩))
  | 1 => some sv
  | 2 => some (.slice ap n ca)
  | 3 => some (.int .i64 (k : Int))
  | 4 => some (.pointer (some ⟨d, p + k, none⟩))
  | 5 => some (.int .u8 x)
  | 7 => some (strV [x])
  | 10 => some (.pointer (some ⟨B + 1, 0, none⟩))
  | _ => none
end
section
variable {W : World} {ops : Array Oper} {rest : List Oper} {o : Oper} {a : Act} {Q : Exit → Act → World → Prop}
theorem wpList_push_str (hgd : o.guard = none) (s x : Operand) (ho : o.op = .call { callee := .builtin .append, args := #[s, x], argTypes := #[33, 33] }) (base : Nat) (v : Value) (n : Nat) (T : List (List Int)) (t : List Int) (hs : a.eval s = v) (hown : W.ownsRow base 9 1 v n (T.map strV))
    (hx : a.eval x = .slice (some ⟨W.heap.size, 0, none⟩) 1 1) (hn : n ≤ 999999) (hbase : base ≤ W.heap.size)
    (h : ∀ v' w', w'.ownsRow base 9 1 v' (n + 1) ((T ++ [t]).map strV) → W.grownBy w' v.ownBlock → wpList Tryd.prog ops Q rest (a.put o.dst v') w') : wpList Tryd.prog ops Q (o :: rest) a (W.alloc (.cells #[strV t] 9)) := by
  have hb : Below W.heap.size W (W.alloc (.cells #[strV t] 9)) := (Below.refl _ _).alloc (Nat.le_refl _) _
  have hsl : Sl (W.alloc (.cells #[strV t] 9)) (some ⟨W.heap.size, 0, none⟩) 1 [strV t] := Sl.new W [strV t] #[strV t] 9 (0, 0) rfl (by simp)
  have ho' := owns_below hown hb
  refine wpList_append_sl 33 9 16 (.string ByteArray.empty) Tryd.underlying33 info9 rfl (by decide) hgd s x ho base v n 1 (T.map strV) [strV t] hs ho' (some ⟨W.heap.size, 0, none⟩) 1 hx rfl hsl (fun v hv => by simp at hv; subst hv; rfl) (by omega) (by simp; omega) ?_
  intro v' w' h1 h2
  refine h v' w' (by rw [List.map_append]; exact h1) ⟨h2.os, h2.tape, h2.output, by have := h2.size; simp at this; omega, fun k hk hne => ?_⟩
  rw [h2.block k (by simp; omega) hne]
  exact hb.block k hk
theorem wpList_push_pair (hgd : o.guard = none) (s x : Operand) (ho : o.op = .call { callee := .builtin .append, args := #[s, x], argTypes := #[34, 34] }) (base : Nat) (v : Value) (n : Nat) (ps : List (Int × Int)) (p : Int × Int) (hs : a.eval s = v) (hown : W.ownsRow base 47 2 v n (pcs ps))
    (hx : a.eval x = .slice (some ⟨W.heap.size, 0, none⟩) 1 1) (hn : n ≤ 999999) (hbase : base ≤ W.heap.size)
    (h : ∀ v' w', w'.ownsRow base 47 2 v' (n + 1) (pcs (ps ++ [p])) → W.grownBy w' v.ownBlock → wpList Tryd.prog ops Q rest (a.put o.dst v') w') : wpList Tryd.prog ops Q (o :: rest) a (W.alloc (.cells #[.int .i64 p.1, .int .i64 p.2] 47)) := by
  have hb : Below W.heap.size W (W.alloc (.cells #[.int .i64 p.1, .int .i64 p.2] 47)) := (Below.refl _ _).alloc (Nat.le_refl _) _
  have ho' := hown.kept (row := none) (grown_of hb none) (by cases v.ownBlock <;> simp)
  obtain ⟨i0, hi, hz0, hz1, hz2⟩ := info_parts info52
  refine wpList_append_own _ hgd s x 34 ho base 47 i0 _ 2 16 Tryd.underlying34 hi hz0 hz1 hz2 rfl (by decide) v n (pcs ps) hs ho' ⟨W.heap.size, 0, none⟩ 1 1 (pv p) hx rfl (fun j u hj => ?_) (fun u hu => ?_) (by unfold maxLen; omega) (by omega) (by simp; omega) ?_
  · rw [Tn.add_plain, Nat.zero_add, cell_of_row _ _ _ _ _ _ (heap_alloc_new _ _)]
    simpa [pv] using hj
  · simp [pv] at hu
    rcases hu with rfl | rfl <;> rfl
  · intro v' w' h1 h2 _
    refine h v' w' (by unfold pcs at h1 ⊢; rw [List.flatMap_append]; simpa using h1) ⟨h2.os, h2.tape, h2.output, by have := h2.size; simp at this; omega, fun k hk hne => ?_⟩
    rw [h2.block k (by simp; omega) hne]
    exact hb.block k hk
end
end Go.Proofs.YtllaecliaojmjaaDoor.Bp
