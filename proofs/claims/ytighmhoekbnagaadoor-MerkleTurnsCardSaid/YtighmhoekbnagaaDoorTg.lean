import Derived.Test.YtighmhoekbnagaaDoorTf
namespace Go.Proofs.YtighmhoekbnagaaDoor
open Go.ChangeShapes Go.WideShapes Go.ChangeAt Go.RowKit

/-! ### New -/
theorem infoDS : (Tryd.prog.info? 33).map (fun i => (i.zero, i.size, i.bytes)) = some (some (.slice none 0 0), 1, 24) := by kernel_rfl
theorem zeroS : (Value.slice none 0 0).cells = #[.slice none 0 0] := rfl
theorem made_one (z : Value) (n : Nat) : madeCells #[z] n = (List.replicate n z).toArray := by
  unfold madeCells
  apply Array.ext
  · simp
  · intro i h1 h2
    simp [Nat.mod_one]
/-- make([][]byte, n) -/
theorem wpList_makeP {w : World} {ops : Array Oper} {rest : List Oper} {o : Oper} {a : Act} {Q : Exit → Act → World → Prop} (hgd : o.guard = none) (s x : Operand) (ho : o.op = .makeSlice 22 s x) (c : Nat) (hs : a.eval s = .int .i64 (c : Int)) (hx : a.eval x = .int .i64 (c : Int)) (hc : c ≤ 1000)
    (h : wpList Tryd.prog ops Q rest (a.put o.dst (.slice (some ⟨w.heap.size, 0, none⟩) c c)) (w.alloc (.cells (List.replicate c (.slice none 0 0)).toArray 28))) : wpList Tryd.prog ops Q (o :: rest) a w := by
  obtain ⟨i0, hi, hz0, hz1, hz2⟩ := info_parts info28
  have hb : (i0.bytes : Int) * (c : Int) ≤ 281474976710656 := by rw [hz2]; omega
  have hrun := run_makeSlice (P := Tryd.prog) w 22 28 i0 _ Tryd.underlying22 hi hz0 .i64 .i64 (c : Int) (c : Int) (by omega) (by omega) (by rw [hz1]; simp; omega) hb (by omega)
  rw [hz1] at hrun
  simp only [Int.toNat_natCast, Nat.mul_one, zeroS, made_one] at hrun
  refine wpList_plain hgd fun K hK => ?_
  unfold Oper.wp
  simp [execOp, ho, hs, hx, hrun, Result.andThen]
  exact hK _ _ (by simpa using h)
/-- what stands in New while leaves are hashed -/
structure NwA (w : World) (ls : List (List Int)) (n i : Nat) (vs : List Value) (W : World) : Prop where
  below : Below w.heap.size w W
  top : W.heap[w.heap.size + 1]? = some (.cells #[.slice (some ⟨w.heap.size, 0, none⟩) n n, .slice none 0 0] 75 (0, 0))
  leaves : W.heap[w.heap.size]? = some (.cells (vs ++ List.replicate (n - i) (Value.slice none 0 0)).toArray 28 (0, 0))
  vlen : vs.length = i
  vpc : ∀ k v, vs[k]? = some v → LfVal W v (ls.getD k [])
  row : RowD W (w.heap.size + 2) ((ls.map leafD).take i ++ List.replicate (n - i) (zs 32))
theorem NwA.later {w W W' : World} {ls : List (List Int)} {n i : Nat} {vs : List Value} (h : NwA w ls n i vs W) (hb : Below W.heap.size W W') : NwA w ls n i vs W' :=
  ⟨h.below.trans (hb.mono h.below.size), (hb.block _ (Array.getElem?_eq_some_iff.1 h.top).1).trans h.top, (hb.block _ (Array.getElem?_eq_some_iff.1 h.leaves).1).trans h.leaves, h.vlen, fun k v hv => (h.vpc k v hv).below hb, h.row.below hb⟩
/-- the slice of a leaf is stored -/
theorem NwA.leaf {w W : World} {ls : List (List Int)} {n i : Nat} {vs : List Value} (h : NwA w ls n i vs W) (hi : i < n) (v : Value) (hv : LfVal W v (ls.getD i [])) :
    let W' := W.setCell ⟨w.heap.size, i, none⟩ v
    Below w.heap.size w W' ∧ W'.heap[w.heap.size + 1]? = some (.cells #[.slice (some ⟨w.heap.size, 0, none⟩) n n, .slice none 0 0] 75 (0, 0)) ∧ W'.heap[w.heap.size]? = some (.cells ((vs ++ [v]) ++ List.replicate (n - (i + 1)) (Value.slice none 0 0)).toArray 28 (0, 0)) ∧
      (∀ k u, (vs ++ [v])[k]? = some u → LfVal W' u (ls.getD k [])) ∧ RowD W' (w.heap.size + 2) ((ls.map leafD).take i ++ List.replicate (n - i) (zs 32)) := by
  intro W'
  have hk : ∀ b, b ≠ w.heap.size → W'.heap[b]? = W.heap[b]? := fun b hb => by
    show (W.setCell ⟨w.heap.size, i, none⟩ v).heap[b]? = _
    simp [World.setCell, Array.getElem?_modify, Ne.symm hb]
  have hl : ∀ {u : Value} {l : List Int}, LfVal W u l → LfVal W' u l := fun hu => hu.kept fun c C fr hc => hk c (fun e => by rw [e, h.leaves] at hc; cases hc)
  refine ⟨h.below.setCell (Nat.le_refl _) v, (hk _ (by omega)).trans h.top, ?_, fun k u hu => ?_, h.row.kept (hk _ (by omega))⟩
  · have h1 := setCell_heap (o := i) h.leaves v
    obtain ⟨m, hm⟩ : ∃ m, n - i = m + 1 := ⟨n - i - 1, by omega⟩
    rw [h1, show n - (i + 1) = m by omega, hm]
    congr 2
    rw [List.setIfInBounds_toArray, List.set_append_right _ _ (by rw [h.vlen]; exact Nat.le_refl _), h.vlen, Nat.sub_self, List.replicate_succ, List.set_cons_zero, List.append_assoc]
    rfl
  · by_cases hki : k < i
    · rw [List.getElem?_append_left (by rw [h.vlen]; exact hki)] at hu
      exact hl (h.vpc k u hu)
    · have : k < (vs ++ [v]).length := (List.getElem?_eq_some_iff.1 hu).1
      rw [List.length_append, h.vlen, List.length_singleton] at this
      obtain rfl : k = i := by omega
      rw [List.getElem?_append_right (by rw [h.vlen]; exact Nat.le_refl _), h.vlen, Nat.sub_self] at hu
      simp at hu
      subst hu
      exact hl hv
/-- what the drawn region of New tells -/
def nwP (l : List Int) (p : Nat) (X : List Value) (j : Nat) (w : World) (v : Value) : Prop := if j = p then LfVal w v l else v = X.getD j undef
theorem nwP_le {l : List Int} {p : Nat} {X : List Value} (j : Nat) (w w' : World) (v : Value) (hb : Below w.heap.size w w') (h : nwP l p X j w v) : nwP l p X j w' v := by
  unfold nwP at *
  split
  · rename_i hj; rw [if_pos hj] at h; exact h.below hb
  · rename_i hj; rw [if_neg hj] at h; exact h
theorem nwP_v {l : List Int} {p : Nat} {X : List Value} (j : Nat) (w : World) (v : Value) (h : nwP l p X j w v) : j = p ∨ v = X.getD j undef := by
  unfold nwP at h
  split at h
  · exact .inl ‹_›
  · exact .inr h
theorem nw_eq {p : Nat} {X : List Value} {j : Nat} {v : Value} (h : j = p ∨ v = X.getD j undef) (h1 : j ≠ p) : v = X.getD j undef := h.resolve_left h1
theorem cfClone (vs : Array Value) (W : World) : (callFunc 42 vs).run Tryd.prog W = .ok (.enter 42 vs) W := cf Tryd.func42 (by kernel_rfl) (by kernel_rfl) vs W
theorem exec_pcT {a : Act} {o : Oper} {W : World} (x y : Operand) (ho : o.op = .indexAddr 22 x y) (c n cap i : Nat) (hx : a.eval x = .slice (some ⟨c, 0, none⟩) n cap) (hy : a.eval y = .int .i64 (i : Int)) (hi : i < n) : (execOp a.eval o).run Tryd.prog W = .ok (.value (.pointer (some ⟨c, i, none⟩))) W := by
  have hadd := add_plain c 0 i
  rw [Nat.zero_add] at hadd
  cases hq : Tryd.prog.info? 28 with
  | none => have := size28; simp [hq] at this
  | some j =>
    have hj : j.size = 1 := by have := size28; simpa [hq] using this
    unfold execOp
    simp [ho, hx, hy, Instr.indexAt, asIntOf, run_underlying Tryd.underlying22, sizeOf, typeInfo, hq, hj, hi, hadd]
theorem run_placeT (a : Addr) (f : Field) {t : TypeId} {z : Nat} (hz : (Tryd.prog.info? t).map (·.size) = some (z + 1)) (ht : f.type = t) (W : World) : (fieldPlace a f).run Tryd.prog W = .ok (a.add f.offset) W := by
  subst ht
  cases hq : Tryd.prog.info? f.type with
  | none => simp [hq] at hz
  | some i =>
    have hi : i.size = z + 1 := by simpa [hq] using hz
    simp [fieldPlace, sizeOf, typeInfo, hq, hi]
theorem sizePS : (Tryd.prog.info? 22).map (·.size) = some 1 := by kernel_rfl
theorem sizeDDS : (Tryd.prog.info? 73).map (·.size) = some 1 := by kernel_rfl
set_option maxRecDepth 100000 in
theorem exec_tree0 {a : Act} {o : Oper} {W : World} (x : Operand) (ho : o.op = .fieldAddr 75 x 0) (g : Nat) (hx : a.eval x = .pointer (some ⟨g, 0, none⟩)) : (execOp a.eval o).run Tryd.prog W = .ok (.value (.pointer (some ⟨g, 0, none⟩))) W := by
  unfold execOp
  simp [ho, hx, Instr.fieldAt, run_underlying Tryd.underlying75, Instr.sureAddr, run_placeT _ _ sizePS, add_plain]
set_option maxRecDepth 100000 in
theorem exec_tree1 {a : Act} {o : Oper} {W : World} (x : Operand) (ho : o.op = .fieldAddr 75 x 1) (g : Nat) (hx : a.eval x = .pointer (some ⟨g, 0, none⟩)) : (execOp a.eval o).run Tryd.prog W = .ok (.value (.pointer (some ⟨g, 1, none⟩))) W := by
  unfold execOp
  simp [ho, hx, Instr.fieldAt, run_underlying Tryd.underlying75, Instr.sureAddr, run_placeT _ _ sizeDDS, add_plain]
theorem exec_nil {a : Act} {o : Oper} {W : World} (x : Operand) (ho : o.op = .nilCheck x) (p : Addr) (hx : a.eval x = .pointer (some p)) : (execOp a.eval o).run Tryd.prog W = .ok (.value (.pointer (some p))) W := by
  unfold execOp
  simp only [ho, hx]
  rfl
theorem rws_nil (nd : List Int → List Int → List Int) : ∀ h, rws nd [] h = []
  | 0 => rfl
  | h + 1 => by rw [rws_succ, rws_nil nd h]; rfl
theorem rowsD_le (ls : List (List Int)) : ∀ h, (rowsD ls h).length ≤ ls.length
  | 0 => by unfold rowsD rws; rw [List.length_map]; exact Nat.le_refl _
  | h + 1 => by
    have ih := rowsD_le ls h
    have e : rowsD ls (h + 1) = above nodeD (rowsD ls h) := rfl
    rw [e, above_len]
    omega
theorem rowsD_high (ls : List (List Int)) (h : Nat) (h1 : 1 < (rowsD ls h).length) (h2 : ls.length ≤ 256) : h ≤ 7 := by
  have hne : ls.map leafD ≠ [] := by
    intro e
    unfold rowsD at h1
    rw [e, rws_nil] at h1
    simp at h1
  unfold rowsD at h1
  rw [rws_len nodeD _ hne, List.length_map] at h1
  rcases Nat.lt_or_ge 7 h with h3 | h3
  · have hp := Nat.pow_le_pow_right (n := 2) (by omega) (show 8 ≤ h by omega)
    have h4 : (ls.length - 1) / 2 ^ h = 0 := Nat.div_eq_of_lt (by omega)
    omega
  · exact h3
/-- a row's slice -/
def rowS (ls : List (List Int)) (rbs : Nat → Nat) (h : Nat) : Value := .slice (some ⟨rbs h, 0, none⟩) (rowsD ls h).length (rowsD ls h).length
/-- what stands in New while rows are appended -/
structure NwB (w : World) (ls : List (List Int)) (n k : Nat) (v : Value) (rbs : Nat → Nat) (vs : List Value) (W : World) : Prop where
  below : Below w.heap.size w W
  top : W.heap[w.heap.size + 1]? = some (.cells #[.slice (some ⟨w.heap.size, 0, none⟩) n n, v] 75 (0, 0))
  leaves : W.heap[w.heap.size]? = some (.cells vs.toArray 28 (0, 0))
  vlen : vs.length = n
  vpc : ∀ k v, vs[k]? = some v → LfVal W v (ls.getD k [])
  own : W.ownsRow (w.heap.size + 3) 33 1 v k ((List.range k).map (rowS ls rbs))
  rows : ∀ h, h < k → RowD W (rbs h) (rowsD ls h)
  inj : ∀ h h', h < k → h' < k → rbs h = rbs h' → h = h'
  past : ∀ h, h < k → w.heap.size ≤ rbs h
  more : ∀ h, h + 1 < k → 1 < (rowsD ls h).length
theorem NwB.later {w W W' : World} {ls : List (List Int)} {n k : Nat} {v : Value} {rbs : Nat → Nat} {vs : List Value} (h : NwB w ls n k v rbs vs W) (hb : Below W.heap.size W W') : NwB w ls n k v rbs vs W' :=
  ⟨h.below.trans (hb.mono h.below.size), (hb.block _ (Array.getElem?_eq_some_iff.1 h.top).1).trans h.top, (hb.block _ (Array.getElem?_eq_some_iff.1 h.leaves).1).trans h.leaves, h.vlen, fun k v hv => (h.vpc k v hv).below hb, owns_below h.own hb, fun k hk => (h.rows k hk).below hb, h.inj, h.past, h.more⟩
theorem NwB.step {w W W9 : World} {ls : List (List Int)} {n k : Nat} {v v' : Value} {rbs : Nat → Nat} {vs : List Value} {tmp : Obj} (h : NwB w ls n k v rbs vs W) (b' : Nat) (hr : RowD W b' (rowsD ls k)) (hne : ∀ x, x < k → rbs x ≠ b') (hp : w.heap.size ≤ b') (hmore : ∀ x, x + 1 = k → 1 < (rowsD ls x).length)
    (ho : W9.ownsRow (w.heap.size + 3) 33 1 v' (k + 1) ((List.range k).map (rowS ls rbs) ++ [.slice (some ⟨b', 0, none⟩) (rowsD ls k).length (rowsD ls k).length])) (hg : (W.alloc tmp).grownBy W9 v.ownBlock) :
    NwB w ls n (k + 1) v' (fun x => if x = k then b' else rbs x) vs (W9.setCell ⟨w.heap.size + 1, 1, none⟩ v') := by
  have hal : ∀ b, b < W.heap.size → (W.alloc tmp).heap[b]? = W.heap[b]? := fun b hb => Below.heap_alloc _ _ _ hb
  have hob : ∀ {b : Nat} {C : Array Value} {t : TypeId} {fr : Nat × Nat}, W.heap[b]? = some (.cells C t fr) → t ≠ 33 → W9.heap[b]? = W.heap[b]? := by
    intro b C t fr hb ht
    have hlt := (Array.getElem?_eq_some_iff.1 hb).1
    rw [hg.block b (by rw [World.size_alloc]; omega) (fun e => ?_), hal b hlt]
    rcases h.own.2 with ⟨e1, _⟩ | ⟨g, cap, cur, e1, _, hgb, _⟩
    · rw [e1] at e; cases e
    · rw [e1] at e
      cases e
      rw [hgb] at hb
      cases hb
      exact ht rfl
  have hsc : ∀ b, b ≠ w.heap.size + 1 → (W9.setCell ⟨w.heap.size + 1, 1, none⟩ v').heap[b]? = W9.heap[b]? := fun b hb => by
    simp [World.setCell, Array.getElem?_modify, Ne.symm hb]
  have hkp : ∀ {b : Nat} {C : Array Value} {t : TypeId} {fr : Nat × Nat}, W.heap[b]? = some (.cells C t fr) → t ≠ 33 → b ≠ w.heap.size + 1 → (W9.setCell ⟨w.heap.size + 1, 1, none⟩ v').heap[b]? = W.heap[b]? := fun hb ht hn => (hsc _ hn).trans (hob hb ht)
  have hrow : ∀ {b : Nat} {ds : List (List Int)}, RowD W b ds → RowD (W9.setCell ⟨w.heap.size + 1, 1, none⟩ v') b ds := fun hd => by
    obtain ⟨C, hc, _⟩ := id hd.ty
    refine hd.kept (hkp hc (by decide) (fun e => ?_))
    rw [e, h.top] at hc
    cases hc
  have t9 := (hob h.top (by decide)).trans h.top
  have hB9 : Below w.heap.size w W9 := by
    refine (h.below.alloc h.below.size tmp).trans (Below.ofGrown hg (by have := h.below.size; rw [World.size_alloc]; omega) (fun j e => ?_))
    have := (h.own.lt j e).1
    omega
  refine ⟨hB9.setCell (by simp) _, ?_, (hkp h.leaves (by decide) (by omega)).trans h.leaves, h.vlen, fun j u hu => (h.vpc j u hu).kept fun c C fr hc => hkp hc (by decide) (fun e => by rw [e, h.top] at hc; cases hc), ?_, fun x hx => ?_, fun x y hx hy he => ?_, fun x hx => ?_, fun x hx => ?_⟩
  · rw [setCell_heap t9]
    rfl
  · have e1 : (List.range (k + 1)).map (rowS ls fun x => if x = k then b' else rbs x) = (List.range k).map (rowS ls rbs) ++ [.slice (some ⟨b', 0, none⟩) (rowsD ls k).length (rowsD ls k).length] := by
      rw [List.range_succ, List.map_append, List.map_cons, List.map_nil]
      congr 1
      · apply List.map_congr_left
        intro x hx
        have := List.mem_range.1 hx
        simp only [rowS]
        rw [if_neg (by omega)]
      · simp only [rowS]
        rw [if_pos trivial]
    rw [e1]
    refine ⟨ho.1, ?_⟩
    rcases ho.2 with h1 | ⟨g, cap, cur, e2, hb, hgb, rest⟩
    · exact .inl h1
    · exact .inr ⟨g, cap, cur, e2, hb, (hsc g (by omega)).trans hgb, rest⟩
  · by_cases hxk : x = k
    · subst hxk
      rw [if_pos rfl]
      exact hrow hr
    · rw [if_neg hxk]
      exact hrow (h.rows x (by omega))
  · by_cases hxk : x = k
    · by_cases hyk : y = k
      · omega
      · rw [if_pos hxk, if_neg hyk] at he
        exact absurd he.symm (hne y (by omega))
    · by_cases hyk : y = k
      · rw [if_neg hxk, if_pos hyk] at he
        exact absurd he (hne x (by omega))
      · rw [if_neg hxk, if_neg hyk] at he
        exact h.inj x y (by omega) (by omega) he
  · by_cases hxk : x = k
    · rw [if_pos hxk]; exact hp
    · rw [if_neg hxk]; exact h.past x (by omega)
  · by_cases hxk : x + 1 = k
    · exact hmore x hxk
    · exact h.more x (by omega)
theorem NwB.top9 {w W W9 : World} {ls : List (List Int)} {n k : Nat} {v : Value} {rbs : Nat → Nat} {vs : List Value} {tmp : Obj} (h : NwB w ls n k v rbs vs W) (hg : (W.alloc tmp).grownBy W9 v.ownBlock) : W9.heap[w.heap.size + 1]? = some (.cells #[.slice (some ⟨w.heap.size, 0, none⟩) n n, v] 75 (0, 0)) := by
  have hlt := (Array.getElem?_eq_some_iff.1 h.top).1
  rw [hg.block _ (by rw [World.size_alloc]; omega) (fun e => ?_), Below.heap_alloc _ _ _ hlt]
  · exact h.top
  · have := (h.own.lt _ e.symm).1
    omega
theorem top_cell {W : World} {b : Nat} {x v : Value} (h : W.heap[b]? = some (.cells #[x, v] 75 (0, 0))) : W.cell? ⟨b, 1, none⟩ = some v := by rw [cell_of_row _ _ _ _ _ _ h]; rfl
theorem top_free {W : World} {b : Nat} {x v : Value} (h : W.heap[b]? = some (.cells #[x, v] 75 (0, 0))) : W.frozen? ⟨b, 1, none⟩ = false := by simp [World.frozen?, h]
theorem NwA.first {w W : World} {ls : List (List Int)} {n : Nat} {vs : List Value} (h : NwA w ls n n vs W) (hn : ls.length = n) : NwB w ls n 0 (.slice none 0 0) (fun _ => 0) vs W ∧ RowD W (w.heap.size + 2) (rowsD ls 0) := by
  have e1 : vs ++ List.replicate (n - n) (Value.slice none 0 0) = vs := by simp
  have e2 : (ls.map leafD).take n ++ List.replicate (n - n) (zs 32) = rowsD ls 0 := by
    rw [Nat.sub_self, List.replicate_zero, List.append_nil, List.take_of_length_le (by rw [List.length_map]; omega)]
    rfl
  have h1 := h.leaves
  have h2 := h.row
  rw [e1] at h1
  rw [e2] at h2
  exact ⟨⟨h.below, h.top, h1, h.vlen, h.vpc, World.ownsRow_nil _ _ _ _, fun x hx => absurd hx (by omega), fun x y hx => absurd hx (by omega), fun x hx => absurd hx (by omega), fun x hx => absurd hx (by omega)⟩, h2⟩
theorem NwB.tree {w W : World} {ls : List (List Int)} {n k : Nat} {v : Value} {rbs : Nat → Nat} {vs : List Value} (h : NwB w ls n (k + 1) v rbs vs W) (hn : ls.length = n) (hn2 : n ≤ 256) (hl : (rowsD ls k).length ≤ 1) :
    ∃ Rb Rc, v = .slice (some ⟨Rb, 0, none⟩) (k + 1) Rc ∧ w.heap.size ≤ Rb ∧ TreeP W ls (w.heap.size + 1) w.heap.size Rb Rc k vs rbs := by
  rcases h.own.2 with ⟨_, e⟩ | ⟨g, cap, cur, e1, hb, hgb, hnc, _, hcs, htk⟩
  · omega
  · have ht := h.top
    rw [e1] at ht
    rw [Nat.mul_one] at hcs htk
    refine ⟨g, cap, e1, by omega, ⟨by rw [hn]; exact ht, h.leaves, by rw [h.vlen, hn], h.vpc, ⟨cur, hgb, by omega, fun x hx => ?_⟩, fun x hx => h.rows x (by omega), fun x y hx hy => h.inj x y (by omega) (by omega), hl, by omega, ?_⟩⟩
    · have h3 : (cur.toList.take (k + 1))[x]? = some (rowS ls rbs x) := by
        rw [htk, List.getElem?_map, List.getElem?_range (by omega)]
        rfl
      rw [List.getElem?_take_of_lt (by omega)] at h3
      simpa [rowS] using h3
    · rcases Nat.eq_zero_or_pos k with h0 | h0
      · omega
      · have := rowsD_high ls (k - 1) (h.more (k - 1) (by omega)) (by omega)
        omega
/-- between the two stores of a round -/
structure NwM (w : World) (ls : List (List Int)) (n i : Nat) (vs : List Value) (W : World) : Prop where
  below : Below w.heap.size w W
  top : W.heap[w.heap.size + 1]? = some (.cells #[.slice (some ⟨w.heap.size, 0, none⟩) n n, .slice none 0 0] 75 (0, 0))
  leaves : W.heap[w.heap.size]? = some (.cells (vs ++ List.replicate (n - (i + 1)) (Value.slice none 0 0)).toArray 28 (0, 0))
  vlen : vs.length = i + 1
  vpc : ∀ k v, vs[k]? = some v → LfVal W v (ls.getD k [])
  row : RowD W (w.heap.size + 2) ((ls.map leafD).take i ++ List.replicate (n - i) (zs 32))
theorem NwM.later {w W W' : World} {ls : List (List Int)} {n i : Nat} {vs : List Value} (h : NwM w ls n i vs W) (hb : Below W.heap.size W W') : NwM w ls n i vs W' :=
  ⟨h.below.trans (hb.mono h.below.size), (hb.block _ (Array.getElem?_eq_some_iff.1 h.top).1).trans h.top, (hb.block _ (Array.getElem?_eq_some_iff.1 h.leaves).1).trans h.leaves, h.vlen, fun k v hv => (h.vpc k v hv).below hb, h.row.below hb⟩
theorem NwM.set {w W : World} {ls : List (List Int)} {n i : Nat} {vs : List Value} (h : NwM w ls n i vs W) (hi : i < ((ls.map leafD).take i ++ List.replicate (n - i) (zs 32)).length) (d : List Int) (hd : d.length = 32) :
    Below w.heap.size w (W.setCells (w.heap.size + 2) (32 * i) (d.map (Value.int .u8))) ∧ RowD (W.setCells (w.heap.size + 2) (32 * i) (d.map (Value.int .u8))) (w.heap.size + 2) (((ls.map leafD).take i ++ List.replicate (n - i) (zs 32)).set i d) ∧
      (∀ b, b ≠ w.heap.size + 2 → (W.setCells (w.heap.size + 2) (32 * i) (d.map (Value.int .u8))).heap[b]? = W.heap[b]?) :=
  ⟨belowCells (by omega) _ _ _ h.below, h.row.set i hi d hd, fun b hb => heap_setCells_ne _ _ _ _ hb⟩
theorem NwM.done {w W W' : World} {ls : List (List Int)} {n i : Nat} {vs : List Value} {r : List (List Int)} (h : NwM w ls n i vs W) (h1 : Below w.heap.size w W') (h2 : RowD W' (w.heap.size + 2) r) (h3 : ∀ b, b ≠ w.heap.size + 2 → W'.heap[b]? = W.heap[b]?) (he : r = (ls.map leafD).take (i + 1) ++ List.replicate (n - (i + 1)) (zs 32)) : NwA w ls n (i + 1) vs W' := by
  subst he
  refine ⟨h1, (h3 _ (by omega)).trans h.top, (h3 _ (by omega)).trans h.leaves, h.vlen, fun k v hv => (h.vpc k v hv).kept fun c C fr hc => h3 c (fun e => ?_), h2⟩
  obtain ⟨C', hC', _⟩ := h.row.ty
  rw [e, hC'] at hc
  cases hc
set_option maxRecDepth 100000 in
set_option maxHeartbeats 4000000 in
theorem newT_any (w : World) (sp : Option Addr) (n cap : Nat) (ls : List (List Int)) (hn : ls.length = n) (hP : Pcs w sp cap ls) (he : Env w) (hm : Mild ls) (hs9 : ∀ l ∈ ls, l.length ≤ 900000) :
    Calls Tryd.prog 23 #[.slice sp n cap] w fun e w' => ∃ Rb Rc H vs rb, e = .returned (.pointer (some ⟨w.heap.size + 1, 0, none⟩)) ∧ TreeP w' ls (w.heap.size + 1) w.heap.size Rb Rc H vs rb ∧ (∀ h, h ≤ H → w.heap.size ≤ rb h) ∧ Below w.heap.size w w' := by
  have hn256 : n ≤ 256 := by rw [← hn]; exact hm.many
  have HN := Lib.hid hn
  have HP := Lib.hid hP
  have HE := Lib.hid he
  have HS9 := Lib.hid hs9
  clear hn hP he hm hs9
  go_enter Tryd.func23, Tryd.ntmps23
  go_upto_region 3 with (first
    | (refine wpList_makeP rfl (.tmp 8) (.tmp 8) rfl n rfl rfl (by omega) ?_)
    | (refine wpList_makeD rfl (.tmp 13) (.tmp 13) rfl n rfl rfl (by omega) ?_; intro w1 hr1 hs1 hb1; have HR1 := Lib.hid hr1; have HB1 := Lib.hid hb1; clear hr1 hb1 hs1))
  have hst : NwA w ls n 0 [] w1 := by
    have hb2 : Below w.heap.size w ((w.alloc (.cells (List.replicate n (Value.slice none 0 0)).toArray 28)).alloc (.cells #[.slice (some ⟨w.heap.size, 0, none⟩) n n, .slice none 0 0] 75)) := ((Below.refl _ w).alloc (Nat.le_refl _) _).alloc (by simp) _
    have t1 := heap_alloc_new (w.alloc (.cells (List.replicate n (Value.slice none 0 0)).toArray 28)) (.cells #[.slice (some ⟨w.heap.size, 0, none⟩) n n, .slice none 0 0] 75)
    rw [World.size_alloc] at t1
    have t2 : ((w.alloc (.cells (List.replicate n (Value.slice none 0 0)).toArray 28)).alloc (.cells #[.slice (some ⟨w.heap.size, 0, none⟩) n n, .slice none 0 0] 75)).heap[w.heap.size]? = some (.cells (List.replicate n (Value.slice none 0 0)).toArray 28 (0, 0)) := (Below.heap_alloc _ _ _ (by simp)).trans (heap_alloc_new _ _)
    have hr := HR1.out
    simp only [World.size_alloc, Nat.add_assoc, Nat.reduceAdd] at hr
    exact ⟨hb2.trans (HB1.out.mono (by simp; omega)), (HB1.out.block _ (Array.getElem?_eq_some_iff.1 t1).1).trans t1, (HB1.out.block _ (Array.getElem?_eq_some_iff.1 t2).1).trans t2, rfl, (fun k v hv => by simp at hv), hr⟩
  have HS := Lib.hid hst
  clear hst HR1 HB1
  simp only [Nat.add_assoc, Nat.reduceAdd]
  go_wp2
  go_loopw [17] (fun t wr => ∃ (i : Nat) (vs : List Value), t = .int .i64 i ∧ i ≤ n ∧ NwA w ls n i vs wr) (fun t _ => n - (intOf t).toNat)
  case atStart => exact ⟨0, [], rfl, by omega, HS.out⟩
  case round =>
    clear HS
    obtain ⟨i, vs, rfl, hin, ha⟩ := hrel
    have HA := Lib.hid ha
    clear ha
    by_cases hlt : i < n
    · have d1 : decide ((i : Int) < (n : Int)) = true := decide_eq_true (by omega)
      have d1' : decide (i < n) = true := decide_eq_true (by omega)
      obtain ⟨c, o, s2, c2, hsp, hcell, hby0⟩ := HP.out.at_ i (by rw [HN.out]; exact hlt)
      subst hsp
      have hl9 := HS9.out _ (getD_mem ls i (by rw [HN.out]; exact hlt))
      have HCw := Lib.hid (fun W (hB : Below w.heap.size w W) => ((hB.cell (block_lt_of_cell hcell)).trans hcell : W.cell? ⟨c, o + i, none⟩ = some (.slice s2 (ls.getD i []).length c2)))
      have HBy := Lib.hid (fun W (hB : Below w.heap.size w W) => hby0.below hB)
      obtain ⟨l, hl⟩ : ∃ l, ls.getD i [] = l := ⟨_, rfl⟩
      rw [hl] at HCw HBy hl9
      have HLe := Lib.hid hl
      obtain ⟨m, hmm⟩ : ∃ m, l.length = m := ⟨_, rfl⟩
      rw [hmm] at HCw hl9
      have HM2 := Lib.hid hmm
      have HCl := Lib.hid (fun W (hB : Below w.heap.size w W) => clone_any W s2 m c2 l hmm (HBy.out W hB) hl9)
      have HCe := Lib.hid (fun (vs' : List Value) (h : vs'.length = i) => (by rw [List.getElem?_toArray, List.getElem?_append_right (by omega), h, Nat.sub_self, List.getElem?_replicate, if_pos (by omega)] : (vs' ++ List.replicate (n - i) (Value.slice none 0 0)).toArray[i]? = some (Value.slice none 0 0)))
      have hc1 := HCw.out wr HA.out.below
      clear hcell hby0 hl hmm
      go_upto_region 6 with fail
      have hw : ∀ W, Below wr.heap.size wr W → NwA w ls n i vs W := fun W hb => HA.out.later hb
      refine wp_region_spec (C := fun W => Below wr.heap.size wr W) (Le := fun w w' => Below w.heap.size w w') 8 (fun ix wz v => nwP l 6 [.pointer (some ⟨w.heap.size + 1, 0, none⟩), .pointer (some ⟨w.heap.size + 1, 0, none⟩), .pointer (some ⟨w.heap.size + 1, 0, none⟩), .slice (some ⟨w.heap.size, 0, none⟩) n n, .int .i64 (i : Nat), .slice s2 m c2, undef, .pointer (some ⟨w.heap.size, i, none⟩)] ix wz v) (by kernel_rfl) (by kernel_rfl) ⟨rfl, rfl, rfl, Nat.le_refl _, fun _ _ => rfl⟩ (fun j wa wb v hb h => nwP_le j wa wb v hb h) (fun ix v => ix = 6 ∨ v = ([.pointer (some ⟨w.heap.size + 1, 0, none⟩), .pointer (some ⟨w.heap.size + 1, 0, none⟩), .pointer (some ⟨w.heap.size + 1, 0, none⟩), .slice (some ⟨w.heap.size, 0, none⟩) n n, .int .i64 (i : Nat), .slice s2 m c2, undef, .pointer (some ⟨w.heap.size, i, none⟩)] : List Value).getD ix undef) (fun j wa v h => nwP_v j wa v h) (fun ix => ([.pointer (some ⟨w.heap.size + 1, 0, none⟩), .pointer (some ⟨w.heap.size + 1, 0, none⟩), .pointer (some ⟨w.heap.size + 1, 0, none⟩), .slice (some ⟨w.heap.size, 0, none⟩) n n, .int .i64 (i : Nat), .slice s2 m c2, undef, .pointer (some ⟨w.heap.size, i, none⟩)] : List Value).getD ix undef) (fun _ => .inr rfl) ?_ ?_
      · intro u hu
        have h0 : u 0 = .pointer (some ⟨w.heap.size + 1, 0, none⟩) := nw_eq (hu 0) (by decide)
        have h1 : u 1 = .pointer (some ⟨w.heap.size + 1, 0, none⟩) := nw_eq (hu 1) (by decide)
        have h2 : u 2 = .pointer (some ⟨w.heap.size + 1, 0, none⟩) := nw_eq (hu 2) (by decide)
        have h3 : u 3 = .slice (some ⟨w.heap.size, 0, none⟩) n n := nw_eq (hu 3) (by decide)
        have h4 : u 4 = .int .i64 (i : Nat) := nw_eq (hu 4) (by decide)
        have h5 : u 5 = .slice s2 m c2 := nw_eq (hu 5) (by decide)
        have h7 : u 7 = .pointer (some ⟨w.heap.size, i, none⟩) := nw_eq (hu 7) (by decide)
        clear hu
        simp only [List.take_succ_cons, List.take_zero]
        refine spec_cons (fun W hC hd => ⟨by rfl, ?_⟩) ?_
        · exact gives_val _ W (rfl) ⟨hC, Below.refl _ _, rfl⟩
        simp only [Act.put, List.setIfInBounds_toArray, List.set_cons_succ, List.set_cons_zero, Nat.reduceAdd]
        rw [h0]
        refine spec_cons (fun W hC hd => ⟨by rfl, ?_⟩) ?_
        · exact gives_val _ W (exec_nil (.tmp 22) rfl _ rfl) ⟨hC, Below.refl _ _, rfl⟩
        simp only [Act.put, List.setIfInBounds_toArray, List.set_cons_succ, List.set_cons_zero, Nat.reduceAdd]
        rw [h1]
        refine spec_cons (fun W hC hd => ⟨by rfl, ?_⟩) ?_
        · exact gives_val _ W (exec_tree0 (.tmp 23) rfl _ rfl) ⟨hC, Below.refl _ _, rfl⟩
        simp only [Act.put, List.setIfInBounds_toArray, List.set_cons_succ, List.set_cons_zero, Nat.reduceAdd]
        rw [h2]
        refine spec_cons (fun W hC hd => ⟨by rfl, ?_⟩) ?_
        · exact gives_val _ W (exec_load1 22 (.tmp 24) rfl ⟨w.heap.size + 1, 0, none⟩ rfl _ (by rw [cell_of_row _ _ _ _ _ _ ((hw W hC).top)]; rfl) _ Tryd.underlying22 rfl) ⟨hC, Below.refl _ _, rfl⟩
        simp only [Act.put, List.setIfInBounds_toArray, List.set_cons_succ, List.set_cons_zero, Nat.reduceAdd]
        rw [h3]
        refine spec_cons (fun W hC hd => ⟨by rfl, ?_⟩) ?_
        · exact gives_val _ W (rfl) ⟨hC, Below.refl _ _, rfl⟩
        simp only [Act.put, List.setIfInBounds_toArray, List.set_cons_succ, List.set_cons_zero, Nat.reduceAdd]
        rw [h4]
        refine spec_cons (fun W hC hd => ⟨by rfl, ?_⟩) ?_
        · exact gives_val _ W (rfl) ⟨hC, Below.refl _ _, rfl⟩
        simp only [Act.put, List.setIfInBounds_toArray, List.set_cons_succ, List.set_cons_zero, Nat.reduceAdd]
        rw [h5]
        refine spec_cons (fun W hC hd => ⟨by rfl, ?_⟩) ?_
        · exact gives_call _ _ (exec_call1 42 (.tmp 27) #[28] _ rfl rfl (cfClone _ _)) ((HCl.out W (hw W hC).below).mono fun e W' h => by obtain ⟨v, e1, e2, e3⟩ := h; exact ⟨v, e1, hC.trans (e3.mono hC.size), e3, e2⟩)
        simp only [Act.put, List.setIfInBounds_toArray, List.set_cons_succ, List.set_cons_zero, Nat.reduceAdd]
        refine spec_cons (fun W hC hd => ⟨by rfl, ?_⟩) ?_
        · exact gives_val _ W (exec_pcT (.tmp 25) (.tmp 26) rfl w.heap.size n n i rfl rfl hlt) ⟨hC, Below.refl _ _, rfl⟩
        simp only [Act.put, List.setIfInBounds_toArray, List.set_cons_succ, List.set_cons_zero, Nat.reduceAdd]
        rw [h7]
        exact spec_nil
      · intro u W hu hC hF
        have h0 : u 0 = .pointer (some ⟨w.heap.size + 1, 0, none⟩) := nw_eq (hu 0) (by decide)
        have h1 : u 1 = .pointer (some ⟨w.heap.size + 1, 0, none⟩) := nw_eq (hu 1) (by decide)
        have h2 : u 2 = .pointer (some ⟨w.heap.size + 1, 0, none⟩) := nw_eq (hu 2) (by decide)
        have h3 : u 3 = .slice (some ⟨w.heap.size, 0, none⟩) n n := nw_eq (hu 3) (by decide)
        have h4 : u 4 = .int .i64 (i : Nat) := nw_eq (hu 4) (by decide)
        have h5 : u 5 = .slice s2 m c2 := nw_eq (hu 5) (by decide)
        have h7 : u 7 = .pointer (some ⟨w.heap.size, i, none⟩) := nw_eq (hu 7) (by decide)
        simp only [List.take_succ_cons, List.take_zero, List.drop_succ_cons, List.drop_zero, putAll, Act.put, List.setIfInBounds_toArray, List.set_cons_succ, List.set_cons_zero, Nat.reduceAdd]
        rw [h0, h1, h2, h3, h4, h5, h7]
        have hL : LfVal W (u 6) l := hF 6 (by omega)
        obtain ⟨v, hv⟩ : ∃ v, u 6 = v := ⟨_, rfl⟩
        rw [hv] at hL ⊢
        obtain ⟨s9, k9, e9, hL2⟩ := id hL
        rw [HM2.out] at e9
        subst e9
        clear hL2
        have HA2 := Lib.hid (HA.out.later hC)
        have H3 := Lib.hid ((HA.out.later hC).leaf hlt (.slice s9 m k9) (by rw [HLe.out]; exact hL))
        have hc9 : (W.cell? ⟨w.heap.size, i, none⟩) = some (.slice none 0 0) := by rw [cell_of_row _ _ _ _ _ _ HA2.out.leaves]; exact HCe.out vs HA2.out.vlen
        have hf9 : W.frozen? ⟨w.heap.size, i, none⟩ = false := by simp [World.frozen?, HA2.out.leaves]
        have hby := Lib.hid (fun W' (hB : Below w.heap.size w W') => leaf_any W' s2 m c2 l HM2.out (HBy.out W' hB) (HE.out.below hB) (by omega))
        clear hu hF hv hL hw hC h0 h1 h2 h3 h4 h5 h7 HCl
        go_upto_region 7 with fail
        refine gen_world (Q := fun w => Code.wp _ _ _ _ w) _ (NwM w ls n i (vs ++ [.slice s9 m k9])) ⟨H3.out.1, H3.out.2.1, H3.out.2.2.1, by rw [List.length_append, HA2.out.vlen]; rfl, H3.out.2.2.2.1, H3.out.2.2.2.2⟩ ?_
        intro w4 h4
        have H4 := Lib.hid h4
        clear h4 H3 HA2 hc9 hf9
        have hl32 := leafD_length l
        have HPS := Lib.hid (part_set (ls.map leafD) (zs 32) n i (by rw [List.length_map, HN.out]) hlt)
        have hlen := part_len (ls.map leafD) (zs 32) n i (by rw [List.length_map, HN.out]) (by omega)
        have hge : (ls.map leafD).getD i [] = leafD l := by rw [← HLe.out]; simp [HN.out, hlt]
        rw [hge] at HPS
        obtain ⟨d, hd⟩ : ∃ d, leafD l = d := ⟨_, rfl⟩
        rw [hd] at HPS hl32 hby
        have e0 : 0 + 32 * i = 32 * i := Nat.zero_add _
        have hi := row_dig hl32
        have hsz : (rowB d).size = 32 := by rw [rowB_size, hl32]
        clear hd hge
        go_wp2_with (first
          | (go_at_call 11; refine (hby.out _ H4.out.below).mono ?_; rintro e w5 ⟨rfl, hb5⟩; have H5 := Lib.hid (H4.out.later hb5); clear hb5)
          | (refine wpList_val rfl (.pointer (some ⟨w.heap.size + 2, 0 + 32 * i, none⟩)) (exec_dig_at (.tmp 30) (.tmp 31) rfl (w.heap.size + 2) 0 n n i rfl rfl hlt) ?_)
          | (refine wpList_store_mid rfl 24 (.tmp 34) (.tmp 33) rfl (w.heap.size + 2) (0 + 32 * i) (rowB d) rfl rfl (by rw [e0, hsz]; exact H5.out.row.there i (by rw [hlen]; exact hlt)) hi (rowB_one d) ?_))
        go_roundw
        case rel => exact ⟨i + 1, vs ++ [.slice s9 m k9], by go_num, by omega, by have hz := H5.out.set (by rw [hlen]; exact hlt) d hl32; exact H5.out.done hz.1 hz.2.1 hz.2.2 HPS.out⟩
        case measure => simp [intOf]; omega
    · obtain rfl : i = n := by omega
      have d1 : decide ((i : Int) < (i : Int)) = false := decide_eq_false (by omega)
      have d1' : decide (i < i) = false := decide_eq_false (by omega)
      have hf := HA.out.first HN.out
      have HB := Lib.hid hf.1
      have HR := Lib.hid hf.2
      have hr0 : (rowsD ls 0).length = i := by show (ls.map leafD).length = i; rw [List.length_map, HN.out]
      clear hf HA
      have hcT : wr.cell? ⟨w.heap.size + 1, 1, none⟩ = some (.slice none 0 0) := by rw [cell_of_row _ _ _ _ _ _ HB.out.top]; rfl
      have hbase : w.heap.size + 3 ≤ wr.heap.size := HR.out.lt
      go_upto_region 9 with fail
      have T1 := Lib.hid (Sl.new wr [.slice (some ⟨w.heap.size + 2, 0, none⟩) i i] #[.slice (some ⟨w.heap.size + 2, 0, none⟩) i i] 33 (0, 0) rfl (by simp))
      have T2 := Lib.hid (owns_below HB.out.own ((Below.refl wr.heap.size wr).alloc (Nat.le_refl _) (.cells #[.slice (some ⟨w.heap.size + 2, 0, none⟩) i i] 33)))
      have T3 : ∀ z ∈ [Value.slice (some ⟨w.heap.size + 2, 0, none⟩) i i], z.oneCell' = true := fun z hz => by rcases List.mem_singleton.1 hz with rfl; rfl
      have T5 : w.heap.size + 3 ≤ (wr.alloc (.cells #[.slice (some ⟨w.heap.size + 2, 0, none⟩) i i] 33)).heap.size := by simp; omega
      go_upto_region 10 with (refine wpList_append_sl 73 33 24 (.slice none 0 0) Tryd.underlying73 infoDS rfl (by decide) rfl (.tmp 40) (.tmp 42) rfl (w.heap.size + 3) (.slice none 0 0) 0 1 [] [.slice (some ⟨w.heap.size + 2, 0, none⟩) i i] rfl T2.out (some ⟨wr.heap.size, 0, none⟩) 1 rfl rfl T1.out T3 (by omega) T5 ?_; intro v' w9 hown' hgr; obtain ⟨g', cap', rfl⟩ := ownsRow_succ hown'; have HS9 := Lib.hid (HB.out.step (w.heap.size + 2) HR.out (fun x hx => absurd hx (by omega)) (by omega) (fun x hx => absurd hx (by omega)) (by rw [hr0]; exact hown') hgr); have hc9 := top_cell (HB.out.top9 hgr); have hf9 := top_free (HB.out.top9 hgr); clear hown' hgr)
      clear HB HR T1 T2 T3 T5 hc9 hf9 hcT hbase
      go_loopw [4] (fun r wr => ∃ (k : Nat) (v : Value) (rbs : Nat → Nat) (L : Nat), (rowsD ls k).length = L ∧ r = .slice (some ⟨rbs k, 0, none⟩) L L ∧ NwB w ls i (k + 1) v rbs vs wr) (fun r _ => match r with | .slice _ q _ => q | _ => 0)
      case atStart => exact ⟨0, _, _, i, hr0, rfl, HS9.out⟩
      case round =>
        clear HS9 hr0
        obtain ⟨k, v, rbs, L, hL, rfl, hb⟩ := hrel
        have HB := Lib.hid hb
        have HLL := Lib.hid hL
        have hL256 : L ≤ 256 := by rw [← hL]; exact Nat.le_trans (rowsD_le ls k) (by rw [HN.out]; exact hn256)
        have hbase : w.heap.size + 3 ≤ wr.heap.size := by
          rcases hb.own.2 with ⟨_, e⟩ | ⟨g, cp, cur, _, h1, h2, _⟩
          · omega
          · have := (Array.getElem?_eq_some_iff.1 h2).1; omega
        clear hb hL
        by_cases hlt : 1 < L
        · have d1 : decide ((1 : Int) < (L : Int)) = true := decide_eq_true (by omega)
          have d1' : decide (1 < L) = true := decide_eq_true (by omega)
          have HAb := Lib.hid (above_any wr (rbs k) L ((L + 1) / 2) (rowsD ls k) HLL.out (HB.out.rows k (by omega)) (HE.out.below HB.out.below) hL256 rfl)
          obtain ⟨L2, hL2⟩ : ∃ L2, (L + 1) / 2 = L2 := ⟨_, rfl⟩
          rw [hL2] at HAb
          have hr2 : (rowsD ls (k + 1)).length = L2 := by
            show (above nodeD (rowsD ls k)).length = L2
            rw [above_len, HLL.out, hL2]
          go_wp2_with fail
          refine HAb.out.mono ?_
          rintro e w3 ⟨b', rfl, hb1, hr3, hb3⟩
          have HB3 := Lib.hid (HB.out.later hb3)
          have HR3 : Hid (RowD w3 b' (rowsD ls (k + 1))) := hr3
          have HNE : Hid (∀ x, x < k + 1 → rbs x ≠ b') := fun x hx e => by have := (HB.out.rows x hx).lt; omega
          have hwb := HB.out.below.size
          have hbp : w.heap.size ≤ b' := by omega
          have hbase3 : w.heap.size + 3 ≤ w3.heap.size := Nat.le_trans hbase hb3.size
          clear hb3 hr3
          go_upto_region 12 with fail
          have hcT : w3.cell? ⟨w.heap.size + 1, 1, none⟩ = some v := by rw [cell_of_row _ _ _ _ _ _ HB3.out.top]; rfl
          have T1 := Lib.hid (Sl.new w3 [.slice (some ⟨b', 0, none⟩) L2 L2] #[.slice (some ⟨b', 0, none⟩) L2 L2] 33 (0, 0) rfl (by simp))
          have T2 := Lib.hid (owns_below HB3.out.own ((Below.refl w3.heap.size w3).alloc (Nat.le_refl _) (.cells #[.slice (some ⟨b', 0, none⟩) L2 L2] 33)))
          have T3 : ∀ z ∈ [Value.slice (some ⟨b', 0, none⟩) L2 L2], z.oneCell' = true := fun z hz => by rcases List.mem_singleton.1 hz with rfl; rfl
          have T5 : w.heap.size + 3 ≤ (w3.alloc (.cells #[.slice (some ⟨b', 0, none⟩) L2 L2] 33)).heap.size := by simp; omega
          have T6 : k + 1 + 1 ≤ 1000000 := by
            have := rowsD_high ls k (by rw [HLL.out]; exact hlt) (by rw [HN.out]; exact hn256)
            omega
          have HMo : Hid (∀ x, x + 1 = k + 1 → 1 < (rowsD ls x).length) := (fun x hx => by obtain rfl : x = k := (by omega); rw [HLL.out]; exact hlt)
          go_wp2_with (refine wpList_append_sl 73 33 24 (.slice none 0 0) Tryd.underlying73 infoDS rfl (by decide) rfl (.tmp 55) (.tmp 57) rfl (w.heap.size + 3) v (k + 1) 1 ((List.range (k + 1)).map (rowS ls rbs)) [.slice (some ⟨b', 0, none⟩) L2 L2] rfl T2.out (some ⟨w3.heap.size, 0, none⟩) 1 rfl rfl T1.out T3 T6 T5 ?_; intro v' w9 hown' hgr; obtain ⟨g', cap', rfl⟩ := ownsRow_succ hown'; have HS9 := Lib.hid (HB3.out.step b' HR3.out HNE.out hbp HMo.out (by rw [hr2]; exact hown') hgr); have hc9 := top_cell (HB3.out.top9 hgr); have hf9 := top_free (HB3.out.top9 hgr); clear hown' hgr)
          go_roundw
          case rel => exact ⟨k + 1, _, _, L2, hr2, by rw [if_pos rfl], HS9.out⟩
          case measure => simp; omega
        · have d1 : decide ((1 : Int) < (L : Int)) = false := decide_eq_false (by omega)
          have d1' : decide (1 < L) = false := decide_eq_false (by omega)
          obtain ⟨Rb, Rc, _, _, ht⟩ := HB.out.tree HN.out hn256 (by rw [HLL.out]; omega)
          have HT := Lib.hid ht
          clear ht
          go_wp2
          go_ret
          exact ⟨Rb, Rc, k, vs, rbs, rfl, HT.out, fun x hx => HB.out.past x (by omega), HB.out.below⟩
end Go.Proofs.YtighmhoekbnagaaDoor
