import Derived.Test.YthnlagplkeklmaaNc
namespace Go.Proofs.Ythnlagplkeklmaa.Wg
set_option maxRecDepth 100000
open Go.ChangeShapes Go.WideShapes Go.ChangeAt Go.RowKit Go.Shelf Go.Proofs.Ythnlagplkeklmaa.Tn

/-! ### a row of leaves that grows -/
/-- a piece that no store into a row of pieces (beyond base) reaches: it lies below base, or its block is one of bytes -/
def PcT (base : Nat) (W : World) (u : Value) (l : List Int) : Prop :=
  ∃ sp cap, u = .slice sp l.length cap ∧ Cd.Bytes W sp cap l ∧ ∀ c o, sp = some ⟨c, o, none⟩ → 0 < l.length → c < base ∨ ∃ cs fr, W.heap[c]? = some (.cells cs 5 fr)
section
variable {base : Nat} {W W' : World} {u v : Value} {l : List Int} {ls : List (List Int)}
theorem PcT.over (h : PcT base W u l) {P : Nat → Prop} (hk : ∀ c, (c < base ∨ ∃ cs fr, W.heap[c]? = some (.cells cs 5 fr)) → (∀ o x, W.cell? ⟨c, o, none⟩ = some (.int .u8 x) → P c)) (hP : ∀ c, P c → W'.heap[c]? = W.heap[c]?) : PcT base W' u l := by
  obtain ⟨sp, cap, e, hb, ht⟩ := h
  by_cases h0 : 0 < l.length
  · obtain ⟨c, o, e1, hl⟩ := hb.sl.lies (by simpa using h0)
    have h1 := hl 0 (.int .u8 (l.getD 0 0)) (by simp [h0])
    have hc := hP c (hk c (ht c o e1 h0) _ _ h1)
    refine ⟨sp, cap, e, ⟨⟨hb.sl.le, hb.sl.max, hb.sl.nul, fun _ => ⟨c, o, e1, fun i v hv => ?_⟩⟩, hb.rng⟩, fun c' o' e2 _ => ?_⟩
    · have := hl i v hv
      unfold World.cell? at this ⊢
      simpa only [hc] using this
    · rw [e1] at e2
      cases e2
      rw [hc]
      exact ht c o e1 h0
  · refine ⟨sp, cap, e, ⟨⟨hb.sl.le, hb.sl.max, hb.sl.nul, fun h => absurd h (by simpa using h0)⟩, hb.rng⟩, fun c' o' _ h => absurd h h0⟩
theorem PcT.later (h : PcT base W u l) (hb : Below W.heap.size W W') : PcT base W' u l := h.over (P := fun c => c < W.heap.size) (fun _ _ _ _ hx => block_lt_of_cell hx) (fun c hc => hb.block c hc)
/-- a piece that was there ahead of base -/
theorem PcT.old {sp : Option Addr} {cap : Nat} (h : Cd.Bytes W sp cap l) : PcT W.heap.size W (.slice sp l.length cap) l := ⟨sp, cap, rfl, h, fun c o e h0 => by
  obtain ⟨c', o', e1, hl⟩ := h.sl.lies (by simpa using h0)
  have h1 := hl 0 (.int .u8 (l.getD 0 0)) (by simp [h0])
  rw [e] at e1
  cases e1
  exact Or.inl (block_lt_of_cell h1)⟩
/-- a piece that is a row of bytes of its own -/
theorem PcT.own {b n : Nat} (h : W.ownsRow b 5 1 v n (l.map (Value.int .u8))) (hr : Cd.rng l) : PcT base W v l := by
  obtain ⟨sp, cap, e, hl, hs, _⟩ := Cd.Sl.all1 h
  have hn : l.length = n := by simpa using hl
  refine ⟨sp, cap, by rw [hn]; exact e, ⟨hs, hr⟩, fun c o e1 h0 => Or.inr ?_⟩
  rcases h.2 with ⟨e2, _⟩ | ⟨g, cap2, cur, e2, _, hg, _⟩
  · rw [e2] at e; cases e; cases e1
  · rw [e2] at e
    cases e
    cases e1
    exact ⟨cur, _, hg⟩
/-- a row of leaves, beyond base -/
def LvR (base : Nat) (v : Value) (ls : List (List Int)) (W : World) : Prop :=
  ∃ vs : List Value, W.ownsRow base 24 1 v ls.length vs ∧ vs.length = ls.length ∧ (∀ i u, vs[i]? = some u → PcT base W u (ls.getD i [])) ∧ base ≤ W.heap.size
theorem LvR.later (h : LvR base v ls W) (hb : Below W.heap.size W W') : LvR base v ls W' := by
  obtain ⟨vs, h1, h2, h3, h4⟩ := h
  exact ⟨vs, owns_below h1 hb, h2, fun i u hu => (h3 i u hu).later hb, Nat.le_trans h4 hb.size⟩
theorem LvR.new (W : World) (u : Value) (l : List Int) (hu : PcT W.heap.size W u l) : LvR W.heap.size (.slice (some ⟨W.heap.size, 0, none⟩) 1 1) [l] (W.alloc (.cells #[u] 24)) := by
  have hb : Below W.heap.size W (W.alloc (.cells #[u] 24)) := (Below.refl _ _).alloc (Nat.le_refl _) _
  refine ⟨[u], ⟨rfl, .inr ⟨W.heap.size, 1, #[u], rfl, Nat.le_refl _, heap_alloc_new _ _, Nat.le_refl _, by unfold maxLen; omega, rfl, rfl⟩⟩, rfl, fun i x hx => ?_, hb.size⟩
  rcases i with _ | i
  · simp at hx
    subst hx
    exact hu.later hb
  · simp at hx
/-- what a row's block is -/
theorem LvR.block (h : LvR base v ls W) : v.ownBlock = none ∨ ∃ g cur, v.ownBlock = some g ∧ base ≤ g ∧ W.heap[g]? = some (.cells cur 24 (0, 0)) := by
  obtain ⟨vs, h1, _⟩ := h
  rcases h1.2 with ⟨rfl, _⟩ | ⟨g, cap, cur, rfl, hb, hg, _⟩
  · exact Or.inl rfl
  · exact Or.inr ⟨g, cur, rfl, hb, hg⟩
/-- all blocks but such a row's stay over a step that turns it alone -/
theorem LvR.keeps (h : LvR base v ls W) (hg : W.grownBy W' v.ownBlock) {c : Nat} {o : Obj} (hc : W.heap[c]? = some o) (hne : c < base ∨ ∀ cs fr, o ≠ .cells cs 24 fr) : W'.heap[c]? = some o := by
  have hl := (Array.getElem?_eq_some_iff.1 hc).1
  rcases h.block with hb | ⟨g, cur, hb, h1, h2⟩
  · exact (hg.block c hl (by rw [hb]; simp)).trans hc
  · refine (hg.block c hl (fun e => ?_)).trans hc
    rw [hb] at e
    cases e
    rcases hne with h3 | h3
    · omega
    · rw [h2] at hc
      cases hc
      exact h3 _ _ rfl
theorem LvR.below (h : LvR base v ls W) (hg : W.grownBy W' v.ownBlock) : Below base W W' := ⟨hg.os, hg.tape, hg.output, hg.size, fun k hk => by
  rcases h.block with hb | ⟨g, cur, hb, h1, h2⟩
  · by_cases hl : k < W.heap.size
    · exact hg.block k hl (by rw [hb]; simp)
    · exfalso
      obtain ⟨_, _, _, _, h4⟩ := h
      omega
  · have hl : k < W.heap.size := by
      obtain ⟨_, _, _, _, h4⟩ := h
      omega
    exact hg.block k hl (fun e => by rw [hb] at e; cases e; omega)⟩
theorem PcT.grown (hr : LvR base v ls W) (hg : W.grownBy W' v.ownBlock) {u : Value} {l : List Int} (h : PcT base W u l) : PcT base W' u l :=
  h.over (P := fun c => ∃ o, W.heap[c]? = some o ∧ (c < base ∨ ∀ cs fr, o ≠ .cells cs 24 fr)) (fun c hc o x hx => by
    have hl := block_lt_of_cell hx
    refine ⟨W.heap[c], by simp [hl], ?_⟩
    rcases hc with h1 | ⟨cs, fr, h1⟩
    · exact Or.inl h1
    · refine Or.inr fun cs' fr' e => ?_
      rw [Array.getElem?_eq_getElem hl] at h1
      rw [Option.some.inj h1] at e
      cases e) (fun c ⟨o, ho, hne⟩ => (hr.keeps hg ho hne).trans ho.symm)
theorem KpB.grown {n0 bc : Nat} (hr : LvR base v ls W) (hg : W.grownBy W' v.ownBlock) : KpB n0 bc W W' := ⟨hg.size, fun k cs t _ ht hk => hr.keeps hg hk (Or.inr fun cs' fr' e => by
  cases e
  rcases ht with h | h | h | h | h <;> exact absurd h (by decide))⟩
theorem LvR.boxed (hr : LvR base v ls W) (hg : W.grownBy W' v.ownBlock) {b : Nat} {t : TypeId} {x : Value} (h : Boxed W b t x) (ht : t ≠ 24) : Boxed W' b t x := hr.keeps hg h (Or.inr fun cs fr e => by cases e; exact ht rfl)
/-- a store into a box -/
theorem LvR.set (hr : LvR base v ls W) {b : Nat} {t : TypeId} {x : Value} (hb : Boxed W b t x) (hx : ∀ y, x ≠ .int .u8 y) (ht : t ≠ 24) (y : Value) : LvR base v ls (W.setCell ⟨b, 0, none⟩ y) := by
  obtain ⟨vs, h1, h2, h3, h4⟩ := hr
  have keep : ∀ j, j ≠ b → (W.setCell ⟨b, 0, none⟩ y).heap[j]? = W.heap[j]? := fun j hj => by simp [World.setCell, Array.getElem?_modify, Ne.symm hj]
  refine ⟨vs, ⟨h1.1, ?_⟩, h2, fun i u hu => (h3 i u hu).over (P := fun c => c ≠ b) (fun c _ o z hz e => ?_) keep, by simpa [World.setCell] using h4⟩
  · rcases h1.2 with h | ⟨g, cap, cur, e, hbg, hg, hrest⟩
    · exact .inl h
    · exact .inr ⟨g, cap, cur, e, hbg, (keep g (fun e2 => by subst e2; rw [hb] at hg; cases hg; exact ht rfl)).trans hg, hrest⟩
  · subst e
    rw [cell_of_row _ _ _ _ _ _ hb] at hz
    rcases o with _ | o
    · simp at hz; exact hx z hz
    · simp at hz
theorem LvR.own {B : Nat} {α : Type} {f : α → List (List Int)} : OwnFrom B (fun (s : α) W => LvR base v (f s) W) := fun s X Y row hs hg hr => by
  obtain ⟨vs, h1, h2, h3, h4⟩ := hs
  have kp : ∀ c cs t fr, X.heap[c]? = some (Obj.cells cs t fr) → Y.heap[c]? = some (Obj.cells cs t fr) := fun c cs t fr hk => (hg.block c (Array.getElem?_eq_some_iff.1 hk).1 (fun e => by obtain ⟨_, o, ho, hc⟩ := hr c e.symm; rw [hk] at ho; cases ho; cases hc)).trans hk
  refine ⟨vs, ⟨h1.1, ?_⟩, h2, fun i u hu => (h3 i u hu).over (P := fun c => ∃ cs t fr, X.heap[c]? = some (Obj.cells cs t fr)) (fun c _ o z hz => ?_) (fun c ⟨cs, t, fr, hc⟩ => (kp _ _ _ _ hc).trans hc.symm), Nat.le_trans h4 hg.size⟩
  · rcases h1.2 with h | ⟨g, cap, cur, e, hbg, hgg, hrest⟩
    · exact .inl h
    · exact .inr ⟨g, cap, cur, e, hbg, kp _ _ _ _ hgg, hrest⟩
  · unfold World.cell? at hz
    rcases hc : X.heap[c]? with _ | o
    · simp [hc] at hz
    · cases o with
      | cells cs t fr => exact ⟨cs, t, fr, rfl⟩
      | _ => simp [hc] at hz
end
end Go.Proofs.Ythnlagplkeklmaa.Wg
