/- Pools of rows in pages: rows of numbers of the law's own, beside a pool. -/
import Derived.Test.YtcfhchdkohjbfaaLd
namespace Go.Proofs.Ytcfhchdkohjbfaa.Kv
set_option maxRecDepth 100000
open Go.ChangeShapes Go.WideShapes Go.ChangeAt Go.RowKit Go.Proofs.Ytcfhchdkohjbfaa.Tn
def isK (k : Nat) : Tag → Bool
  | .misc j => j == k
  | _ => false
/-- a row of numbers of the law's own, of the number k -/
def Mr (k : Nat) (τ : Tags) (w : World) (v : Value) (xs : List Int) : Prop := ∃ b, Row w 3 v b (xs.map (Value.int .i64)) ∧ ∀ c, b = some c → τ c = some (.misc k)
theorem Step.all {M : Tag → Bool} {τ τ' : Tags} {w w' : World} (h : Step M τ τ' w w') : Step (fun _ => true) τ τ' w w' := h.mono fun _ h => by cases h
section
variable {k : Nat} {τ τ' : Tags} {w w' : World} {v : Value} {xs : List Int}
theorem Mr.step {M : Tag → Bool} (h : Mr k τ w v xs) (hs : Step M τ τ' w w') (hM : M (.misc k) = false) : Mr k τ' w' v xs := by
  obtain ⟨b, h1, h2⟩ := h
  exact ⟨b, h1.kept fun c hc => hs.block c (h1.lt hc) (fun t ht => by rw [h2 c hc] at ht; cases ht; exact hM), fun c hc => (hs.tags c (h1.lt hc)).trans (h2 c hc)⟩
theorem Mr.below (h : Mr k τ w v xs) (hb : Below w.heap.size w w') : Mr k τ w' v xs := h.step (M := fun _ => false) (Step.below hb) rfl
theorem Mr.nil (k : Nat) (τ : Tags) (w : World) : Mr k τ w (.slice none 0 0) [] := ⟨none, Row.nil _ _ _, fun c hc => by cases hc⟩
theorem Mr.slice (h : Mr k τ w v xs) : ∃ sp cap, v = .slice sp xs.length cap ∧ Nums w sp cap xs := by
  obtain ⟨b, h1, _⟩ := h
  obtain ⟨sp, cap, e, hs⟩ := h1.sl
  rw [List.length_map] at e
  exact ⟨sp, cap, e, hs⟩
theorem isK_mine (k : Nat) : ∀ t : Tag, t.mine = true → isK k t = false := fun t ht => by cases t <;> simp_all [Tag.mine, isK]
theorem isK_other {k j : Nat} (h : j ≠ k) : isK k (.misc j) = false := by simp [isK, h]
theorem isK_mine' (k : Nat) : Tag.mine (.misc k) = false := rfl
/-- a row that has grown by one number -/
theorem Mr.push (hf : Fits τ w) {b b' : Option Nat} (h2 : ∀ c, b = some c → τ c = some (.misc k)) (hg : w.grownBy w' b) (hr : Row w' 3 v b' (xs.map (Value.int .i64))) (hb : b' = b ∨ ∃ q, b' = some q ∧ w.heap.size ≤ q) :
    ∃ τ', Mr k τ' w' v xs ∧ Step (isK k) τ τ' w w' ∧ Fits τ' w' := by
  let τ' : Tags := fun q => if b' = some q then some (.misc k) else τ q
  have hτ : ∀ q, q < w.heap.size → τ' q = τ q := fun q hq => by
    show (if b' = some q then some (Tag.misc k) else τ q) = τ q
    split
    · next e =>
      rcases hb with e1 | ⟨q', e1, hq'⟩
      · exact (h2 q (e1.symm.trans e)).symm
      · rw [e] at e1; cases e1; omega
    · rfl
  refine ⟨τ', ⟨b', hr, fun c hc => ?_⟩, ⟨hg.os, hg.tape, hg.output, hg.size, hτ, fun c hc ht => ?_⟩, fun c t ht => ?_⟩
  · show (if b' = some c then some (Tag.misc k) else τ c) = _
    rw [if_pos hc]
  · refine hg.block c hc (fun e => ?_)
    have := ht _ (h2 c e.symm)
    simp [isK] at this
  · replace ht : (if b' = some c then some (Tag.misc k) else τ c) = some t := ht
    split at ht
    · next e => exact hr.lt e
    · exact Nat.lt_of_lt_of_le (hf c t ht) hg.size
theorem Mr.new (hf : Fits τ w) (hb : Below w.heap.size w w') {b : Option Nat} (hr : Row w' 3 v b (xs.map (Value.int .i64))) (hn : ∀ c, b = some c → w.heap.size ≤ c) (k : Nat) : ∃ τ', Mr k τ' w' v xs ∧ Step (isK k) τ τ' w w' ∧ Fits τ' w' :=
  Mr.push (b := none) (b' := b) hf (fun c hc => by cases hc) ⟨hb.os, hb.tape, hb.output, hb.size, fun k hk _ => hb.block k hk⟩ hr (by
    cases b with
    | none => exact Or.inl rfl
    | some q => exact Or.inr ⟨q, rfl, hn q rfl⟩)
end
section
variable {ops : Array Oper} {rest : List Oper} {o : Oper} {a : Act} {Q : Exit → Act → World → Prop}
theorem wpList_push_m (k : Nat) (hgd : o.guard = none) (s x : Operand) (ho : o.op = .call { callee := .builtin .append, args := #[s, x], argTypes := #[40, 40] }) (w : World) (τ : Tags) (hf : Fits τ w) (v : Value) (xs : List Int) (y : Int) (hs : a.eval s = v) (hm : Mr k τ w v xs) (hx : a.eval x = .slice (some ⟨w.heap.size, 0, none⟩) 1 1) (n : Nat) (hn : xs.length = n) (hn2 : n ≤ 1000000)
    (h : ∀ sq cq w' τ', Mr k τ' w' (.slice sq (n + 1) cq) (xs ++ [y]) → Step (isK k) τ τ' w w' → Fits τ' w' → wpList Try.prog ops Q rest (a.put o.dst (.slice sq (n + 1) cq)) w') : wpList Try.prog ops Q (o :: rest) a (w.alloc (.cells #[.int .i64 y] 3)) := by
  obtain ⟨b, h1, h2⟩ := hm
  have hb : Below w.heap.size w (w.alloc (.cells #[.int .i64 y] 3)) := (Below.refl _ _).alloc (Nat.le_refl _) _
  have hc : (w.alloc (.cells #[.int .i64 y] 3)).cell? ⟨w.heap.size, 0, none⟩ = some (.int .i64 y) := by rw [cell_of_row _ _ _ _ _ _ (alloc_new _ _)]; rfl
  refine wpList_append_row 40 3 8 (.int .i64 0) Try.underlying40 info3 rfl (by decide) hgd s x ho v b _ hs (h1.kept fun c hc => hb.block c (h1.lt hc)) w.heap.size (.int .i64 y) hx hc rfl (by rw [List.length_map, hn]; exact hn2) ?_
  intro sq cq w' b' h3 h4 h5
  rw [List.length_map, hn] at h3 ⊢
  obtain ⟨τ', k1, k2, k3⟩ := Mr.push (xs := xs ++ [y]) hf h2 (I.grown_trans (I.grown_of hb _) h4) (v := .slice sq (n + 1) cq) (by rw [List.map_append]; exact h3) (by
    rcases h5 with e | ⟨q, e, hq⟩
    · exact Or.inl e
    · exact Or.inr ⟨q, e, Nat.le_trans hb.size hq⟩)
  exact h sq cq w' τ' k1 k2 k3
end
theorem Pool.fits {α : Type} {K : Kind α} {w : World} {τ : Tags} {g : Nat} {D : Doc α} (h : Pool K w τ g D) : Fits τ w := by
  obtain ⟨ly, pg, h1, _⟩ := h
  exact h1.fits
theorem lawRow {w : World} {τ : Tags} {g : Nat} {D : Doc Int} (h : Pool I.kind w τ g D) (id : Int) (L : List Int) (hL : (rowAt D id).elim [] (·.1) = L) (hl : L.length ≤ 2000) :
    Calls Try.prog 13 #[.pointer (some ⟨g, 0, none⟩), .int .i64 id] w fun e w' => RowAns w L e w' :=
  callsIn_wide.1 (row_in w _ id L hl (by
    have := I.all_any (h.below (w' := (w.alloc (.cells #[.slice none 0 0] 40)).alloc (.cells #[.bool false] 4)) (((Below.refl _ _).alloc (Nat.le_refl _) _).alloc (by simp) _)) id
    rw [hL] at this
    exact this))
/-! ### the document's pool, of one row and of two -/
def numsTo (n : Nat) : List Int := (List.range n).map fun i : Nat => (i : Int)
theorem numsTo_length (n : Nat) : (numsTo n).length = n := by simp [numsTo]
theorem numsTo_succ (n : Nat) : numsTo (n + 1) = numsTo n ++ [(n : Int)] := by simp [numsTo, List.range_succ]
theorem numsTo_take (n m : Nat) (h : m ≤ n) : (numsTo n).take m = numsTo m := by
  unfold numsTo
  rw [← List.map_take, List.take_range, Nat.min_eq_left h]
theorem appendD_cases {α : Type} {D : Doc α} {k : Nat} {L : List α} {P : List Nat} (h : D.rows[k]? = some (some (L, P))) (x : α) :
    (roomD D L P = none ∧ appendD D (k : Int) x = (16, D)) ∨ ∃ P1, roomD D L P = some P1 ∧ appendD D (k : Int) x = (0, putRow D k (some (L ++ [x], P1))) := by
  have hr : rowAt D (k : Int) = some (L, P) := by rw [rowAt_nat, h]; rfl
  cases hm : roomD D L P with
  | none => exact Or.inl ⟨rfl, by unfold appendD; rw [hr]; simp only [hm]⟩
  | some P1 => exact Or.inr ⟨P1, rfl, by unfold appendD; rw [hr]; simp only [hm]; rfl⟩
theorem appendD_pages {α : Type} (D : Doc α) (id : Int) (x : α) : (appendD D id x).2.pages = D.pages := by
  unfold appendD
  cases rowAt D id with
  | none => rfl
  | some r =>
    obtain ⟨L, P⟩ := r
    dsimp only
    cases roomD D L P <;> rfl
/-- of the numbers below i the first n were appended -/
def Jone (i n : Nat) (D : Doc Int) : Prop := n ≤ i ∧ ∃ P, D.rows = [some (numsTo n, P)] ∧ (n < i → roomD D (numsTo n) P = none)
theorem Jone.step {i n : Nat} {D : Doc Int} (h : Jone i n D) : (appendD D 0 (i : Int) = (16, D) ∧ Jone (i + 1) n D) ∨ (∃ D', appendD D 0 (i : Int) = (0, D') ∧ Jone (i + 1) (n + 1) D') := by
  obtain ⟨h1, P, h2, h3⟩ := h
  rcases appendD_cases (D := D) (k := 0) (L := numsTo n) (P := P) (by rw [h2]; rfl) (i : Int) with ⟨h4, h5⟩ | ⟨P1, h4, h5⟩
  · exact Or.inl ⟨h5, by omega, P, h2, fun _ => h4⟩
  · have hn : n = i := by
      rcases Nat.lt_or_ge n i with h | h
      · rw [h3 h] at h4; cases h4
      · omega
    subst hn
    exact Or.inr ⟨_, h5, Nat.le_refl _, P1, by unfold putRow; rw [h2, numsTo_succ]; rfl, fun h => absurd h (by omega)⟩
theorem freeN_same {D D' : Doc Int} : ∀ (k : Nat), (∀ j, j < k → (cnt D'.rows j = 0 ↔ cnt D.rows j = 0)) → I.freeN D' k = I.freeN D k
  | 0, _ => rfl
  | k + 1, h => by
    have ih := freeN_same k (fun j hj => h j (by omega))
    have hk := h k (by omega)
    unfold I.freeN
    rw [ih]
    by_cases e : cnt D.rows k = 0
    · rw [if_pos e, if_pos (hk.2 e)]
    · rw [if_neg e, if_neg (fun x => e (hk.1 x))]
theorem shareD_no {n t : Nat} {D : Doc Int} {P : List Nat} (h : D.rows = [some (numsTo n, P)]) (ht : n < t) : shareD D 0 (t : Int) = ((0, 10), D) := by
  have hr : rowAt D 0 = some (numsTo n, P) := by
    have := rowAt_nat D 0
    rw [h] at this
    exact this
  unfold shareD
  rw [hr]
  simp only [numsTo_length]
  rw [if_pos (Or.inr (by omega))]
theorem shareD_yes {n t : Nat} {D : Doc Int} {P : List Nat} (h : D.rows = [some (numsTo n, P)]) (ht : t ≤ n) : ∃ D' Q, shareD D 0 (t : Int) = ((1, 0), D') ∧ D'.rows = [some (numsTo n, P), some (numsTo t, Q)] ∧ D'.pages = D.pages ∧ ∀ j, (cnt D'.rows j = 0 ↔ cnt D.rows j = 0) := by
  have hr : rowAt D 0 = some (numsTo n, P) := by
    have := rowAt_nat D 0
    rw [h] at this
    exact this
  have e : shareD D 0 (t : Int) = ((1, 0), addRow D (numsTo t) (P.take ((t + D.size - 1) / D.size))) := by
    unfold shareD
    rw [hr]
    simp only [numsTo_length]
    rw [if_neg (by omega), if_neg (by rw [h]; simp), h]
    rw [show ((t : Int)).toNat = t from rfl, numsTo_take n t ht]
    rfl
  refine ⟨_, _, e, by unfold addRow; rw [h]; rfl, rfl, fun j => ?_⟩
  unfold addRow
  rw [h]
  simp only [List.cons_append, List.nil_append, cnt, one, Nat.add_zero]
  have := (List.take_sublist ((t + D.size - 1) / D.size) P).count_le j
  omega
/-- two rows, of which one takes a thing more -/
theorem two_step {D : Doc Int} {A B : List Int} {P Q : List Nat} (h : D.rows = [some (A, P), some (B, Q)]) (x : Int) :
    (∃ e, e ≠ 0 ∧ appendD D 0 x = (e, D)) ∨ (∃ D' P1, appendD D 0 x = (0, D') ∧ D'.rows = [some (A ++ [x], P1), some (B, Q)]) := by
  rcases appendD_cases (D := D) (k := 0) (L := A) (P := P) (by rw [h]; rfl) x with ⟨_, h5⟩ | ⟨P1, _, h5⟩
  · exact Or.inl ⟨16, by decide, h5⟩
  · exact Or.inr ⟨_, P1, h5, by unfold putRow; rw [h]; rfl⟩
theorem two_step1 {D : Doc Int} {A B : List Int} {P Q : List Nat} (h : D.rows = [some (A, P), some (B, Q)]) (x : Int) :
    (∃ e, e ≠ 0 ∧ appendD D 1 x = (e, D)) ∨ (∃ D' Q1, appendD D 1 x = (0, D') ∧ D'.rows = [some (A, P), some (B ++ [x], Q1)]) := by
  rcases appendD_cases (D := D) (k := 1) (L := B) (P := Q) (by rw [h]; rfl) x with ⟨_, h5⟩ | ⟨P1, _, h5⟩
  · exact Or.inl ⟨16, by decide, h5⟩
  · exact Or.inr ⟨_, P1, h5, by unfold putRow; rw [h]; rfl⟩
end Go.Proofs.Ytcfhchdkohjbfaa.Kv
