/- Pools of rows in pages: rows behind an append, and pages that all rows hold together. -/
import Derived.Test.YtcfhchdkohjbfaaLf
namespace Go.Proofs.Ytcfhchdkohjbfaa.Kv
set_option maxRecDepth 100000
open Go.ChangeShapes Go.WideShapes Go.ChangeAt Go.RowKit Go.Proofs.Ytcfhchdkohjbfaa.Tn
/-- a row's things -/
def thingsD (D : Doc Int) (id : Int) : List Int := (rowAt D id).elim [] (·.1)
/-- the pages that the first rows hold together -/
def heldN (D : Doc Int) : Nat → Nat
  | 0 => 0
  | k + 1 => heldN D k + ((rowAt D (k : Int)).elim [] (·.2)).length
/-- what the first pages count together -/
def sumC (rows : List (Option (List Int × List Nat))) : Nat → Nat
  | 0 => 0
  | k + 1 => sumC rows k + cnt rows k
def plen : List (Option (List Int × List Nat)) → Nat
  | [] => 0
  | none :: l => plen l
  | some (_, P) :: l => P.length + plen l
theorem plen_append (a b : List (Option (List Int × List Nat))) : plen (a ++ b) = plen a + plen b := by
  induction a with
  | nil => simp [plen]
  | cons r l ih => rcases r with _ | ⟨L, P⟩ <;> simp [plen, ih] <;> omega
theorem sumC_nil (n : Nat) : sumC [] n = 0 := by
  induction n with
  | zero => rfl
  | succ n ih => simp [sumC, ih, cnt]
theorem sumC_cons (r : Option (List Int × List Nat)) (l : List (Option (List Int × List Nat))) (n : Nat) : sumC (r :: l) n = sumC [r] n + sumC l n := by
  induction n with
  | zero => rfl
  | succ n ih => simp [sumC, ih, cnt]; omega
theorem sumC_none (n : Nat) : sumC [none] n = 0 := by
  induction n with
  | zero => rfl
  | succ n ih => simp [sumC, ih, cnt, one]
theorem sumC_page (L : List Int) (k : Nat) (P : List Nat) (n : Nat) : sumC [some (L, k :: P)] n = sumC [some (L, P)] n + if k < n then 1 else 0 := by
  induction n with
  | zero => simp [sumC]
  | succ n ih =>
    simp only [sumC, ih, cnt, one, List.count_cons]
    by_cases h1 : k = n
    · subst h1
      rw [if_neg (show ¬ k < k by omega), if_pos (show k < k + 1 by omega)]; simp; omega
    · have h9 : (k == n) = false := by simpa using h1
      rw [h9]
      by_cases h2 : k < n
      · rw [if_pos h2, if_pos (show k < n + 1 by omega)]; simp; omega
      · rw [if_neg h2, if_neg (show ¬ k < n + 1 by omega)]; simp
theorem sumC_row (L : List Int) (n : Nat) : ∀ P : List Nat, (∀ k ∈ P, k < n) → sumC [some (L, P)] n = P.length
  | [], _ => by
    induction n with
    | zero => rfl
    | succ n ih => simp only [sumC]; rw [ih (fun k hk => by cases hk)]; simp [cnt, one]
  | k :: P, h => by
    rw [sumC_page, sumC_row L n P (fun k hk => h k (List.mem_cons_of_mem _ hk)), if_pos (h k (List.mem_cons_self ..)), List.length_cons]
theorem sumC_plen (n : Nat) : ∀ rows : List (Option (List Int × List Nat)), (∀ L P, some (L, P) ∈ rows → ∀ k ∈ P, k < n) → sumC rows n = plen rows
  | [], _ => sumC_nil n
  | none :: l, h => by
    rw [sumC_cons, sumC_none, sumC_plen n l (fun L P hm => h L P (List.mem_cons_of_mem _ hm))]; simp [plen]
  | some (L, P) :: l, h => by
    rw [sumC_cons, sumC_row L n P (h L P (List.mem_cons_self ..)), sumC_plen n l (fun L P hm => h L P (List.mem_cons_of_mem _ hm))]; simp [plen]
theorem heldN_take (D : Doc Int) (k : Nat) : heldN D k = plen (D.rows.take k) := by
  induction k with
  | zero => rfl
  | succ k ih =>
    show heldN D k + _ = _
    rw [ih, rowAt_nat, List.take_add_one, plen_append]
    congr 1
    cases h : D.rows[k]? with
    | none => rfl
    | some q => rcases q with _ | ⟨L, P⟩ <;> simp [plen]
theorem sumC_mono (rows : List (Option (List Int × List Nat))) {a b : Nat} (h : a ≤ b) : sumC rows a ≤ sumC rows b := by
  induction b with
  | zero => have : a = 0 := by omega
            subst this; exact Nat.le_refl _
  | succ b ih =>
    by_cases e : a = b + 1
    · subst e; exact Nat.le_refl _
    · have := ih (by omega)
      simp only [sumC]; omega
theorem heldN_le {D : Doc Int} {m : Nat} (h : ∀ k : Nat, ((rowAt D (k : Int)).elim [] (·.2)).length ≤ m) : ∀ k, heldN D k ≤ k * m
  | 0 => by simp [heldN]
  | k + 1 => by
    have h1 := heldN_le h k
    have h2 := h k
    show heldN D k + _ ≤ _
    rw [Nat.add_mul]; omega
/-- a row is not long, and holds few pages -/
theorem Pool.short {w : World} {τ : Tags} {g : Nat} {D : Doc Int} {s n : Nat} (h : Pool I.kind w τ g D) (h1 : D.size = s) (h2 : D.pages = n) (id : Int) : (thingsD D id).length ≤ n * s ∧ ((rowAt D id).elim [] (·.2)).length ≤ n := by
  obtain ⟨ly, pg, _, hG⟩ := h
  unfold thingsD
  cases hr : rowAt D id with
  | none => simp
  | some r =>
    obtain ⟨L, P⟩ := r
    obtain ⟨k, _, hk⟩ := rowAt_yes hr
    have := (hG.row k L P hk).short hG.s0
    rw [h1, h2] at this
    exact ⟨this.2, this.1⟩
/-- the sum of counts is that of the pages that rows hold -/
theorem sum_held {w : World} {τ : Tags} {g : Nat} {D : Doc Int} {n m : Nat} (h : Pool I.kind w τ g D) (h2 : D.pages = n) (hm : D.rows.length ≤ m) : sumC D.rows n = heldN D m := by
  obtain ⟨ly, pg, _, hG⟩ := h
  rw [heldN_take, List.take_of_length_le hm]
  refine sumC_plen n _ fun L P hm k hk => ?_
  obtain ⟨i, hi⟩ := List.getElem?_of_mem hm
  rw [← h2]
  exact (hG.row i L P hi).lt k hk
/-- what is appended to a row turns no other one -/
theorem things_append (D : Doc Int) (id x : Int) (i : Nat) : thingsD (appendD D id x).2 (i : Int) = if (i : Int) = id ∧ (appendD D id x).1 = 0 then thingsD D (i : Int) ++ [x] else thingsD D (i : Int) := by
  cases hr : rowAt D id with
  | none =>
    have e : appendD D id x = (14, D) := by unfold appendD; rw [hr]
    rw [e, if_neg (fun h => by have := h.2; simp at this)]
  | some r =>
    obtain ⟨L, P⟩ := r
    obtain ⟨k, rfl, hk⟩ := rowAt_yes hr
    rcases appendD_cases hk x with ⟨_, e⟩ | ⟨P1, _, e⟩
    · rw [e, if_neg (fun h => by have := h.2; simp at this)]
    · rw [e]
      unfold thingsD
      rw [rowAt_nat, rowAt_nat]
      show ((((D.rows.set k (some (L ++ [x], P1))))[i]?).join).elim [] (·.1) = _
      have hkl := (List.getElem?_eq_some_iff.1 hk).1
      by_cases hi : i = k
      · subst hi
        rw [if_pos ⟨rfl, rfl⟩, List.getElem?_set_self hkl, hk]; rfl
      · rw [if_neg (fun h => hi (by have := h.1; omega)), List.getElem?_set_ne (Ne.symm hi)]
/-! ### a row of rows, of the law's own -/
def Mv (k : Nat) (τ : Tags) (w : World) (v : Value) (vs : List Value) : Prop := ∃ b, Row w 40 v b vs ∧ ∀ c, b = some c → τ c = some (.misc k)
section
variable {k : Nat} {τ τ' : Tags} {w w' : World} {v : Value} {vs : List Value}
theorem Mv.step {M : Tag → Bool} (h : Mv k τ w v vs) (hs : Step M τ τ' w w') (hM : M (.misc k) = false) : Mv k τ' w' v vs := by
  obtain ⟨b, h1, h2⟩ := h
  exact ⟨b, h1.kept fun c hc => hs.block c (h1.lt hc) (fun t ht => by rw [h2 c hc] at ht; cases ht; exact hM), fun c hc => (hs.tags c (h1.lt hc)).trans (h2 c hc)⟩
theorem Mv.below (h : Mv k τ w v vs) (hb : Below w.heap.size w w') : Mv k τ w' v vs := h.step (M := fun _ => false) (Step.below hb) rfl
theorem Mv.nil (k : Nat) (τ : Tags) (w : World) : Mv k τ w (.slice none 0 0) [] := ⟨none, Row.nil _ _ _, fun c hc => by cases hc⟩
theorem Mv.slice (h : Mv k τ w v vs) : ∃ sp cap, v = .slice sp vs.length cap ∧ ∀ i x, vs[i]? = some x → ∃ c o, sp = some ⟨c, o, none⟩ ∧ w.cell? ⟨c, o + i, none⟩ = some x := by
  obtain ⟨b, h1, _⟩ := h
  obtain ⟨sp, cap, e, _, _, hc⟩ := h1.slice
  exact ⟨sp, cap, e, fun i x hx => by obtain ⟨c, e1, _, e2⟩ := hc i x hx; exact ⟨c, 0, e1, by rw [Nat.zero_add]; exact e2⟩⟩
theorem Mv.at_ {sp : Option Addr} {n cap : Nat} (h : Mv k τ w (.slice sp n cap) vs) {i : Nat} {x : Value} (hx : vs[i]? = some x) : ∃ c o, sp = some ⟨c, o, none⟩ ∧ w.cell? ⟨c, o + i, none⟩ = some x := by
  obtain ⟨sp', cap', e, hc⟩ := h.slice
  injection e with e1 _ _
  subst e1
  exact hc i x hx
theorem Mr.nums {xs : List Int} {sp : Option Addr} {n cap : Nat} (h : Mr k τ w (.slice sp n cap) xs) : Nums w sp cap xs ∧ xs.length = n := by
  obtain ⟨b, h1, _⟩ := h
  exact h1.nums
theorem Mv.push (hf : Fits τ w) {b b' : Option Nat} (h2 : ∀ c, b = some c → τ c = some (.misc k)) (hg : w.grownBy w' b) (hr : Row w' 40 v b' vs) (hb : b' = b ∨ ∃ q, b' = some q ∧ w.heap.size ≤ q) :
    ∃ τ', Mv k τ' w' v vs ∧ Step (isK k) τ τ' w w' ∧ Fits τ' w' := by
  let τ' : Tags := fun q => if b' = some q then some (.misc k) else τ q
  have hτ : ∀ q, q < w.heap.size → τ' q = τ q := fun q hq => by
    show (if b' = some q then some (Tag.misc k) else τ q) = τ q
    split
    · next e =>
      rcases hb with e1 | ⟨q', e1, hq'⟩
      · exact (h2 q (e1.symm.trans e)).symm
      · rw [e] at e1; cases e1; omega
    · rfl
  refine ⟨τ', ⟨b', hr, fun c hc => ?_⟩, ⟨hg.os, hg.tape, hg.output, hg.size, hτ, fun c hc ht => ?_⟩, fun c t ht => ?_⟩
  · show (if b' = some c then some (Tag.misc k) else τ c) = _
    rw [if_pos hc]
  · refine hg.block c hc (fun e => ?_)
    have := ht _ (h2 c e.symm)
    simp [isK] at this
  · replace ht : (if b' = some c then some (Tag.misc k) else τ c) = some t := ht
    split at ht
    · next e => exact hr.lt e
    · exact Nat.lt_of_lt_of_le (hf c t ht) hg.size
end
section
variable {ops : Array Oper} {rest : List Oper} {o : Oper} {a : Act} {Q : Exit → Act → World → Prop}
theorem infoSl : (Try.prog.info? 40).map (fun i => (i.zero, i.size, i.bytes)) = some (some (.slice none 0 0), 1, 24) := by kernel_rfl
theorem wpList_push_v (k : Nat) (hgd : o.guard = none) (s x : Operand) (ho : o.op = .call { callee := .builtin .append, args := #[s, x], argTypes := #[39, 39] }) (w : World) (τ : Tags) (hf : Fits τ w) (v : Value) (vs : List Value) (y : Value) (hs : a.eval s = v) (hm : Mv k τ w v vs) (hx : a.eval x = .slice (some ⟨w.heap.size, 0, none⟩) 1 1) (hy : y.oneCell' = true) (n : Nat) (hn : vs.length = n) (hn2 : n ≤ 1000000)
    (h : ∀ sq cq w' τ', Mv k τ' w' (.slice sq (n + 1) cq) (vs ++ [y]) → Step (isK k) τ τ' w w' → Fits τ' w' → wpList Try.prog ops Q rest (a.put o.dst (.slice sq (n + 1) cq)) w') : wpList Try.prog ops Q (o :: rest) a (w.alloc (.cells #[y] 40)) := by
  obtain ⟨b, h1, h2⟩ := hm
  have hb : Below w.heap.size w (w.alloc (.cells #[y] 40)) := (Below.refl _ _).alloc (Nat.le_refl _) _
  have hc : (w.alloc (.cells #[y] 40)).cell? ⟨w.heap.size, 0, none⟩ = some y := by rw [cell_of_row _ _ _ _ _ _ (alloc_new _ _)]; rfl
  refine wpList_append_row 39 40 24 (.slice none 0 0) Try.underlying39 infoSl rfl (by decide) hgd s x ho v b _ hs (h1.kept fun c hc => hb.block c (h1.lt hc)) w.heap.size y hx hc hy (by rw [hn]; exact hn2) ?_
  intro sq cq w' b' h3 h4 h5
  rw [hn] at h3 ⊢
  obtain ⟨τ', k1, k2, k3⟩ := Mv.push (vs := vs ++ [y]) hf h2 (I.grown_trans (I.grown_of hb _) h4) (v := .slice sq (n + 1) cq) h3 (by
    rcases h5 with e | ⟨q, e, hq⟩
    · exact Or.inl e
    · exact Or.inr ⟨q, e, Nat.le_trans hb.size hq⟩)
  exact h sq cq w' τ' k1 k2 k3
end
/-- the rows that were told, from one on -/
def Was (D : Doc Int) (τ : Tags) (w : World) (V : List Value) (i : Nat) : Prop := ∀ (j : Nat) (v : Value), i ≤ j → V[j]? = some v → Mr (2 + j) τ w v (thingsD D (j : Int))
section
variable {D : Doc Int} {τ τ' : Tags} {w w' : World} {V : List Value} {i : Nat}
theorem Was.step {M : Tag → Bool} (h : Was D τ w V i) (hs : Step M τ τ' w w') (hM : ∀ j, i ≤ j → j < V.length → M (.misc (2 + j)) = false) : Was D τ' w' V i := fun j v hj hv => (h j v hj hv).step hs (hM j hj (List.getElem?_eq_some_iff.1 hv).1)
theorem Was.below (h : Was D τ w V i) (hb : Below w.heap.size w w') : Was D τ w' V i := h.step (M := fun _ => false) (Step.below hb) fun _ _ _ => rfl
theorem Was.next (h : Was D τ w V i) : Was D τ w V (i + 1) := fun j v hj hv => h j v (by omega) hv
theorem Was.snoc {v : Value} {n : Nat} (h : Was D τ w V 0) (hn : V.length = n) (hv : Mr (2 + n) τ w v (thingsD D (n : Int))) : Was D τ w (V ++ [v]) 0 := fun j u _ hu => by
  rw [List.getElem?_append] at hu
  split at hu
  · exact h j u (Nat.zero_le _) hu
  · next hlt =>
    rw [hn] at hlt hu
    obtain rfl : j = n := by
      have := (List.getElem?_eq_some_iff.1 hu).1
      simp at this; omega
    rw [Nat.sub_self] at hu
    cases hu
    exact hv
end
end Go.Proofs.Ytcfhchdkohjbfaa.Kv
