import Derived.Test.YtllaecliaojmjaaDoorBy
namespace Go.Proofs.YtllaecliaojmjaaDoor.Bp
set_option maxRecDepth 100000
open Go.ChangeShapes Go.WideShapes Go.ChangeAt Go.RowKit Go.Proofs.YtllaecliaojmjaaDoor.Tn

/-! ### first: the mathematics -/
theorem nbr_snoc (q : Int × Int) (x y : Int) : ∀ A : List Int, nbr q (A ++ [x, y]) = (nbr q (A ++ [x]) || decide (x = q.1 ∧ y = q.2))
  | [] => by simp [nbr]
  | [a] => by simp [nbr, Bool.or_comm]
  | a :: b :: r => by
    have ih := nbr_snoc q x y (b :: r)
    simp only [List.cons_append, nbr] at ih ⊢
    rw [ih, Bool.or_assoc]
theorem nbr_take {q : Int × Int} {l : List Int} {i : Nat} (h1 : 1 ≤ i) (h2 : i < l.length) : nbr q (l.take (i + 1)) = (nbr q (l.take i) || decide (l.getD (i - 1) 0 = q.1 ∧ l.getD i 0 = q.2)) := by
  have e1 : l.take (i + 1) = l.take (i - 1) ++ [l.getD (i - 1) 0, l.getD i 0] := by
    rw [take_at h2]
    have : l.take i = l.take (i - 1) ++ [l.getD (i - 1) 0] := by
      have := take_at (b := l) (i := i - 1) (by omega)
      rwa [show i - 1 + 1 = i by omega] at this
    rw [this]
    simp
  have e2 : l.take i = l.take (i - 1) ++ [l.getD (i - 1) 0] := by
    have := take_at (b := l) (i := i - 1) (by omega)
    rwa [show i - 1 + 1 = i by omega] at this
  rw [e1, nbr_snoc, ← e2]
theorem nbr_one (q : Int × Int) (l : List Int) (i : Nat) (h : i ≤ 1) : nbr q (l.take i) = false := by
  rcases i with _ | _ | i
  · simp [nbr]
  · rcases l with _ | ⟨x, r⟩
    · simp [nbr]
    · simp [nbr]
  · omega
theorem fst_one (ps : List (Int × Int)) (l : List Int) (i : Nat) (h : i ≤ 1) : fst ps (l.take i) = none := fst_end (fun _ _ => nbr_one _ _ _ h)
theorem idx_pair {ps : List (Int × Int)} {p : Int × Int} (h : p ∈ ps) : ps.idxOf p < ps.length ∧ ps.getD (ps.idxOf p) (0, 0) = p := by
  have h1 := List.idxOf_lt_length_of_mem h
  refine ⟨h1, ?_⟩
  rw [List.getD_eq_getElem?_getD, List.getElem?_eq_getElem h1]
  simp
theorem idx_before {ps : List (Int × Int)} {p : Int × Int} {j : Nat} (hj : j < ps.idxOf p) : ps.getD j (0, 0) ≠ p ∨ ps.length ≤ j := by
  by_cases h : j < ps.length
  · left
    intro e
    have hm : p ∈ ps := by
      rw [← e, List.getD_eq_getElem?_getD, List.getElem?_eq_getElem h]
      exact List.getElem_mem h
    rw [List.getD_eq_getElem?_getD, List.getElem?_eq_getElem h] at e
    have := List.not_of_lt_findIdx (p := (· == p)) (xs := ps) hj
    simp at this
    exact this (by simpa using e)
  · exact Or.inr (by omega)
section
variable {ps : List (Int × Int)} {l : List Int} {i : Nat}
theorem fst_better (h1 : 1 ≤ i) (h2 : i < l.length) {p : Int × Int} (hp : (l.getD (i - 1) 0, l.getD i 0) = p) (hm : p ∈ ps) (ho : ∀ k, fst ps (l.take i) = some k → ps.idxOf p < k) : fst ps (l.take (i + 1)) = some (ps.idxOf p) := by
  obtain ⟨hk, he⟩ := idx_pair hm
  refine fst_at hk ?_ (fun j hj => ?_)
  · rw [nbr_take h1 h2, he, ← hp]
    simp
  · rw [nbr_take h1 h2]
    have hne := idx_before hj
    have hd : decide (l.getD (i - 1) 0 = (ps.getD j (0, 0)).1 ∧ l.getD i 0 = (ps.getD j (0, 0)).2) = false := by
      rw [decide_eq_false_iff_not]
      rintro ⟨e1, e2⟩
      rcases hne with hne | hne
      · exact hne (by rw [← hp, e1, e2])
      · omega
    rw [hd, Bool.or_false]
    rcases ho' : fst ps (l.take i) with _ | k
    · have := fst_none ho' (ps.getD j (0, 0)) (by rw [List.getD_eq_getElem?_getD, List.getElem?_eq_getElem (show j < ps.length by omega)]; exact List.getElem_mem _)
      exact this
    · exact (fst_some ho').2.2 j (by have := ho k ho'; omega)
theorem fst_stays (h1 : 1 ≤ i) (h2 : i < l.length) {p : Int × Int} (hp : (l.getD (i - 1) 0, l.getD i 0) = p) (h : p ∈ ps → ∃ k, fst ps (l.take i) = some k ∧ k ≤ ps.idxOf p) : fst ps (l.take (i + 1)) = fst ps (l.take i) := by
  have hd : ∀ j, j < ps.length → (∀ k, fst ps (l.take i) = some k → j < k) → decide (l.getD (i - 1) 0 = (ps.getD j (0, 0)).1 ∧ l.getD i 0 = (ps.getD j (0, 0)).2) = false := fun j hj hk => by
    rw [decide_eq_false_iff_not]
    rintro ⟨e1, e2⟩
    have e : ps.getD j (0, 0) = p := by rw [← hp, e1, e2]
    have hm : p ∈ ps := by
      rw [← e, List.getD_eq_getElem?_getD, List.getElem?_eq_getElem hj]
      exact List.getElem_mem hj
    obtain ⟨k, hf, hle⟩ := h hm
    have := hk k hf
    rcases idx_before (ps := ps) (p := p) (j := j) (by omega) with h9 | h9
    · exact h9 e
    · omega
  rcases ho : fst ps (l.take i) with _ | k
  · refine fst_end (fun j hj => ?_)
    rw [nbr_take h1 h2, hd j hj (fun k hk => by rw [ho] at hk; cases hk), Bool.or_false]
    exact fst_none ho _ (by rw [List.getD_eq_getElem?_getD, List.getElem?_eq_getElem hj]; exact List.getElem_mem hj)
  · obtain ⟨f1, f2, f3⟩ := fst_some ho
    refine fst_at f1 ?_ (fun j hj => ?_)
    · rw [nbr_take h1 h2, f2, Bool.true_or]
    · rw [nbr_take h1 h2, f3 j hj, hd j (by omega) (fun k' hk => by rw [ho] at hk; cases hk; exact hj)]
      rfl
end
/-- the least token so far -/
def lst (n P : Nat) : Option Nat → Nat
  | none => n + P
  | some k => n + k
end Go.Proofs.YtllaecliaojmjaaDoor.Bp
