import Derived.Test.YtchjijifmjbgoaaDoorGb
namespace Go.Proofs.YtchjijifmjbgoaaDoor.Tn
open Go.Proofs.YtchjijifmjbgoaaDoor.Fx

/-! ### the greatest ones, in order (mathematics) -/
/-- of the first k that are not in out, the first one of the greatest; -1: there is none -/
def pk (l : List Int) (out : List Nat) : Nat → Int
  | 0 => -1
  | k + 1 => if k ∉ out ∧ (pk l out k < 0 ∨ l.getD (pk l out k).toNat 0 < l.getD k 0) then (k : Int) else pk l out k
/-- p comes ahead of q -/
def ahead (l : List Int) (p q : Nat) : Prop := l.getD q 0 < l.getD p 0 ∨ (l.getD p 0 = l.getD q 0 ∧ p < q)
theorem pk_spec (l : List Int) (out : List Nat) : ∀ k, (pk l out k = -1 ∧ ∀ i, i < k → i ∈ out) ∨ ∃ p : Nat, pk l out k = p ∧ p < k ∧ p ∉ out ∧ ∀ i, i < k → i ∉ out → i = p ∨ ahead l p i
  | 0 => Or.inl ⟨rfl, fun i hi => by omega⟩
  | k + 1 => by
    rw [pk]
    rcases pk_spec l out k with ⟨h1, h2⟩ | ⟨p, h1, h2, h3, h4⟩
    · rw [h1]
      by_cases hk : k ∈ out
      · left
        rw [if_neg (fun h => h.1 hk)]
        refine ⟨rfl, fun i hi => ?_⟩
        by_cases e : i = k
        · rw [e]; exact hk
        · exact h2 i (by omega)
      · right
        rw [if_pos ⟨hk, Or.inl (by omega)⟩]
        refine ⟨k, rfl, by omega, hk, fun i hi hn => ?_⟩
        by_cases e : i = k
        · exact Or.inl e
        · exact absurd (h2 i (by omega)) hn
    · right
      rw [h1]
      by_cases hk : k ∉ out ∧ ((p : Int) < 0 ∨ l.getD (p : Int).toNat 0 < l.getD k 0)
      · rw [if_pos hk]
        have hlt : l.getD p 0 < l.getD k 0 := by
          rcases hk.2 with h | h
          · omega
          · simpa using h
        refine ⟨k, rfl, by omega, hk.1, fun i hi hn => ?_⟩
        by_cases e : i = k
        · exact Or.inl e
        · right
          rcases h4 i (by omega) hn with rfl | h
          · exact Or.inl hlt
          · rcases h with h | h
            · exact Or.inl (by omega)
            · exact Or.inl (by omega)
      · rw [if_neg hk]
        refine ⟨p, rfl, by omega, h3, fun i hi hn => ?_⟩
        by_cases e : i = k
        · right
          subst e
          have h5 : ¬ l.getD p 0 < l.getD i 0 := fun h => hk ⟨hn, Or.inr (by simpa using h)⟩
          by_cases h6 : l.getD i 0 < l.getD p 0
          · exact Or.inl h6
          · exact Or.inr ⟨by omega, h2⟩
        · exact h4 i (by omega) hn
theorem ahead_irrefl {l : List Int} {p : Nat} : ¬ ahead l p p := fun h => by rcases h with h | h <;> omega
theorem ahead_asymm {l : List Int} {p q : Nat} (h : ahead l p q) : ¬ ahead l q p := fun h2 => by
  rcases h with h | h <;> rcases h2 with h2 | h2 <;> omega
theorem ahead_trans {l : List Int} {p q r : Nat} (h : ahead l p q) (h2 : ahead l q r) : ahead l p r := by
  rcases h with h | ⟨h, h'⟩ <;> rcases h2 with h2 | ⟨h2, h2'⟩
  · exact Or.inl (by omega)
  · exact Or.inl (by omega)
  · exact Or.inl (by omega)
  · exact Or.inr ⟨by omega, by omega⟩
/-- the next one -/
def nextT (l : List Int) (out : List Nat) : Nat := (pk l out l.length).toNat
def topN (l : List Int) : Nat → List Nat
  | 0 => []
  | m + 1 => topN l m ++ [nextT l (topN l m)]
theorem topN_length (l : List Int) : ∀ m, (topN l m).length = m
  | 0 => rfl
  | m + 1 => by rw [topN, List.length_append, topN_length l m]; rfl
/-- the m greatest ones, in order -/
structure TopIs (l : List Int) (m : Nat) (out : List Nat) : Prop where
  len : out.length = m
  lt : ∀ p ∈ out, p < l.length
  nodup : out.Nodup
  rest : ∀ (i : Nat) p, out[i]? = some p → ∀ q, q < l.length → q ∉ out.take (i + 1) → ahead l p q
theorem all_in : ∀ (N : Nat) (out : List Nat), (∀ i, i < N → i ∈ out) → N ≤ out.length
  | 0, _, _ => Nat.zero_le _
  | N + 1, out, h => by
    have h1 := h N (by omega)
    have h2 := all_in N (out.erase N) (fun i hi => (List.mem_erase_of_ne (by omega)).2 (h i (by omega)))
    have h3 := List.length_erase_of_mem h1
    have h4 : 0 < out.length := List.length_pos_of_mem h1
    omega
/-- fewer than all: there is another one -/
theorem some_left {N : Nat} {out : List Nat} (h : out.length < N) : ∃ i, i < N ∧ i ∉ out := by
  refine Classical.byContradiction fun hc => ?_
  have h1 := all_in N out (fun i hi => Classical.byContradiction fun h2 => hc ⟨i, hi, h2⟩)
  omega
theorem nextT_spec {l : List Int} {out : List Nat} (_hd : out.Nodup) (_hl : ∀ p ∈ out, p < l.length) (h : out.length < l.length) : pk l out l.length = (nextT l out : Int) ∧ nextT l out < l.length ∧ nextT l out ∉ out ∧ ∀ i, i < l.length → i ∉ out → i = nextT l out ∨ ahead l (nextT l out) i := by
  obtain ⟨i, hi, hn⟩ := some_left h
  unfold nextT
  rcases pk_spec l out l.length with ⟨_, h2⟩ | ⟨p, h1, h2, h3, h4⟩
  · exact absurd (h2 i hi) hn
  · rw [h1]
    exact ⟨rfl, h2, h3, h4⟩
theorem TopIs.next {l : List Int} {m : Nat} {out : List Nat} (h : TopIs l m out) (hm : m < l.length) : TopIs l (m + 1) (out ++ [nextT l out]) := by
  obtain ⟨_, h2, h3, h4⟩ := nextT_spec h.nodup h.lt (by rw [h.len]; exact hm)
  refine ⟨by rw [List.length_append, h.len]; rfl, fun p hp => ?_, ?_, fun i p hp q hq hn => ?_⟩
  · rcases List.mem_append.1 hp with hp | hp
    · exact h.lt p hp
    · obtain rfl := List.mem_singleton.1 hp
      exact h2
  · rw [List.nodup_append]
    refine ⟨h.nodup, by simp, fun a ha b hb => ?_⟩
    obtain rfl := List.mem_singleton.1 hb
    exact fun e => h3 (e ▸ ha)
  · by_cases hi : i < out.length
    · rw [List.getElem?_append_left hi] at hp
      refine h.rest i p hp q hq fun hc => hn ?_
      rw [List.take_append_of_le_length (by omega)]
      exact hc
    · rw [List.getElem?_append_right (by omega)] at hp
      have hi2 : i - out.length = 0 := by
        rcases hh : i - out.length with _ | k
        · rfl
        · rw [hh] at hp; simp at hp
      rw [hi2] at hp
      obtain rfl : nextT l out = p := by simpa using hp
      rw [List.take_of_length_le (by simp; omega)] at hn
      rcases h4 q hq (fun hc => hn (List.mem_append_left _ hc)) with rfl | h5
      · exact absurd (List.mem_append_right _ (List.mem_singleton.2 rfl)) hn
      · exact h5
theorem topN_is (l : List Int) : ∀ m, m ≤ l.length → TopIs l m (topN l m)
  | 0, _ => ⟨rfl, (fun p hp => by cases hp), List.nodup_nil, fun i p hp => by simp [topN] at hp⟩
  | m + 1, h => (topN_is l m (by omega)).next (by omega)
theorem TopIs.first {l : List Int} {m : Nat} {out : List Nat} {x : Nat} (h : TopIs l (m + 1) (out ++ [x])) : TopIs l m out := by
  have hl : out.length = m := by have := h.len; simp at this; exact this
  refine ⟨hl, fun p hp => h.lt p (List.mem_append_left _ hp), (List.nodup_append.1 h.nodup).1, fun i p hp q hq hn => ?_⟩
  have hi : i < out.length := (List.getElem?_eq_some_iff.1 hp).1
  refine h.rest i p (by rw [List.getElem?_append_left hi]; exact hp) q hq ?_
  rw [List.take_append_of_le_length (by omega)]
  exact hn
theorem TopIs.unique {l : List Int} : ∀ {m : Nat} {out : List Nat}, m ≤ l.length → TopIs l m out → out = topN l m
  | 0, out, _, h => List.eq_nil_of_length_eq_zero h.len
  | m + 1, out, hm, h => by
    have hne : out ≠ [] := fun e => by have := h.len; rw [e] at this; simp at this
    obtain ⟨a, x, rfl⟩ : ∃ a x, out = a ++ [x] := ⟨out.dropLast, out.getLast hne, (List.dropLast_concat_getLast hne).symm⟩
    have ha := TopIs.unique (by omega) h.first
    have hal := h.first.len
    rw [topN, ← ha]
    congr 2
    obtain ⟨_, h2, h3, h4⟩ := nextT_spec h.first.nodup h.first.lt (by rw [hal]; omega)
    have hxl : x < l.length := h.lt x (List.mem_append_right _ (List.mem_singleton.2 rfl))
    have hxn : x ∉ a := fun hc => by
      have := (List.nodup_append.1 h.nodup).2.2 x hc x (List.mem_singleton.2 rfl)
      exact this rfl
    rcases h4 x hxl hxn with e | e
    · exact e
    · by_cases e2 : nextT l a = x
      · exact e2.symm
      · have h5 := h.rest a.length x (by simp) (nextT l a) h2 (by
          rw [List.take_of_length_le (by simp)]
          intro hc
          rcases List.mem_append.1 hc with hc | hc
          · exact h3 hc
          · exact e2 (List.mem_singleton.1 hc))
        exact absurd h5 (ahead_asymm e)
/-- the first one of the greatest -/
theorem top_one {l : List Int} (h : 0 < l.length) : l.getD (nextT l []) 0 = mostL l ∧ nextT l [] < l.length := by
  obtain ⟨_, h2, _, h4⟩ := nextT_spec (l := l) (out := []) List.nodup_nil (fun p hp => by cases hp) h
  refine ⟨most_unique h (fun x hx => ?_) (by rw [List.getD_eq_getElem?_getD, List.getElem?_eq_getElem h2]; exact List.getElem_mem _), h2⟩
  obtain ⟨i, hi, rfl⟩ := List.mem_iff_getElem.1 hx
  have e : l.getD i 0 = l[i] := by simp [hi]
  rw [← e]
  rcases h4 i hi (fun hc => by cases hc) with rfl | h5
  · exact Int.le_refl _
  · rcases h5 with h5 | h5 <;> omega
end Go.Proofs.YtchjijifmjbgoaaDoor.Tn
