import Derived.Test.YtllaecliaojmjaaDoorBa
namespace Go.Proofs.YtllaecliaojmjaaDoor.Bp

/-! ### bytes as tokens: what a coder is made of, and what it answers -/
/-- the text of a pair -/
def txt (T : List (List Int)) (p : Int × Int) : List Int := T.getD p.1.toNat [] ++ T.getD p.2.toNat []
/-- what is wrong with a pair, behind those that are seen -/
def stepE (T : List (List Int)) (seen : List (Int × Int)) (p : Int × Int) : Int :=
  if p.1 < 0 ∨ (T.length : Int) ≤ p.1 ∨ p.2 < 0 ∨ (T.length : Int) ≤ p.2 then 10 else if p ∈ seen then 15 else if 16 < (txt T p).length then 20 else 0
/-- pair by pair: what is wrong, and the texts -/
def newT (T : List (List Int)) (seen : List (Int × Int)) : List (Int × Int) → Int × List (List Int)
  | [] => (0, T)
  | p :: r => if stepE T seen p ≠ 0 then (stepE T seen p, []) else newT (T ++ [txt T p]) (seen ++ [p]) r
def one (al : List Int) : List (List Int) := al.map fun x => [x]
/-- a coder: what is wrong, and the texts -/
def newD (al : List Int) (ps : List (Int × Int)) : Int × List (List Int) :=
  if al.length < 1 ∨ 512 < al.length + ps.length then (13, []) else if ¬ al.Nodup then (15, []) else newT (one al) [] ps
theorem stepE_zero {T : List (List Int)} {seen : List (Int × Int)} {p : Int × Int} (h : stepE T seen p = 0) : (0 ≤ p.1 ∧ p.1 < T.length) ∧ (0 ≤ p.2 ∧ p.2 < T.length) ∧ p ∉ seen ∧ (txt T p).length ≤ 16 := by
  unfold stepE at h
  by_cases h1 : p.1 < 0 ∨ (T.length : Int) ≤ p.1 ∨ p.2 < 0 ∨ (T.length : Int) ≤ p.2
  · rw [if_pos h1] at h; omega
  rw [if_neg h1] at h
  by_cases h2 : p ∈ seen
  · rw [if_pos h2] at h; omega
  rw [if_neg h2] at h
  by_cases h3 : 16 < (txt T p).length
  · rw [if_pos h3] at h; omega
  exact ⟨by omega, by omega, h2, by omega⟩
/-- the texts of a coder -/
structure Texts (n : Nat) (ps : List (Int × Int)) (T : List (List Int)) : Prop where
  len : T.length = n + ps.length
  pair : ∀ k, k < ps.length → (0 ≤ (ps.getD k (0, 0)).1 ∧ (ps.getD k (0, 0)).1 < ((n + k : Nat) : Int)) ∧ (0 ≤ (ps.getD k (0, 0)).2 ∧ (ps.getD k (0, 0)).2 < ((n + k : Nat) : Int)) ∧ T.getD (n + k) [] = txt T (ps.getD k (0, 0)) ∧ (txt T (ps.getD k (0, 0))).length ≤ 16
  nodup : ps.Nodup
theorem txt_append {T U : List (List Int)} {p : Int × Int} (h1 : 0 ≤ p.1 ∧ p.1 < T.length) (h2 : 0 ≤ p.2 ∧ p.2 < T.length) : txt (T ++ U) p = txt T p := by
  unfold txt
  have e1 : (T ++ U).getD p.1.toNat [] = T.getD p.1.toNat [] := by rw [List.getD_eq_getElem?_getD, List.getElem?_append_left (by omega), ← List.getD_eq_getElem?_getD]
  have e2 : (T ++ U).getD p.2.toNat [] = T.getD p.2.toNat [] := by rw [List.getD_eq_getElem?_getD, List.getElem?_append_left (by omega), ← List.getD_eq_getElem?_getD]
  rw [e1, e2]
theorem Texts.snoc {n : Nat} {ps : List (Int × Int)} {T : List (List Int)} {p : Int × Int} (h : Texts n ps T) (hp : stepE T ps p = 0) : Texts n (ps ++ [p]) (T ++ [txt T p]) := by
  obtain ⟨h1, h2, h3, h4⟩ := stepE_zero hp
  have hl := h.len
  refine ⟨by simp [hl]; omega, fun k hk => ?_, ?_⟩
  · by_cases hkl : k < ps.length
    · have e : (ps ++ [p]).getD k (0, 0) = ps.getD k (0, 0) := by rw [List.getD_eq_getElem?_getD, List.getElem?_append_left hkl, ← List.getD_eq_getElem?_getD]
      obtain ⟨a, b, c, d⟩ := h.pair k hkl
      rw [e, txt_append (by omega) (by omega)]
      refine ⟨a, b, ?_, d⟩
      rw [List.getD_eq_getElem?_getD, List.getElem?_append_left (by omega), ← List.getD_eq_getElem?_getD]
      exact c
    · have hk2 : k = ps.length := by simp at hk; omega
      subst hk2
      have e : (ps ++ [p]).getD ps.length (0, 0) = p := by simp
      rw [e, txt_append h1 h2]
      refine ⟨by omega, by omega, ?_, h4⟩
      rw [← hl]
      simp
  · rw [List.nodup_append]
    refine ⟨h.nodup, by simp, fun a ha b hb => ?_⟩
    obtain rfl : b = p := by simpa using hb
    exact fun e => h3 (e ▸ ha)
theorem newT_texts (n : Nat) : ∀ (r seen : List (Int × Int)) (T U : List (List Int)), Texts n seen T → newT T seen r = (0, U) → Texts n (seen ++ r) U ∧ ∃ V, U = T ++ V
  | [], seen, T, U, h, e => by
    simp only [newT, Prod.mk.injEq] at e
    obtain ⟨_, rfl⟩ := e
    exact ⟨by simpa using h, [], by simp⟩
  | p :: r, seen, T, U, h, e => by
    rw [newT] at e
    by_cases hs : stepE T seen p = 0
    · rw [if_neg (by omega)] at e
      obtain ⟨h1, V, h2⟩ := newT_texts n r (seen ++ [p]) _ U (h.snoc hs) e
      exact ⟨by simpa using h1, txt T p :: V, by rw [h2]; simp⟩
    · rw [if_pos hs] at e
      simp only [Prod.mk.injEq] at e
      exact absurd e.1 hs
theorem newT_wrong : ∀ (r seen : List (Int × Int)) (T : List (List Int)), (newT T seen r).1 ≠ 0 → (newT T seen r).2 = []
  | [], _, _, h => absurd rfl h
  | p :: r, seen, T, h => by
    rw [newT] at h ⊢
    by_cases hs : stepE T seen p ≠ 0
    · rw [if_pos hs]
    · rw [if_neg hs] at h ⊢
      exact newT_wrong r _ _ h
theorem newD_yes {al : List Int} {ps : List (Int × Int)} (h : (newD al ps).1 = 0) : 1 ≤ al.length ∧ al.length + ps.length ≤ 512 ∧ al.Nodup ∧ Texts al.length ps (newD al ps).2 ∧ ∃ V, (newD al ps).2 = one al ++ V := by
  unfold newD at h ⊢
  by_cases h1 : al.length < 1 ∨ 512 < al.length + ps.length
  · rw [if_pos h1] at h; exact absurd h (by decide)
  rw [if_neg h1] at h ⊢
  by_cases h2 : ¬ al.Nodup
  · rw [if_pos h2] at h; exact absurd h (by decide)
  rw [if_neg h2] at h ⊢
  have h0 : Texts al.length [] (one al) := ⟨by simp [one], fun k hk => by simp at hk, List.nodup_nil⟩
  obtain ⟨a, b⟩ := newT_texts al.length ps [] (one al) (newT (one al) [] ps).2 h0 (by rw [← h])
  exact ⟨by omega, by omega, Decidable.not_not.1 h2, by simpa using a, b⟩
theorem newD_no {al : List Int} {ps : List (Int × Int)} (h : (newD al ps).1 ≠ 0) : (newD al ps).2 = [] := by
  unfold newD at h ⊢
  by_cases h1 : al.length < 1 ∨ 512 < al.length + ps.length
  · rw [if_pos h1]
  rw [if_neg h1] at h ⊢
  by_cases h2 : ¬ al.Nodup
  · rw [if_pos h2]
  rw [if_neg h2] at h ⊢
  exact newT_wrong _ _ _ h
/-- the tokens of bytes at first -/
def firsts (al b : List Int) : List Int := b.map fun x => (al.idxOf x : Int)
/-- the place of the first byte that is not in the alphabet -/
def badAt (al b : List Int) : Option Nat := b.findIdx? fun x => decide (x ∉ al)
/-- what Encode tells: tokens, a place, what is wrong -/
def encD (al : List Int) (ps : List (Int × Int)) (b : List Int) : List Int × Nat × Int :=
  if 4096 < b.length then ([], 0, 20) else match badAt al b with
    | some i => ([], i, 14)
    | none => (enc ps al.length b.length (firsts al b), 0, 0)
/-- what Decode tells: bytes, what is wrong -/
def decD (T : List (List Int)) (l : List Int) : List Int × Int := if ∀ x ∈ l, 0 ≤ x ∧ x < T.length then (dec T l, 0) else ([], 10)
theorem firsts_dec {al b : List Int} {V : List (List Int)} (h : ∀ x ∈ b, x ∈ al) : dec (one al ++ V) (firsts al b) = b := by
  induction b with
  | nil => rfl
  | cons x r ih =>
    have hx := List.idxOf_lt_length_of_mem (h x (by simp))
    have e : (one al ++ V).getD (al.idxOf x) [] = [x] := by
      rw [List.getD_eq_getElem?_getD, List.getElem?_append_left (by simpa [one] using hx)]
      simp [one, hx]
    have ih' := ih (fun y hy => h y (List.mem_cons_of_mem _ hy))
    simp only [dec, firsts, List.map_cons, List.flatMap_cons, Int.toNat_natCast] at ih' ⊢
    rw [e, ih']
    rfl
theorem badAt_none {al b : List Int} (h : badAt al b = none) : ∀ x ∈ b, x ∈ al := fun x hx => by
  unfold badAt at h
  rw [List.findIdx?_eq_none_iff] at h
  have := h x hx
  simpa using this
/-- tokens stay tokens -/
theorem merg_in {p : Int × Int} {t M : Int} (ht : 0 ≤ t ∧ t < M) : ∀ {l : List Int}, (∀ x ∈ l, 0 ≤ x ∧ x < M) → ∀ x ∈ merg p t l, 0 ≤ x ∧ x < M := by
  intro l
  fun_induction merg p t l with
  | case1 x y r hxy ih =>
    intro h z hz
    rcases List.mem_cons.1 hz with rfl | hz
    · exact ht
    · exact ih (fun w hw => h w (List.mem_cons_of_mem _ (List.mem_cons_of_mem _ hw))) z hz
  | case2 x y r hxy ih =>
    intro h z hz
    rcases List.mem_cons.1 hz with rfl | hz
    · exact h _ (by simp)
    · exact ih (fun w hw => h w (List.mem_cons_of_mem _ hw)) z hz
  | case3 l hl => exact fun h => h
theorem enc_in {ps : List (Int × Int)} {base : Int} (h0 : 0 ≤ base) : ∀ (f : Nat) (l : List Int), (∀ x ∈ l, 0 ≤ x ∧ x < base + ps.length) → ∀ x ∈ enc ps base f l, 0 ≤ x ∧ x < base + ps.length
  | 0, _, h => h
  | f + 1, l, h => by
    unfold enc
    split
    · exact h
    · rename_i k hk
      have := (fst_some hk).1
      exact enc_in h0 f _ (merg_in ⟨by omega, by omega⟩ h)
/-- Decode of Encode is the bytes -/
theorem back {al b : List Int} {ps : List (Int × Int)} (h : (newD al ps).1 = 0) (hb : badAt al b = none) : decD (newD al ps).2 (enc ps al.length b.length (firsts al b)) = (b, 0) := by
  obtain ⟨_, _, _, hT, V, hV⟩ := newD_yes h
  have hin : ∀ x ∈ firsts al b, (0 : Int) ≤ x ∧ x < (al.length : Int) + ps.length := fun x hx => by
    obtain ⟨y, hy, rfl⟩ := List.mem_map.1 hx
    have := List.idxOf_lt_length_of_mem (badAt_none hb y hy)
    omega
  unfold decD
  rw [if_pos (fun x hx => by
    have := enc_in (ps := ps) (base := al.length) (by omega) _ _ hin x hx
    rw [hT.len]
    omega)]
  rw [dec_enc _ ps _ (fun k hk => by
    have e : ((al.length : Int) + (k : Int)).toNat = al.length + k := by omega
    rw [e]
    exact (hT.pair k hk).2.2.1), hV, firsts_dec (badAt_none hb)]
end Go.Proofs.YtllaecliaojmjaaDoor.Bp
