import Derived.Lib.Hide
namespace Go.Proofs.YtllaecliaojmjaaDoor.Bp

/-! ### bytes as tokens: the mathematics (tokens are whole numbers, a pair is two of them) -/
/-- are there two neighbours that are the pair -/
def nbr (p : Int × Int) : List Int → Bool
  | x :: y :: r => decide (x = p.1 ∧ y = p.2) || nbr p (y :: r)
  | _ => false
/-- neighbours that are the pair become one token, from the left -/
def merg (p : Int × Int) (t : Int) : List Int → List Int
  | x :: y :: r => if x = p.1 ∧ y = p.2 then t :: merg p t r else x :: merg p t (y :: r)
  | l => l
theorem merg_length (p : Int × Int) (t : Int) (l : List Int) : (merg p t l).length ≤ l.length := by
  fun_induction merg p t l <;> simp_all <;> omega
theorem merg_less (p : Int × Int) (t : Int) (l : List Int) (h : nbr p l = true) : (merg p t l).length < l.length := by
  fun_induction merg p t l with
  | case1 x y r hxy ih => have := merg_length p t r; simp; omega
  | case2 x y r hxy ih =>
    simp [nbr, hxy] at h
    have := ih h
    simp at this ⊢
    omega
  | case3 l hl =>
    rcases l with _ | ⟨x, _ | ⟨y, r⟩⟩
    · simp [nbr] at h
    · simp [nbr] at h
    · exact absurd rfl (hl x y r)
theorem merg_same (p : Int × Int) (t : Int) (l : List Int) (h : nbr p l = false) : merg p t l = l := by
  fun_induction merg p t l with
  | case1 x y r hxy ih => simp [nbr, hxy] at h
  | case2 x y r hxy ih =>
    simp [nbr, hxy] at h
    rw [ih h]
  | case3 l hl => rfl
/-- the text of tokens -/
def dec (T : List (List Int)) (l : List Int) : List Int := l.flatMap fun x => T.getD x.toNat []
theorem dec_merg (T : List (List Int)) (p : Int × Int) (t : Int) (hT : T.getD t.toNat [] = T.getD p.1.toNat [] ++ T.getD p.2.toNat []) (l : List Int) : dec T (merg p t l) = dec T l := by
  fun_induction merg p t l with
  | case1 x y r hxy ih =>
    obtain ⟨rfl, rfl⟩ := hxy
    simp only [dec, List.flatMap_cons] at ih ⊢
    rw [ih, hT, List.append_assoc]
  | case2 x y r hxy ih =>
    simp only [dec, List.flatMap_cons] at ih ⊢
    rw [ih]
  | case3 l hl => rfl
/-- the first pair from the k-th one on of which there are neighbours -/
def fst (ps : List (Int × Int)) (l : List Int) : Option Nat := ps.findIdx? fun p => nbr p l
/-- as long as two neighbours are a pair: f times at most -/
def enc (ps : List (Int × Int)) (base : Int) : Nat → List Int → List Int
  | 0, l => l
  | f + 1, l => match fst ps l with
    | none => l
    | some k => enc ps base f (merg (ps.getD k (0, 0)) (base + k) l)
theorem fst_some {ps : List (Int × Int)} {l : List Int} {k : Nat} (h : fst ps l = some k) : k < ps.length ∧ nbr (ps.getD k (0, 0)) l = true ∧ ∀ j, j < k → nbr (ps.getD j (0, 0)) l = false := by
  unfold fst at h
  rw [List.findIdx?_eq_some_iff_getElem] at h
  obtain ⟨hk, h1, h2⟩ := h
  refine ⟨hk, by simpa [hk] using h1, fun j hj => ?_⟩
  have := h2 j hj
  have hjl : j < ps.length := by omega
  simpa [hjl] using this
theorem fst_none {ps : List (Int × Int)} {l : List Int} (h : fst ps l = none) : ∀ p ∈ ps, nbr p l = false := by
  unfold fst at h
  rw [List.findIdx?_eq_none_iff] at h
  exact fun p hp => by simpa using h p hp
theorem enc_done (ps : List (Int × Int)) (base : Int) : ∀ (f : Nat) (l : List Int), l.length ≤ f → fst ps (enc ps base f l) = none
  | 0, l, h => by
    obtain rfl : l = [] := List.eq_nil_of_length_eq_zero (by omega)
    unfold enc fst
    rw [List.findIdx?_eq_none_iff]
    intro p _
    simp [nbr]
  | f + 1, l, h => by
    unfold enc
    split
    · assumption
    · rename_i k hk
      have h1 := merg_less (ps.getD k (0, 0)) (base + k) l (fst_some hk).2.1
      exact enc_done ps base f _ (by omega)
theorem enc_length (ps : List (Int × Int)) (base : Int) : ∀ (f : Nat) (l : List Int), (enc ps base f l).length ≤ l.length
  | 0, l => Nat.le_refl _
  | f + 1, l => by
    unfold enc
    split
    · exact Nat.le_refl _
    · exact Nat.le_trans (enc_length ps base f _) (merg_length _ _ _)
theorem dec_enc (T : List (List Int)) (ps : List (Int × Int)) (base : Int) (hT : ∀ k, k < ps.length → T.getD (base + k).toNat [] = T.getD (ps.getD k (0, 0)).1.toNat [] ++ T.getD (ps.getD k (0, 0)).2.toNat []) : ∀ (f : Nat) (l : List Int), dec T (enc ps base f l) = dec T l
  | 0, l => rfl
  | f + 1, l => by
    unfold enc
    split
    · rfl
    · rename_i k hk
      rw [dec_enc T ps base hT f, dec_merg T _ _ (hT k (fst_some hk).1)]
/-- more turns do not count -/
theorem enc_more (ps : List (Int × Int)) (base : Int) : ∀ (f g : Nat) (l : List Int), l.length ≤ f → f ≤ g → enc ps base g l = enc ps base f l
  | 0, g, l, h, _ => by
    obtain rfl : l = [] := List.eq_nil_of_length_eq_zero (by omega)
    have hn : fst ps [] = none := by
      unfold fst
      rw [List.findIdx?_eq_none_iff]
      intro p _
      simp [nbr]
    rcases g with _ | g
    · rfl
    · unfold enc; rw [hn]
  | f + 1, 0, l, _, hg => by omega
  | f + 1, g + 1, l, h, hg => by
    unfold enc
    split
    · rfl
    · rename_i k hk
      have h1 := merg_less (ps.getD k (0, 0)) (base + k) l (fst_some hk).2.1
      exact enc_more ps base f g _ (by omega) (by omega)
/-- no pair of merged neighbours stays, if the token is none of it -/
theorem nbr_merg_self (p : Int × Int) (t : Int) (h1 : t ≠ p.1) (h2 : t ≠ p.2) (l : List Int) : nbr p (merg p t l) = false := by
  suffices h : ∀ l : List Int, nbr p (merg p t l) = false ∧ ∀ x, x = p.1 → (l.head? = some p.2 → False) → nbr p (x :: merg p t l) = false by exact (h l).1
  intro l
  fun_induction merg p t l with
  | case1 x y r hxy ih =>
    have key : nbr p (t :: merg p t r) = false := by
      rcases hm : merg p t r with _ | ⟨z, q⟩
      · simp [nbr]
      · have := ih.1
        rw [hm] at this
        simp only [nbr, Bool.or_eq_false_iff, decide_eq_false_iff_not]
        exact ⟨fun h => h1 h.1, this⟩
    refine ⟨key, fun z hz _ => ?_⟩
    simp only [nbr, Bool.or_eq_false_iff, decide_eq_false_iff_not]
    exact ⟨fun h => h2 h.2, key⟩
  | case2 x y r hxy ih =>
    have key : nbr p (x :: merg p t (y :: r)) = false := by
      by_cases hx : x = p.1
      · exact ih.2 x hx (fun h => hxy ⟨hx, by simpa using h⟩)
      · rcases hm : merg p t (y :: r) with _ | ⟨z, q⟩
        · simp [nbr]
        · have := ih.1
          rw [hm] at this
          simp only [nbr, Bool.or_eq_false_iff, decide_eq_false_iff_not]
          exact ⟨fun h => hx h.1, this⟩
    refine ⟨key, fun z hz hh => ?_⟩
    simp only [nbr, Bool.or_eq_false_iff, decide_eq_false_iff_not]
    exact ⟨fun h => hh (by simp [h.2]), key⟩
  | case3 l hl =>
    rcases l with _ | ⟨x, _ | ⟨y, r⟩⟩
    · exact ⟨by simp [nbr], fun z _ _ => by simp [nbr]⟩
    · refine ⟨by simp [nbr], fun z _ hh => ?_⟩
      simp only [nbr, Bool.or_false, decide_eq_false_iff_not]
      exact fun h => hh (by simp [h.2])
    · exact absurd rfl (hl x y r)
/-- another pair of which the token is none has no new neighbours -/
theorem nbr_merg_other (p q : Int × Int) (t : Int) (h1 : t ≠ q.1) (h2 : t ≠ q.2) (l : List Int) (hq : nbr q l = false) : nbr q (merg p t l) = false := by
  suffices h : ∀ l : List Int, nbr q l = false → nbr q (merg p t l) = false ∧ ∀ x, (∀ y, l.head? = some y → ¬ (x = q.1 ∧ y = q.2)) → nbr q (x :: merg p t l) = false by exact (h l hq).1
  intro l hq
  fun_induction merg p t l with
  | case1 x y r hxy ih =>
    have hr : nbr q r = false := by
      rcases r with _ | ⟨z, s⟩
      · rfl
      · simp only [nbr, Bool.or_eq_false_iff] at hq; exact hq.2.2
    have key : nbr q (t :: merg p t r) = false := by
      rcases hm : merg p t r with _ | ⟨z, s⟩
      · simp [nbr]
      · have := (ih hr).1
        rw [hm] at this
        simp only [nbr, Bool.or_eq_false_iff, decide_eq_false_iff_not]
        exact ⟨fun h => h1 h.1, this⟩
    refine ⟨key, fun z _ => ?_⟩
    simp only [nbr, Bool.or_eq_false_iff, decide_eq_false_iff_not]
    exact ⟨fun h => h2 h.2, key⟩
  | case2 x y r hxy ih =>
    simp only [nbr, Bool.or_eq_false_iff, decide_eq_false_iff_not] at hq
    have key : nbr q (x :: merg p t (y :: r)) = false := (ih hq.2).2 x (fun z hz => by
      simp at hz
      subst hz
      exact hq.1)
    refine ⟨key, fun z hh => ?_⟩
    simp only [nbr, Bool.or_eq_false_iff, decide_eq_false_iff_not]
    exact ⟨hh x (by simp), key⟩
  | case3 l hl =>
    refine ⟨hq, fun z hh => ?_⟩
    rcases l with _ | ⟨x, r⟩
    · simp [nbr]
    · simp only [nbr, Bool.or_eq_false_iff, decide_eq_false_iff_not]
      refine ⟨hh x (by simp), ?_⟩
      first | exact hq | trivial
/-- one more pair, behind all others, merges just its neighbours in what came without it -/
theorem enc_last (ps : List (Int × Int)) (p : Int × Int) (base : Int) (hp : ∀ q ∈ ps ++ [p], base + ps.length ≠ q.1 ∧ base + ps.length ≠ q.2) : ∀ (f : Nat) (l : List Int), l.length ≤ f → enc (ps ++ [p]) base f l = merg p (base + ps.length) (enc ps base f l)
  | 0, l, h => by
    obtain rfl : l = [] := List.eq_nil_of_length_eq_zero (by omega)
    rfl
  | f + 1, l, h => by
    rcases hf : fst ps l with _ | k
    · have hno := fst_none hf
      have e1 : enc ps base (f + 1) l = l := by unfold enc; rw [hf]
      rw [e1]
      by_cases hn : nbr p l = true
      · have hk : fst (ps ++ [p]) l = some ps.length := by
          unfold fst
          rw [List.findIdx?_eq_some_iff_getElem]
          refine ⟨by simp, by simpa using hn, fun j hj => ?_⟩
          have := hno ps[j] (List.getElem_mem _)
          simp [List.getElem_append_left hj, this]
        have hg : (ps ++ [p]).getD ps.length (0, 0) = p := by simp
        have e2 : enc (ps ++ [p]) base (f + 1) l = enc (ps ++ [p]) base f (merg p (base + ps.length) l) := by
          rw [enc, hk]
          simp only [hg]
        rw [e2]
        have hall : fst (ps ++ [p]) (merg p (base + ps.length) l) = none := by
          unfold fst
          rw [List.findIdx?_eq_none_iff]
          intro q hq
          have ht := hp q hq
          rcases List.mem_append.1 hq with h1 | h1
          · simpa using nbr_merg_other p q _ ht.1 ht.2 l (hno q h1)
          · obtain rfl : q = p := by simpa using h1
            simpa using nbr_merg_self q _ ht.1 ht.2 l
        rcases f with _ | f
        · rfl
        · unfold enc; rw [hall]
      · have hn : nbr p l = false := by simpa using hn
        have hall : fst (ps ++ [p]) l = none := by
          unfold fst
          rw [List.findIdx?_eq_none_iff]
          intro q hq
          rcases List.mem_append.1 hq with h1 | h1
          · simpa using hno q h1
          · obtain rfl : q = p := by simpa using h1
            simpa using hn
        rw [merg_same p _ l hn]
        unfold enc
        rw [hall]
    · obtain ⟨hkl, hkn, hkb⟩ := fst_some hf
      have hk : fst (ps ++ [p]) l = some k := by
        unfold fst
        rw [List.findIdx?_eq_some_iff_getElem]
        refine ⟨by simp; omega, ?_, fun j hj => ?_⟩
        · rw [List.getElem_append_left hkl]; simpa [hkl] using hkn
        · have hjl : j < ps.length := by omega
          rw [List.getElem_append_left hjl]
          simpa [hjl] using hkb j hj
      have hg : (ps ++ [p]).getD k (0, 0) = ps.getD k (0, 0) := by
        simp only [List.getD_eq_getElem?_getD]
        rw [List.getElem?_append_left hkl]
      have e1 : enc ps base (f + 1) l = enc ps base f (merg (ps.getD k (0, 0)) (base + k) l) := by rw [enc, hf]
      have e2 : enc (ps ++ [p]) base (f + 1) l = enc (ps ++ [p]) base f (merg (ps.getD k (0, 0)) (base + k) l) := by rw [enc, hk]; simp only [hg]
      have h1 := merg_less (ps.getD k (0, 0)) (base + k) l hkn
      rw [e1, e2]
      exact enc_last ps p base hp f _ (by omega)
end Go.Proofs.YtllaecliaojmjaaDoor.Bp
