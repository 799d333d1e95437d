import Derived.Test.YtchjijifmjbgoaaDoorFa
namespace Go.Proofs.YtchjijifmjbgoaaDoor.Tn
open Go.Proofs.YtchjijifmjbgoaaDoor.Fx

/-! ### vectors and matrices (mathematics) -/
def isW (n : Int) : Prop := -16777216 ≤ n ∧ n ≤ 16777216
instance (n : Int) : Decidable (isW n) := inferInstanceAs (Decidable (_ ∧ _))
/-- what is wrong with a vector, with a matrix -/
def chkV (l : List Int) : Int := if l.length < 1 ∨ 512 < l.length then 13 else if ∀ x ∈ l, isN x then 0 else 10
def sizeM (r c : Int) (n : Nat) : Prop := 1 ≤ r ∧ r ≤ 512 ∧ 1 ≤ c ∧ c ≤ 64 ∧ (n : Int) = r * c
instance (r c : Int) (n : Nat) : Decidable (sizeM r c n) := inferInstanceAs (Decidable (_ ∧ _))
def chkM (r c : Int) (l : List Int) : Int := if ¬ sizeM r c l.length then 13 else if ∀ x ∈ l, isW x then 0 else 10
/-- a number that is none -/
def over (v : Int) : Int := if isN v then 0 else 17
def orNil (v : Int) : Int := if isN v then v else 0

/-! #### the sum of products -/
def dotS : List Int → List Int → Int
  | a :: as, b :: bs => a * b + dotS as bs
  | _, _ => 0
theorem dotS_snoc : ∀ (as bs : List Int) (a b : Int), as.length = bs.length → dotS (as ++ [a]) (bs ++ [b]) = dotS as bs + a * b
  | [], [], a, b, _ => by simp [dotS]
  | [], _ :: _, _, _, h => by simp at h
  | _ :: _, [], _, _, h => by simp at h
  | x :: as, y :: bs, a, b, h => by
    rw [List.cons_append, List.cons_append, dotS, dotS, dotS_snoc as bs a b (by simpa using h)]
    omega
theorem take_snoc (l : List Int) (k : Nat) (h : k < l.length) : l.take (k + 1) = l.take k ++ [l.getD k 0] := by
  have e : l.getD k 0 = l[k] := by simp [h]
  rw [e, List.take_succ_eq_append_getElem h]
theorem dotS_take (as bs : List Int) (k : Nat) (ha : k < as.length) (hb : k < bs.length) : dotS (as.take (k + 1)) (bs.take (k + 1)) = dotS (as.take k) (bs.take k) + as.getD k 0 * bs.getD k 0 := by
  rw [take_snoc as k ha, take_snoc bs k hb, dotS_snoc _ _ _ _ (by simp; omega)]
theorem mul_small {a b A B : Int} (ha : -A ≤ a ∧ a ≤ A) (hb : -B ≤ b ∧ b ≤ B) : -(A * B) ≤ a * b ∧ a * b ≤ A * B := by
  have h := Int.natAbs_mul a b
  have h2 : a.natAbs * b.natAbs ≤ A.toNat * B.toNat := Nat.mul_le_mul (by omega) (by omega)
  have h3 : ((A.toNat * B.toNat : Nat) : Int) = A * B := by rw [Int.natCast_mul, Int.toNat_of_nonneg (by omega), Int.toNat_of_nonneg (by omega)]
  omega
theorem dotS_small {M : Int} : ∀ (as bs : List Int), (∀ (i : Nat), i < as.length → i < bs.length → -M ≤ as.getD i 0 * bs.getD i 0 ∧ as.getD i 0 * bs.getD i 0 ≤ M) → 0 ≤ M → -(as.length * M) ≤ dotS as bs ∧ dotS as bs ≤ as.length * M
  | [], _, _, hM => by simp [dotS]
  | a :: as, [], _, hM => by
    have h : 0 ≤ ((a :: as).length : Int) * M := Int.mul_nonneg (by omega) hM
    simp only [dotS]
    omega
  | a :: as, b :: bs, h, hM => by
    have h0 := h 0 (by simp) (by simp)
    have ih := dotS_small as bs (fun i hi hj => by have := h (i + 1) (by simpa using hi) (by simpa using hj); simpa using this) hM
    have e : ((a :: as).length : Int) * M = as.length * M + M := by rw [List.length_cons, Int.natCast_add, Int.add_mul]; omega
    rw [e, dotS]
    simp only [List.getD_cons_zero] at h0
    omega
def dotOk (row v : List Int) : Prop := row.length = v.length ∧ 1 ≤ v.length ∧ v.length ≤ 64
instance (row v : List Int) : Decidable (dotOk row v) := inferInstanceAs (Decidable (_ ∧ _))
def dotIn (row v : List Int) : Prop := (∀ x ∈ row, isW x) ∧ (∀ x ∈ v, isN x)
instance (row v : List Int) : Decidable (dotIn row v) := inferInstanceAs (Decidable (_ ∧ _))
def dotE (row v : List Int) : Int := if ¬ dotOk row v then 13 else if dotIn row v then over (rnd (dotS row v)) else 10
def dotR (row v : List Int) : Int := if dotOk row v ∧ dotIn row v then orNil (rnd (dotS row v)) else 0
theorem in_of {p : Int → Prop} {l : List Int} (h : ∀ x ∈ l, p x) (i : Nat) (hi : i < l.length) : p (l.getD i 0) := by
  rw [List.getD_eq_getElem?_getD, List.getElem?_eq_getElem hi]
  exact h _ (List.getElem_mem _)
theorem not_in {p : Int → Prop} [DecidablePred p] {l : List Int} (h : ¬ ∀ x ∈ l, p x) : ∃ j, j < l.length ∧ ¬ p (l.getD j 0) ∧ ∀ i, i < j → p (l.getD i 0) := by
  induction l with
  | nil => exact absurd (fun x hx => by cases hx) h
  | cons a l ih =>
    by_cases ha : p a
    · obtain ⟨j, h1, h2, h3⟩ := ih (fun hl => h fun x hx => by
        rcases List.mem_cons.1 hx with rfl | hx
        · exact ha
        · exact hl x hx)
      refine ⟨j + 1, by simpa using h1, by simpa using h2, fun i hi => ?_⟩
      rcases i with _ | i
      · simpa using ha
      · simpa using h3 i (by omega)
    · exact ⟨0, by simp, by simpa using ha, fun i hi => by omega⟩
theorem dot_small {row v : List Int} (h : dotIn row v) (k : Nat) (hk : k ≤ 64) : -2305843009213693952 ≤ dotS (row.take k) (v.take k) ∧ dotS (row.take k) (v.take k) ≤ 2305843009213693952 := by
  have h1 := dotS_small (M := 36028797018963968) (row.take k) (v.take k) (fun i hi hj => by
    have hi' : i < row.length := by simp at hi; omega
    have hj' : i < v.length := by simp at hj; omega
    have e1 : (row.take k).getD i 0 = row.getD i 0 := by
      have : i < k := by simp at hi; omega
      simp [List.getD_eq_getElem?_getD, this]
    have e2 : (v.take k).getD i 0 = v.getD i 0 := by
      have : i < k := by simp at hi; omega
      simp [List.getD_eq_getElem?_getD, this]
    rw [e1, e2]
    have a1 := in_of h.1 i hi'
    have a2 := in_of h.2 i hj'
    unfold isW at a1
    unfold isN at a2
    have := mul_small (a := row.getD i 0) (b := v.getD i 0) (A := 16777216) (B := 2147483648) a1 (by omega)
    omega) (by omega)
  have h2 : ((row.take k).length : Int) ≤ 64 := by simp; omega
  have h3 : ((row.take k).length : Int) * 36028797018963968 ≤ 64 * 36028797018963968 := Int.mul_le_mul_of_nonneg_right h2 (by omega)
  omega

/-! #### shares -/
def mostL (l : List Int) : Int := l.foldl max (l.getD 0 0)
theorem fold_max : ∀ (l : List Int) (a : Int), a ≤ l.foldl max a ∧ (∀ x ∈ l, x ≤ l.foldl max a) ∧ (l.foldl max a = a ∨ l.foldl max a ∈ l)
  | [], a => ⟨Int.le_refl _, (fun x hx => by cases hx), Or.inl rfl⟩
  | b :: l, a => by
    obtain ⟨h1, h2, h3⟩ := fold_max l (max a b)
    rw [List.foldl_cons]
    refine ⟨by omega, fun x hx => ?_, ?_⟩
    · rcases List.mem_cons.1 hx with rfl | hx
      · omega
      · exact h2 x hx
    · rcases h3 with h3 | h3
      · rw [h3]
        by_cases h : a ≤ b
        · right; rw [Int.max_eq_right h]; exact List.mem_cons_self ..
        · left; exact Int.max_eq_left (by omega)
      · right; exact List.mem_cons_of_mem _ h3
theorem most_le (l : List Int) : ∀ x ∈ l, x ≤ mostL l := (fold_max l _).2.1
theorem most_mem {l : List Int} (h : 0 < l.length) : mostL l ∈ l := by
  rcases (fold_max l (l.getD 0 0)).2.2 with h1 | h1
  · rw [mostL, h1, List.getD_eq_getElem?_getD, List.getElem?_eq_getElem h]
    exact List.getElem_mem _
  · exact h1
theorem most_unique {l : List Int} {m : Int} (h0 : 0 < l.length) (h : ∀ x ∈ l, x ≤ m) (hm : m ∈ l) : m = mostL l := by
  have h1 := most_le l m hm
  have h2 := h _ (most_mem h0)
  omega
theorem most_map (l : List Int) (d : Int) (h : 0 < l.length) : mostL (l.map (· + d)) = mostL l + d := by
  symm
  refine most_unique (by simpa using h) (fun x hx => ?_) (List.mem_map.2 ⟨_, most_mem h, rfl⟩)
  obtain ⟨y, hy, rfl⟩ := List.mem_map.1 hx
  have := most_le l y hy
  omega
def exs (l : List Int) : List Int := l.map fun x => ex (x - mostL l)
def smx (l : List Int) : List Int := (exs l).map fun e => e * 65536 / (exs l).sum
theorem ex_zero : ex 0 = 65536 := by decide
theorem exs_in {l : List Int} : ∀ e ∈ exs l, 0 ≤ e ∧ e ≤ 65536 := fun e he => by
  obtain ⟨x, _, rfl⟩ := List.mem_map.1 he
  exact ex_le _
theorem sum_in {A : Int} : ∀ (l : List Int), (∀ e ∈ l, 0 ≤ e ∧ e ≤ A) → 0 ≤ l.sum ∧ l.sum ≤ l.length * A
  | [], _ => by simp
  | x :: l, h => by
    have h1 := h x (List.mem_cons_self ..)
    have h2 := sum_in l (fun e he => h e (List.mem_cons_of_mem _ he))
    rw [List.sum_cons, List.length_cons, Int.natCast_add, Int.add_mul]
    omega
theorem le_sum : ∀ (l : List Int), (∀ e ∈ l, 0 ≤ e) → ∀ x ∈ l, x ≤ l.sum
  | [], _, x, hx => by cases hx
  | y :: l, h, x, hx => by
    have h1 := h y (List.mem_cons_self ..)
    have h2 : 0 ≤ l.sum := by
      have : ∀ (l : List Int), (∀ e ∈ l, 0 ≤ e) → 0 ≤ l.sum := fun l h => by
        induction l with
        | nil => simp
        | cons a l ih =>
          have h1 := h a (List.mem_cons_self ..)
          have h2 := ih (fun e he => h e (List.mem_cons_of_mem _ he))
          rw [List.sum_cons]
          omega
      exact this l fun e he => h e (List.mem_cons_of_mem _ he)
    rw [List.sum_cons]
    rcases List.mem_cons.1 hx with rfl | hx
    · omega
    · have := le_sum l (fun e he => h e (List.mem_cons_of_mem _ he)) x hx
      omega
theorem exs_sum {l : List Int} (h0 : 0 < l.length) (h : l.length ≤ 512) : 65536 ≤ (exs l).sum ∧ (exs l).sum ≤ 33554432 := by
  have h1 := sum_in (A := 65536) (exs l) exs_in
  have h2 : (65536 : Int) ∈ exs l := List.mem_map.2 ⟨mostL l, most_mem h0, by rw [Int.sub_self]; exact ex_zero⟩
  have h3 := le_sum (exs l) (fun e he => (exs_in e he).1) _ h2
  have h4 : ((exs l).length : Int) ≤ 512 := by unfold exs; rw [List.length_map]; omega
  have h5 : ((exs l).length : Int) * 65536 ≤ 512 * 65536 := Int.mul_le_mul_of_nonneg_right h4 (by omega)
  omega
/-- floors of shares, together -/
theorem floors {S : Int} (hS : 0 < S) : ∀ (l : List Int), (l.map fun e => e * 65536 / S).sum * S ≤ l.sum * 65536 ∧ l.sum * 65536 ≤ (l.map fun e => e * 65536 / S).sum * S + l.length * S ∧ (0 < l.length → l.sum * 65536 < (l.map fun e => e * 65536 / S).sum * S + l.length * S)
  | [] => by simp
  | x :: l => by
    obtain ⟨h1, h2, _⟩ := floors hS l
    have h3 := Int.ediv_mul_le (x * 65536) (show S ≠ 0 by omega)
    have h4 := Int.lt_ediv_add_one_mul_self (x * 65536) hS
    rw [Int.add_mul, Int.one_mul] at h4
    rw [List.map_cons, List.sum_cons, List.sum_cons, List.length_cons, Int.natCast_add, Int.add_mul, Int.add_mul, Int.add_mul]
    have e : ((1 : Nat) : Int) * S = S := by rw [show ((1 : Nat) : Int) = 1 from rfl, Int.one_mul]
    rw [e]
    refine ⟨by omega, by omega, fun _ => by omega⟩
theorem smx_sum {l : List Int} (h0 : 0 < l.length) (h : l.length ≤ 512) : (smx l).sum ≤ 65536 ∧ 65536 - (l.length : Int) < (smx l).sum := by
  have hs := exs_sum h0 h
  obtain ⟨h1, _, h2⟩ := floors (S := (exs l).sum) (by omega) (exs l)
  have hl : (exs l).length = l.length := by unfold exs; exact List.length_map ..
  have h3 := h2 (by omega)
  rw [hl] at h3
  have e : ((exs l).map fun e => e * 65536 / (exs l).sum).sum = (smx l).sum := rfl
  rw [e] at h1 h3
  obtain ⟨S, hS⟩ : ∃ S, (exs l).sum = S := ⟨_, rfl⟩
  rw [hS] at h1 h3 hs
  have hS0 : 0 < S := by omega
  constructor
  · have := Int.le_of_mul_le_mul_right (show (smx l).sum * S ≤ 65536 * S by omega) hS0
    omega
  · have h4 : (65536 - (l.length : Int)) * S < (smx l).sum * S := by rw [Int.sub_mul]; omega
    exact Int.lt_of_mul_lt_mul_right h4 (by omega)
theorem smx_length (l : List Int) : (smx l).length = l.length := by simp [smx, exs]
theorem smx_get {l : List Int} (i : Nat) (hi : i < l.length) : (smx l).getD i 0 = ex (l.getD i 0 - mostL l) * 65536 / (exs l).sum := by
  simp [smx, exs, hi]
theorem smx_in {l : List Int} (h0 : 0 < l.length) (h : l.length ≤ 512) (i : Nat) (hi : i < l.length) : 0 ≤ (smx l).getD i 0 ∧ (smx l).getD i 0 ≤ 65536 := by
  have hs := exs_sum h0 h
  rw [smx_get i hi]
  have h1 := ex_le (l.getD i 0 - mostL l)
  constructor
  · exact Int.ediv_nonneg (by omega) (by omega)
  · have h2 : ex (l.getD i 0 - mostL l) * 65536 ≤ (exs l).sum * 65536 := by omega
    have h3 := Int.ediv_le_ediv (c := (exs l).sum) (by omega) h2
    rw [Int.mul_comm (exs l).sum 65536, Int.mul_ediv_cancel _ (by omega)] at h3
    exact h3
theorem smx_most {l : List Int} (h0 : 0 < l.length) (h : l.length ≤ 512) (p i : Nat) (hp : p < l.length) (hm : l.getD p 0 = mostL l) (hi : i < l.length) : (smx l).getD i 0 ≤ (smx l).getD p 0 ∧ (l.getD i 0 = l.getD p 0 → (smx l).getD i 0 = (smx l).getD p 0) := by
  have hs := exs_sum h0 h
  rw [smx_get i hi, smx_get p hp]
  constructor
  · have h1 := ex_le (l.getD i 0 - mostL l)
    rw [hm, Int.sub_self, ex_zero]
    exact Int.ediv_le_ediv (by omega) (by omega)
  · intro e
    rw [e]
theorem smx_shift (l : List Int) (d : Int) (h0 : 0 < l.length) : smx (l.map (· + d)) = smx l := by
  have e : exs (l.map (· + d)) = exs l := by
    unfold exs
    rw [most_map l d h0, List.map_map]
    apply List.map_congr_left
    intro x _
    show ex (x + d - (mostL l + d)) = _
    rw [show x + d - (mostL l + d) = x - mostL l by omega]
  unfold smx
  rw [e]
end Go.Proofs.YtchjijifmjbgoaaDoor.Tn
