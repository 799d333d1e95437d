import Derived.Test.YtchjijifmjbgoaaDoorGw
namespace Go.Proofs.YtchjijifmjbgoaaDoor.Tn
open Go.ChangeShapes Go.WideShapes Go.ChangeAt Go.RowKit Go.Proofs.YtchjijifmjbgoaaDoor.Fx Go.Proofs.YtchjijifmjbgoaaDoor.Rf

/-! ### a matrix that picks a number of each row -/
def unitR (N k : Nat) : List Int := (List.replicate N 0).set k 65536
def unitL (N : Nat) (ks : List Nat) : List Int := ks.flatMap (unitR N)
theorem unitR_length (N k : Nat) : (unitR N k).length = N := by simp [unitR]
theorem unitL_length (N : Nat) : ∀ ks : List Nat, (unitL N ks).length = ks.length * N
  | [] => by simp [unitL]
  | k :: ks => by
    have := unitL_length N ks
    unfold unitL at *
    rw [List.flatMap_cons, List.length_append, this, unitR_length, List.length_cons, Nat.add_mul]
    omega
theorem unitL_snoc (N : Nat) (ks : List Nat) (k : Nat) : unitL N (ks ++ [k]) = unitL N ks ++ unitR N k := by simp [unitL]
theorem unitL_row (N : Nat) : ∀ (ks : List Nat) (i : Nat) (_ : i < ks.length), rowL (unitL N ks) N i = unitR N (ks.getD i 0)
  | [], i, hi => by simp at hi
  | k :: ks, 0, _ => by
    unfold rowL unitL
    rw [Nat.zero_mul, List.drop_zero, List.flatMap_cons, List.take_append_of_le_length (by rw [unitR_length]; exact Nat.le_refl _), List.take_of_length_le (by rw [unitR_length]; exact Nat.le_refl _)]
    rfl
  | k :: ks, i + 1, hi => by
    have ih := unitL_row N ks i (by simpa using hi)
    unfold rowL unitL at *
    rw [List.flatMap_cons, Nat.add_mul, Nat.one_mul, List.drop_append, List.drop_eq_nil_of_le (by rw [unitR_length]; omega), List.nil_append, unitR_length, Nat.add_sub_cancel, List.getD_cons_succ]
    exact ih
theorem dot_zeros : ∀ (N : Nat) (v : List Int), dotS (List.replicate N 0) v = 0
  | 0, _ => by simp [dotS]
  | N + 1, [] => by simp [List.replicate_succ, dotS]
  | N + 1, x :: v => by rw [List.replicate_succ, dotS, dot_zeros N v]; omega
theorem dot_unit : ∀ (N k : Nat) (v : List Int), v.length = N → k < N → dotS (unitR N k) v = v.getD k 0 * 65536
  | 0, _, _, _, h => by omega
  | N + 1, _, [], h, _ => by simp at h
  | N + 1, 0, x :: v, _, _ => by
    unfold unitR
    rw [List.replicate_succ, List.set_cons_zero, dotS, dot_zeros, List.getD_cons_zero]
    omega
  | N + 1, k + 1, x :: v, h, hk => by
    have ih := dot_unit N k v (by simpa using h) (by omega)
    unfold unitR at *
    rw [List.replicate_succ, List.set_cons_succ, dotS, ih, List.getD_cons_succ]
    omega
theorem unitR_in (N k : Nat) : ∀ x ∈ unitR N k, isW x := fun x hx => by
  rcases List.mem_or_eq_of_mem_set hx with h | rfl
  · rw [List.eq_of_mem_replicate h]; decide
  · decide
theorem unit_dot {N k : Nat} {v : List Int} (hv : v.length = N) (h0 : 1 ≤ N) (h6 : N ≤ 64) (hk : k < N) (hn : ∀ x ∈ v, isN x) : dotE (unitR N k) v = 0 ∧ dotR (unitR N k) v = v.getD k 0 := by
  have ho : dotOk (unitR N k) v := ⟨by rw [unitR_length, hv], by omega, by omega⟩
  have hi : dotIn (unitR N k) v := ⟨unitR_in N k, hn⟩
  have hd : rnd (dotS (unitR N k) v) = v.getD k 0 := by rw [dot_unit N k v hv hk, rnd_mul]
  have hx := in_of hn k (by omega)
  unfold dotE dotR
  rw [if_neg (fun h => h ho), if_pos hi, if_pos ⟨ho, hi⟩, hd]
  unfold over orNil
  rw [if_pos hx, if_pos hx]
  exact ⟨rfl, rfl⟩
theorem unit_mul {N K : Nat} {v : List Int} {ks : List Nat} (hv : v.length = N) (h0 : 1 ≤ N) (h6 : N ≤ 64) (hK : ks.length = K) (hK1 : 1 ≤ K) (hK2 : K ≤ 20) (hk : ∀ k ∈ ks, k < N) (hn : ∀ x ∈ v, isN x) :
    mulE (K : Int) (N : Int) (unitL N ks) v = 0 ∧ mulV (K : Int) (N : Int) (unitL N ks) v = ks.map fun k => v.getD k 0 := by
  have hl : (unitL N ks).length = K * N := by rw [unitL_length, hK]
  have hc : chkM (K : Int) (N : Int) (unitL N ks) = 0 := by
    unfold chkM
    rw [if_neg (fun h => h ⟨by omega, by omega, by omega, by omega, by rw [hl, Int.natCast_mul]⟩), if_pos]
    intro x hx
    obtain ⟨k, _, hk2⟩ := List.mem_flatMap.1 hx
    exact unitR_in N k x hk2
  have hd : ∀ i, i < K → dotE (rowL (unitL N ks) N i) v = 0 ∧ dotR (rowL (unitL N ks) N i) v = v.getD (ks.getD i 0) 0 := fun i hi => by
    rw [unitL_row N ks i (by omega)]
    refine unit_dot hv h0 h6 ?_ hn
    rw [List.getD_eq_getElem?_getD, List.getElem?_eq_getElem (by omega)]
    exact hk _ (List.getElem_mem _)
  obtain ⟨h1, h2⟩ := mulE_all hc hv (fun i hi => (hd i hi).1)
  refine ⟨h1, ?_⟩
  rw [h2]
  apply List.ext_getElem
  · simp [dotsR, hK]
  · intro i h3 h4
    have hi : i < K := by simpa [dotsR] using h3
    have := (hd i hi).2
    simp only [dotsR, List.getElem_map, List.getElem_range, this]
    simp [hK, hi]
/-- which number a place picks -/
def kOf (x : Int) (N : Nat) : Nat := ((x.tmod N + N) % N).toNat
theorem kOf_spec (x : Int) (N : Nat) (h : 1 ≤ N) : -(N : Int) < x.tmod N ∧ x.tmod N < (N : Int) ∧ (x.tmod N + (N : Int)) % (N : Int) = (kOf x N : Int) ∧ (x.tmod N + (N : Int)).tmod (N : Int) = (kOf x N : Int) ∧ kOf x N < N := by
  have h1 := Int.lt_tmod_of_pos x (show (0 : Int) < (N : Int) by omega)
  have h2 := Int.tmod_lt_of_pos x (show (0 : Int) < (N : Int) by omega)
  have h3 := Int.emod_nonneg (x.tmod N + (N : Int)) (show (N : Int) ≠ 0 by omega)
  have h4 := Int.emod_lt_of_pos (x.tmod N + (N : Int)) (show (0 : Int) < (N : Int) by omega)
  have h5 : (x.tmod N + (N : Int)).tmod (N : Int) = (x.tmod N + (N : Int)) % (N : Int) := Int.tmod_eq_emod_of_nonneg (by omega)
  unfold kOf
  refine ⟨by omega, h2, by omega, by rw [h5]; omega, by omega⟩
/-- while the matrix is written -/
def unitK (N K : Nat) (ks : List Nat) : List Int := unitL N ks ++ List.replicate ((K - ks.length) * N) 0
theorem unitK_set (N K : Nat) (ks : List Nat) (k : Nat) (hk : k < N) (hK : ks.length < K) : (unitK N K ks).set (ks.length * N + k) 65536 = unitK N K (ks ++ [k]) := by
  unfold unitK
  rw [List.set_append_right _ _ (by rw [unitL_length]; omega), unitL_length, Nat.add_sub_cancel_left, unitL_snoc, List.append_assoc]
  congr 1
  rw [List.length_append, List.length_singleton]
  have e : (K - ks.length) * N = N + (K - (ks.length + 1)) * N := by
    rw [show K - ks.length = (K - (ks.length + 1)) + 1 by omega, Nat.add_mul]
    omega
  rw [e, ← List.replicate_append_replicate, List.set_append_left _ _ (by simpa using hk)]
  rfl
theorem unitK_length (N K : Nat) (ks : List Nat) (h : ks.length ≤ K) : (unitK N K ks).length = K * N := by
  unfold unitK
  rw [List.length_append, unitL_length, List.length_replicate, ← Nat.add_mul]
  congr 1
  omega
theorem unitK_full (N K : Nat) (ks : List Nat) (h : ks.length = K) : unitK N K ks = unitL N ks := by
  unfold unitK
  rw [h, Nat.sub_self, Nat.zero_mul]
  simp
/-! ### vectors together, in either order; and one alone -/
theorem sums_comm {a b : List Int} (h : a.length = b.length) : sums a b = sums b a := by
  unfold sums
  rw [h]
  apply List.map_congr_left
  intro i _
  omega
theorem add_turn {a b : List Int} (ha : chkV a = 0) : addE b a = addE a b ∧ addV b a = addV a b := by
  have h1 : addE b a = addE a b := by
    unfold addE
    by_cases hl : a.length = b.length
    · have ea : (if a.length ≠ b.length then 13 else if chkV a ≠ 0 then chkV a else if chkV b ≠ 0 then chkV b else if ∀ x ∈ sums a b, isN x then 0 else 17) = (if chkV b ≠ 0 then chkV b else if ∀ x ∈ sums a b, isN x then 0 else 17) := by rw [if_neg (fun h => h hl), if_neg (fun h => h ha)]
      have eb : (if b.length ≠ a.length then 13 else if chkV b ≠ 0 then chkV b else if chkV a ≠ 0 then chkV a else if ∀ x ∈ sums b a, isN x then 0 else 17) = (if chkV b ≠ 0 then chkV b else if ∀ x ∈ sums b a, isN x then 0 else 17) := by
        rw [if_neg (fun h => h hl.symm)]
        by_cases hb : chkV b = 0
        · rw [if_neg (show ¬ (chkV b ≠ 0) from fun h => h hb), if_neg (show ¬ (chkV a ≠ 0) from fun h => h ha), if_neg (show ¬ (chkV b ≠ 0) from fun h => h hb)]
        · rw [if_pos hb, if_pos hb]
      rw [ea, eb, sums_comm hl]
    · rw [if_pos (fun h => hl h.symm), if_pos hl]
  refine ⟨h1, ?_⟩
  unfold addV
  rw [h1]
  by_cases h0 : addE a b = 0
  · rw [if_pos h0, if_pos h0]
    unfold addE at h0
    by_cases hl : a.length = b.length
    · exact (sums_comm hl).symm
    · rw [if_pos hl] at h0; omega
  · rw [if_neg h0, if_neg h0]
theorem mix_one {v : List Int} (hc : chkV v = 0) : mixE [65536] [v] = 0 ∧ mixV [65536] [v] = v := by
  obtain ⟨N, hN⟩ : ∃ N, v.length = N := ⟨_, rfl⟩
  have hsz : 1 ≤ N ∧ N ≤ 512 ∧ ∀ x ∈ v, isN x := by
    unfold chkV at hc
    rw [hN] at hc
    by_cases hh : N < 1 ∨ 512 < N
    · rw [if_pos hh] at hc; omega
    · rw [if_neg hh] at hc
      refine ⟨by omega, by omega, Classical.byContradiction fun hn => ?_⟩
      rw [if_neg hn] at hc
      omega
  have hr : ∀ k, k < N → rnd (mixS [65536] [v] k) = v.getD k 0 := fun k hk => by
    have e : mixS [65536] [v] k = v.getD k 0 * 65536 := by
      show 65536 * v.getD k 0 + 0 = _
      omega
    rw [e, rnd_mul]
  have hm : mixN [v] = N := hN
  have h1 : mixE [65536] [v] = 0 := by
    unfold mixE
    rw [if_neg (fun h => h ⟨by simp, by simp, by simp, fun l hl => by rw [List.mem_singleton.1 hl]; rfl⟩), hm, if_neg (by omega), if_neg (fun h => h (fun l hl => by rw [List.mem_singleton.1 hl]; exact hsz.2.2)), if_neg (fun h => h (fun x hx => by rw [List.mem_singleton.1 hx]; decide)), if_pos]
    intro k hk
    rw [hr k hk]
    exact in_of hsz.2.2 k (by omega)
  refine ⟨h1, ?_⟩
  unfold mixV
  rw [if_pos h1, hm]
  apply List.ext_getElem
  · simp [mixL, hN]
  · intro i h3 h4
    have hi : i < N := by simpa [mixL] using h3
    simp only [mixL, List.getElem_map, List.getElem_range, hr i hi]
    simp [h4]
end Go.Proofs.YtchjijifmjbgoaaDoor.Tn
