import Derived.ProofKit
namespace Go.Proofs.YtpaffncdfldnmaaDoor

section
variable (nd : List Int → List Int → List Int)
/-- the root of digests, of which there are up to 2^H -/
def rt : Nat → List (List Int) → List Int
  | 0, ds => ds.headD []
  | H + 1, ds => if ds.length ≤ 2 ^ H then rt H ds else nd (rt H (ds.take (2 ^ H))) (rt H (ds.drop (2 ^ H)))
/-- the proof of the i-th one, from it on -/
def pf : Nat → Nat → List (List Int) → List (List Int)
  | 0, _, _ => []
  | H + 1, i, ds => if ds.length ≤ 2 ^ H then pf H i ds else if i < 2 ^ H then pf H i (ds.take (2 ^ H)) ++ [rt nd H (ds.drop (2 ^ H))] else pf H (i - 2 ^ H) (ds.drop (2 ^ H)) ++ [rt nd H (ds.take (2 ^ H))]
/-- to which root a digest and a proof lead -/
def fd : Nat → Nat → Nat → List Int → List (List Int) → List Int
  | 0, _, _, d, _ => d
  | H + 1, n, i, d, q => if n ≤ 2 ^ H then fd H n i d q else if i < 2 ^ H then nd (fd H (2 ^ H) i d q.dropLast) (q.getLastD []) else nd (q.getLastD []) (fd H (n - 2 ^ H) (i - 2 ^ H) d q.dropLast)
/-- how many digests a proof has -/
def dp : Nat → Nat → Nat → Nat
  | 0, _, _ => 0
  | H + 1, n, i => if n ≤ 2 ^ H then dp H n i else if i < 2 ^ H then dp H (2 ^ H) i + 1 else dp H (n - 2 ^ H) (i - 2 ^ H) + 1
/-- which side the way comes from, from the root on -/
def lf : Nat → Nat → Nat → List Bool
  | 0, _, _ => []
  | H + 1, n, i => if n ≤ 2 ^ H then lf H n i else if i < 2 ^ H then false :: lf H (2 ^ H) i else true :: lf H (n - 2 ^ H) (i - 2 ^ H)

theorem rt_succ (H : Nat) (ds : List (List Int)) : rt nd (H + 1) ds = if ds.length ≤ 2 ^ H then rt nd H ds else nd (rt nd H (ds.take (2 ^ H))) (rt nd H (ds.drop (2 ^ H))) := rfl
theorem pf_succ (H i : Nat) (ds : List (List Int)) : pf nd (H + 1) i ds = if ds.length ≤ 2 ^ H then pf nd H i ds else if i < 2 ^ H then pf nd H i (ds.take (2 ^ H)) ++ [rt nd H (ds.drop (2 ^ H))] else pf nd H (i - 2 ^ H) (ds.drop (2 ^ H)) ++ [rt nd H (ds.take (2 ^ H))] := rfl
theorem fd_succ (H n i : Nat) (d : List Int) (q : List (List Int)) : fd nd (H + 1) n i d q = if n ≤ 2 ^ H then fd nd H n i d q else if i < 2 ^ H then nd (fd nd H (2 ^ H) i d q.dropLast) (q.getLastD []) else nd (q.getLastD []) (fd nd H (n - 2 ^ H) (i - 2 ^ H) d q.dropLast) := rfl
theorem dp_succ (H n i : Nat) : dp (H + 1) n i = if n ≤ 2 ^ H then dp H n i else if i < 2 ^ H then dp H (2 ^ H) i + 1 else dp H (n - 2 ^ H) (i - 2 ^ H) + 1 := rfl
theorem lf_succ (H n i : Nat) : lf (H + 1) n i = if n ≤ 2 ^ H then lf H n i else if i < 2 ^ H then false :: lf H (2 ^ H) i else true :: lf H (n - 2 ^ H) (i - 2 ^ H) := rfl
theorem pow_succ2 (H : Nat) : 2 ^ (H + 1) = 2 ^ H + 2 ^ H := by rw [Nat.pow_succ]; omega
theorem pow_pos2 (H : Nat) : 0 < 2 ^ H := Nat.pos_of_ne_zero (by simp)
theorem pf_length : ∀ (H i : Nat) (ds : List (List Int)), (pf nd H i ds).length = dp H ds.length i
  | 0, _, _ => rfl
  | H + 1, i, ds => by
    rw [pf_succ, dp_succ]
    split
    · exact pf_length H i ds
    · split
      · rw [List.length_append, pf_length H i, List.length_take, Nat.min_eq_left (by omega)]; rfl
      · rw [List.length_append, pf_length H, List.length_drop]; rfl
theorem lf_length : ∀ (H n i : Nat), (lf H n i).length = dp H n i
  | 0, _, _ => rfl
  | H + 1, n, i => by
    rw [lf_succ, dp_succ]
    split
    · exact lf_length H n i
    · split
      · rw [List.length_cons, lf_length]
      · rw [List.length_cons, lf_length]
theorem dp_le : ∀ (H n i : Nat), dp H n i ≤ H
  | 0, _, _ => Nat.le_refl _
  | H + 1, n, i => by
    have h1 := dp_le H n i
    have h2 := dp_le H (2 ^ H) i
    have h3 := dp_le H (n - 2 ^ H) (i - 2 ^ H)
    rw [dp_succ]
    split
    · omega
    · split <;> omega
/-- another digest, and the same proof -/
theorem fd_pf : ∀ (H i : Nat) (ds : List (List Int)) (d : List Int), i < ds.length → ds.length ≤ 2 ^ H → fd nd H ds.length i d (pf nd H i ds) = rt nd H (ds.set i d)
  | 0, i, ds, d, hi, hl => by
    have h1 : ds.length = 1 := by simp at hl; omega
    obtain ⟨x, rfl⟩ := List.length_eq_one_iff.1 h1
    obtain rfl : i = 0 := by simp at hi; omega
    rfl
  | H + 1, i, ds, d, hi, hl => by
    rw [pow_succ2] at hl
    rw [fd_succ, pf_succ, rt_succ, List.length_set]
    by_cases h1 : ds.length ≤ 2 ^ H
    · rw [if_pos h1, if_pos h1, if_pos h1]
      exact fd_pf H i ds d hi h1
    · rw [if_neg h1, if_neg h1, if_neg h1]
      have ht : (ds.take (2 ^ H)).length = 2 ^ H := by rw [List.length_take]; omega
      have hd : (ds.drop (2 ^ H)).length = ds.length - 2 ^ H := List.length_drop
      by_cases h2 : i < 2 ^ H
      · have ih := fd_pf H i (ds.take (2 ^ H)) d (by rw [ht]; exact h2) (Nat.le_of_eq ht)
        rw [ht] at ih
        rw [if_pos h2, if_pos h2, List.dropLast_concat, List.getLastD_concat, ih, List.take_set, List.drop_set_of_lt h2]
      · have ih := fd_pf H (i - 2 ^ H) (ds.drop (2 ^ H)) d (by omega) (by omega)
        rw [hd] at ih
        rw [if_neg h2, if_neg h2, List.dropLast_concat, List.getLastD_concat, ih, List.take_set_of_le (by omega), List.drop_set, if_neg h2]
theorem pf_set : ∀ (H i : Nat) (ds : List (List Int)) (d : List Int), pf nd H i (ds.set i d) = pf nd H i ds
  | 0, i, ds, d => rfl
  | H + 1, i, ds, d => by
    rw [pf_succ, pf_succ, List.length_set]
    by_cases h1 : ds.length ≤ 2 ^ H
    · rw [if_pos h1, if_pos h1, pf_set]
    · rw [if_neg h1, if_neg h1]
      by_cases h2 : i < 2 ^ H
      · rw [if_pos h2, if_pos h2, List.take_set, pf_set, List.drop_set_of_lt h2]
      · rw [if_neg h2, if_neg h2, List.take_set_of_le (by omega), List.drop_set, if_neg h2, pf_set]
theorem fd_root (H i : Nat) (ds : List (List Int)) (hi : i < ds.length) (hl : ds.length ≤ 2 ^ H) : fd nd H ds.length i (ds.getD i []) (pf nd H i ds) = rt nd H ds := by
  rw [fd_pf nd H i ds _ hi hl]
  congr 1
  apply List.ext_getElem?
  intro j
  rw [List.getElem?_set]
  split
  · subst_vars; simp [hi]
  · rfl

/-- leaves that are split off together -/
def seg (ds : List (List Int)) (h p : Nat) : List (List Int) := (ds.drop (p * 2 ^ h)).take (2 ^ h)
theorem rt_more : ∀ (k H : Nat) (ds : List (List Int)), ds.length ≤ 2 ^ H → rt nd (H + k) ds = rt nd H ds
  | 0, _, _, _ => rfl
  | k + 1, H, ds, h => by
    rw [← Nat.add_assoc, rt, if_pos (Nat.le_trans h (Nat.pow_le_pow_right (by omega) (by omega))), rt_more k H ds h]
theorem rt_any {H K : Nat} {ds : List (List Int)} (h1 : ds.length ≤ 2 ^ H) (h2 : ds.length ≤ 2 ^ K) : rt nd H ds = rt nd K ds := by
  by_cases h : H ≤ K
  · obtain ⟨k, rfl⟩ := Nat.exists_eq_add_of_le h
    rw [rt_more nd k H ds h1]
  · obtain ⟨k, rfl⟩ := Nat.exists_eq_add_of_le (Nat.le_of_lt (Nat.lt_of_not_le h))
    rw [rt_more nd k K ds h2]
theorem pf_more : ∀ (k H i : Nat) (ds : List (List Int)), ds.length ≤ 2 ^ H → pf nd (H + k) i ds = pf nd H i ds
  | 0, _, _, _, _ => rfl
  | k + 1, H, i, ds, h => by
    rw [← Nat.add_assoc, pf, if_pos (Nat.le_trans h (Nat.pow_le_pow_right (by omega) (by omega))), pf_more k H i ds h]
theorem pf_any {H K : Nat} {ds : List (List Int)} (i : Nat) (h1 : ds.length ≤ 2 ^ H) (h2 : ds.length ≤ 2 ^ K) : pf nd H i ds = pf nd K i ds := by
  by_cases h : H ≤ K
  · obtain ⟨k, rfl⟩ := Nat.exists_eq_add_of_le h
    rw [pf_more nd k H i ds h1]
  · obtain ⟨k, rfl⟩ := Nat.exists_eq_add_of_le (Nat.le_of_lt (Nat.lt_of_not_le h))
    rw [pf_more nd k K i ds h2]
theorem fd_more : ∀ (k H n i : Nat) (d : List Int) (q : List (List Int)), n ≤ 2 ^ H → fd nd (H + k) n i d q = fd nd H n i d q
  | 0, _, _, _, _, _, _ => rfl
  | k + 1, H, n, i, d, q, h => by
    rw [← Nat.add_assoc, fd, if_pos (Nat.le_trans h (Nat.pow_le_pow_right (by omega) (by omega))), fd_more k H n i d q h]
theorem fd_any {H K n : Nat} (i : Nat) (d : List Int) (q : List (List Int)) (h1 : n ≤ 2 ^ H) (h2 : n ≤ 2 ^ K) : fd nd H n i d q = fd nd K n i d q := by
  by_cases h : H ≤ K
  · obtain ⟨k, rfl⟩ := Nat.exists_eq_add_of_le h
    rw [fd_more nd k H n i d q h1]
  · obtain ⟨k, rfl⟩ := Nat.exists_eq_add_of_le (Nat.le_of_lt (Nat.lt_of_not_le h))
    rw [fd_more nd k K n i d q h2]
theorem dp_more : ∀ (k H n i : Nat), n ≤ 2 ^ H → dp (H + k) n i = dp H n i
  | 0, _, _, _, _ => rfl
  | k + 1, H, n, i, h => by
    rw [← Nat.add_assoc, dp, if_pos (Nat.le_trans h (Nat.pow_le_pow_right (by omega) (by omega))), dp_more k H n i h]
theorem dp_any {H K n : Nat} (i : Nat) (h1 : n ≤ 2 ^ H) (h2 : n ≤ 2 ^ K) : dp H n i = dp K n i := by
  by_cases h : H ≤ K
  · obtain ⟨k, rfl⟩ := Nat.exists_eq_add_of_le h
    rw [dp_more k H n i h1]
  · obtain ⟨k, rfl⟩ := Nat.exists_eq_add_of_le (Nat.le_of_lt (Nat.lt_of_not_le h))
    rw [dp_more k K n i h2]

/-- the neighbour in a pair -/
def nb (j : Nat) : Nat := if j % 2 = 0 then j + 1 else j - 1
/-- the parts beside the way of the i-th one of n, of the first H heights -/
def wy (n i : Nat) : Nat → List (Nat × Nat)
  | 0 => []
  | h + 1 => if nb (i / 2 ^ h) ≤ (n - 1) / 2 ^ h then wy n i h ++ [(h, nb (i / 2 ^ h))] else wy n i h
theorem nb_zero : nb 0 = 1 := rfl
theorem wy_stop (n i : Nat) (hi : i < n) (H : Nat) (hn : (n - 1) / 2 ^ H = 0) : ∀ k, wy n i (H + k) = wy n i H
  | 0 => rfl
  | k + 1 => by
    have hp := pow_pos2 H
    have h1 : n - 1 < 2 ^ H := by
      rcases Nat.div_eq_zero_iff.1 hn with h | h
      · omega
      · exact h
    have hle : 2 ^ H ≤ 2 ^ (H + k) := Nat.pow_le_pow_right (by omega) (by omega)
    rw [← Nat.add_assoc, wy, Nat.div_eq_of_lt (show i < 2 ^ (H + k) by omega), Nat.div_eq_of_lt (show n - 1 < 2 ^ (H + k) by omega), if_neg (by rw [nb_zero]; omega), wy_stop n i hi H hn k]
theorem nb_add (j m : Nat) : nb (2 * m + j) = 2 * m + nb j := by
  unfold nb
  have : (2 * m + j) % 2 = j % 2 := by omega
  rw [this]
  split <;> omega
theorem nb_lt {j k : Nat} (h : j < 2 * k) : nb j < 2 * k := by
  unfold nb; split <;> omega
/-- heights below H, where the first part of 2^H is whole -/
theorem wy_left (n i H : Nat) (hi : i < 2 ^ H) (hn : 2 ^ H < n) : ∀ h, h ≤ H → wy n i h = wy (2 ^ H) i h
  | 0, _ => rfl
  | h + 1, hh => by
    obtain ⟨k, rfl⟩ := Nat.exists_eq_add_of_le hh
    have e : 2 ^ (h + 1 + k) = 2 * 2 ^ k * 2 ^ h := by rw [Nat.pow_add, Nat.pow_succ, Nat.mul_assoc, Nat.mul_comm]
    have hp := pow_pos2 h
    have h1 : i / 2 ^ h < 2 * 2 ^ k := by rw [Nat.div_lt_iff_lt_mul hp, ← e]; exact hi
    have h2 := nb_lt h1
    have h3 : 2 * 2 ^ k ≤ (n - 1) / 2 ^ h := by rw [Nat.le_div_iff_mul_le hp, ← e]; omega
    have h4 : nb (i / 2 ^ h) ≤ (2 ^ (h + 1 + k) - 1) / 2 ^ h := by
      rw [Nat.le_div_iff_mul_le hp]
      have : (nb (i / 2 ^ h) + 1) * 2 ^ h ≤ 2 * 2 ^ k * 2 ^ h := Nat.mul_le_mul_right _ h2
      rw [Nat.add_mul, Nat.one_mul, ← e] at this
      omega
    rw [wy, wy, if_pos (by omega), if_pos h4, wy_left n i _ hi hn h (by omega)]
/-- heights below H, in what is behind the first part of 2^H -/
theorem wy_right (n i H : Nat) (hi : 2 ^ H ≤ i) (hin : i < n) : ∀ h, h ≤ H → wy n i h = (wy (n - 2 ^ H) (i - 2 ^ H) h).map (fun x => (x.1, x.2 + 2 ^ (H - x.1)))
  | 0, _ => rfl
  | h + 1, hh => by
    obtain ⟨k, rfl⟩ := Nat.exists_eq_add_of_le hh
    have e : 2 ^ (h + 1 + k) = 2 ^ h * (2 * 2 ^ k) := by rw [Nat.pow_add, Nat.pow_succ, Nat.mul_assoc]
    have hp := pow_pos2 h
    have e1 : i / 2 ^ h = 2 * 2 ^ k + (i - 2 ^ (h + 1 + k)) / 2 ^ h := by
      conv => lhs; rw [show i = i - 2 ^ (h + 1 + k) + 2 ^ (h + 1 + k) by omega, e, Nat.add_mul_div_left _ _ hp]
      rw [e]; omega
    have e2 : (n - 1) / 2 ^ h = 2 * 2 ^ k + (n - 2 ^ (h + 1 + k) - 1) / 2 ^ h := by
      conv => lhs; rw [show n - 1 = n - 2 ^ (h + 1 + k) - 1 + 2 ^ (h + 1 + k) by omega, e, Nat.add_mul_div_left _ _ hp]
      rw [e]; omega
    have e3 : 2 ^ (h + 1 + k - h) = 2 * 2 ^ k := by rw [show h + 1 + k - h = k + 1 by omega, Nat.pow_succ]; omega
    have ih := wy_right n i _ hi hin h (by omega)
    rw [wy, wy, e1, e2, nb_add, ih]
    by_cases hc : nb ((i - 2 ^ (h + 1 + k)) / 2 ^ h) ≤ (n - 2 ^ (h + 1 + k) - 1) / 2 ^ h
    · rw [if_pos (by omega), if_pos hc, List.map_append]
      simp only [List.map_cons, List.map_nil, e3]
      rw [Nat.add_comm (2 * 2 ^ k)]
    · rw [if_neg (by omega), if_neg hc]
end
end Go.Proofs.YtpaffncdfldnmaaDoor
