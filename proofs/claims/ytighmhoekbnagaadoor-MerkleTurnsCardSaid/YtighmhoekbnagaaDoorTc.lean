import Derived.Test.YtighmhoekbnagaaDoorTb
namespace Go.Proofs.YtighmhoekbnagaaDoor

/-! ### rows of roots, height by height -/
section
variable (nd : List Int → List Int → List Int)
/-- the root of the i-th pair of a row; the last one may have no neighbour -/
def pairD (row : List (List Int)) (i : Nat) : List Int := if 2 * i + 1 = row.length then row.getD (2 * i) [] else nd (row.getD (2 * i) []) (row.getD (2 * i + 1) [])
/-- the roots of the next height -/
def above (row : List (List Int)) : List (List Int) := (List.range ((row.length + 1) / 2)).map (pairD nd row)
/-- the roots of a height -/
def rws (ds : List (List Int)) : Nat → List (List Int)
  | 0 => ds
  | h + 1 => above nd (rws ds h)
theorem above_len (row : List (List Int)) : (above nd row).length = (row.length + 1) / 2 := by unfold above; simp
theorem above_at (row : List (List Int)) (i : Nat) (h : i < (row.length + 1) / 2) : (above nd row).getD i [] = pairD nd row i := by
  unfold above
  simp [h]
theorem above_set (row : List (List Int)) (p : Nat) (x : List Int) : above nd (row.set p x) = (above nd row).set (p / 2) (pairD nd (row.set p x) (p / 2)) := by
  apply List.ext_getElem
  · rw [List.length_set, above_len, above_len, List.length_set]
  · intro i h1 h2
    have hi : i < (row.length + 1) / 2 := by rw [above_len, List.length_set] at h1; exact h1
    have e1 := above_at nd (row.set p x) i (by rw [List.length_set]; exact hi)
    have e2 := above_at nd row i hi
    rw [List.getD_eq_getElem?_getD, List.getElem?_eq_getElem h1, Option.getD_some] at e1
    rw [e1, List.getElem_set]
    split
    · rename_i he; rw [he]
    · rename_i hne
      rw [List.getD_eq_getElem?_getD, List.getElem?_eq_getElem (by rw [above_len]; exact hi), Option.getD_some] at e2
      rw [e2]
      unfold pairD
      rw [List.length_set]
      have g1 : (row.set p x).getD (2 * i) [] = row.getD (2 * i) [] := by
        rw [List.getD_eq_getElem?_getD, List.getD_eq_getElem?_getD, List.getElem?_set_ne (by omega)]
      have g2 : (row.set p x).getD (2 * i + 1) [] = row.getD (2 * i + 1) [] := by
        rw [List.getD_eq_getElem?_getD, List.getD_eq_getElem?_getD, List.getElem?_set_ne (by omega)]
      rw [g1, g2]
theorem rws_succ (ds : List (List Int)) (h : Nat) : rws nd ds (h + 1) = above nd (rws nd ds h) := rfl
theorem rws_len (ds : List (List Int)) (hd : ds ≠ []) : ∀ h, (rws nd ds h).length = (ds.length - 1) / 2 ^ h + 1
  | 0 => by
    have : 0 < ds.length := List.length_pos_iff.2 hd
    simp [rws]
    omega
  | h + 1 => by
    rw [rws_succ, above_len, rws_len ds hd h, Nat.pow_succ, ← Nat.div_div_eq_div_mul]
    omega
/-- one leaf is another one: one root of each height is -/
theorem rws_set (ds : List (List Int)) (i : Nat) (d : List Int) (hi : i < ds.length) : ∀ h, rws nd (ds.set i d) h = (rws nd ds h).set (i / 2 ^ h) ((rws nd (ds.set i d) h).getD (i / 2 ^ h) [])
  | 0 => by
    simp [rws, hi]
  | h + 1 => by
    have hd : ds ≠ [] := by rintro rfl; simp at hi
    have hl := rws_len nd ds hd h
    have hp : i / 2 ^ h < (rws nd ds h).length := by
      rw [hl]
      have := Nat.div_le_div_right (c := 2 ^ h) (show i ≤ ds.length - 1 by omega)
      omega
    have e : i / 2 ^ (h + 1) = i / 2 ^ h / 2 := by rw [Nat.pow_succ, Nat.div_div_eq_div_mul]
    have ih := rws_set ds i d hi h
    obtain ⟨row, hr⟩ : ∃ row, rws nd ds h = row := ⟨_, rfl⟩
    obtain ⟨x, hx⟩ : ∃ x, (rws nd (ds.set i d) h).getD (i / 2 ^ h) [] = x := ⟨_, rfl⟩
    obtain ⟨q, hq⟩ : ∃ q, i / 2 ^ h = q := ⟨_, rfl⟩
    rw [hr] at hp ih
    rw [hx] at ih
    rw [hq] at hp ih e
    rw [rws_succ, rws_succ, hr, ih, above_set nd _ _ _, e]
    have h2 : q / 2 < (above nd row).length := by rw [above_len]; omega
    rw [List.getD_eq_getElem?_getD, List.getElem?_set_self h2, Option.getD_some]
theorem seg_two (ds : List (List Int)) (h i : Nat) : (seg ds (h + 1) i).take (2 ^ h) = seg ds h (2 * i) ∧ (seg ds (h + 1) i).drop (2 ^ h) = seg ds h (2 * i + 1) := by
  have e1 : i * 2 ^ (h + 1) = 2 * i * 2 ^ h := by rw [Nat.pow_succ, Nat.mul_comm 2 i, Nat.mul_assoc, Nat.mul_comm 2]
  have e2 : 2 ^ (h + 1) = 2 ^ h + 2 ^ h := pow_succ2 h
  unfold seg
  refine ⟨?_, ?_⟩
  · rw [List.take_take, e1, Nat.min_eq_left (by rw [e2]; exact Nat.le_add_right _ _)]
  · rw [List.drop_take, List.drop_drop, e1, e2, Nat.add_sub_cancel, Nat.add_mul, Nat.one_mul]
/-- the roots of a height are those of the parts -/
theorem rws_seg (ds : List (List Int)) (hd : ds ≠ []) : ∀ (h p : Nat), p < (rws nd ds h).length → (rws nd ds h).getD p [] = rt nd h (seg ds h p)
  | 0, p, hp => by
    have hp' : p < ds.length := hp
    unfold rws rt seg
    rw [Nat.pow_zero, Nat.mul_one, List.drop_eq_getElem_cons hp', List.getD_eq_getElem?_getD, List.getElem?_eq_getElem hp']
    rfl
  | h + 1, i, hi => by
    have hl := rws_len nd ds hd h
    have hq : 0 < 2 ^ h := pow_pos2 h
    rw [rws_succ, above_len] at hi
    rw [rws_succ, above_at nd _ _ hi, rt_succ, (seg_two ds h i).1, (seg_two ds h i).2]
    have hlen : (seg ds (h + 1) i).length = min (2 ^ (h + 1)) (ds.length - i * 2 ^ (h + 1)) := by unfold seg; rw [List.length_take, List.length_drop]
    have e1 : i * 2 ^ (h + 1) = 2 * i * 2 ^ h := by rw [Nat.pow_succ, Nat.mul_comm 2 i, Nat.mul_assoc, Nat.mul_comm 2]
    unfold pairD
    by_cases hc : 2 * i + 1 = (rws nd ds h).length
    · have h1 : (seg ds (h + 1) i).length ≤ 2 ^ h := by
        have h2 : (ds.length - 1) / 2 ^ h = 2 * i := by omega
        have h3 : ds.length - 1 < (2 * i + 1) * 2 ^ h := by rw [← Nat.div_lt_iff_lt_mul hq]; omega
        rw [Nat.add_mul, Nat.one_mul] at h3
        rw [hlen, e1]
        omega
      rw [if_pos hc, if_pos h1, rws_seg ds hd h _ (by omega)]
      have h4 := (seg_two ds h i).1
      rw [List.take_of_length_le h1] at h4
      rw [h4]
    · have h1 : ¬ (seg ds (h + 1) i).length ≤ 2 ^ h := by
        have h2 : 2 * i + 1 ≤ (ds.length - 1) / 2 ^ h := by omega
        rw [Nat.le_div_iff_mul_le hq, Nat.add_mul, Nat.one_mul] at h2
        have h3 := pow_succ2 h
        rw [hlen, e1]
        omega
      rw [if_neg hc, if_neg h1, rws_seg ds hd h _ (by omega), rws_seg ds hd h _ (by omega)]
/-- where one root is left, it is the root of all -/
theorem rws_top (ds : List (List Int)) (hd : ds ≠ []) (h : Nat) (h1 : (rws nd ds h).length ≤ 1) : (rws nd ds h).getD 0 [] = rt nd h ds ∧ ds.length ≤ 2 ^ h := by
  have hl := rws_len nd ds hd h
  have h0 : 0 < ds.length := List.length_pos_iff.2 hd
  have hp := pow_pos2 h
  obtain ⟨q, hq⟩ : ∃ q, 2 ^ h = q := ⟨_, rfl⟩
  have h2 : ds.length - 1 < q := by
    rw [hq] at hl hp
    have hz : (ds.length - 1) / q = 0 := by
      rw [hl] at h1
      exact Nat.le_zero.1 (Nat.le_of_succ_le_succ h1)
    rcases Nat.div_eq_zero_iff.1 hz with h3 | h3
    · exact absurd h3 (Nat.ne_of_gt hp)
    · exact h3
  have h4 : ds.length ≤ q := Nat.le_of_pred_lt h2
  refine ⟨?_, by rw [hq]; exact h4⟩
  rw [rws_seg nd ds hd h 0 (by rw [hl]; exact Nat.succ_pos _)]
  unfold seg
  rw [Nat.zero_mul, List.drop_zero, List.take_of_length_le (by rw [hq]; exact h4)]
theorem rws_all (hn : ∀ a b, (nd a b).length = 32) (ds : List (List Int)) (ha : ∀ d ∈ ds, d.length = 32) : ∀ h, ∀ d ∈ rws nd ds h, d.length = 32
  | 0, d, hd => ha d hd
  | h + 1, d, hd => by
    rw [rws_succ] at hd
    unfold above at hd
    obtain ⟨i, hi, rfl⟩ := List.mem_map.1 hd
    have hi' := List.mem_range.1 hi
    unfold pairD
    split
    · refine rws_all hn ds ha h _ ?_
      have : 2 * i < (rws nd ds h).length := by omega
      simp [this]
    · exact hn _ _
end
end Go.Proofs.YtighmhoekbnagaaDoor
