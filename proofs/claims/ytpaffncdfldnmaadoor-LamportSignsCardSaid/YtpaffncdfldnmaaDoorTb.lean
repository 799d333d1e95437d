import Derived.Test.YtpaffncdfldnmaaDoorTa
namespace Go.Proofs.YtpaffncdfldnmaaDoor

section
variable (nd : List Int → List Int → List Int)
theorem seg_take (ds : List (List Int)) (H h p : Nat) (hp : (p + 1) * 2 ^ h ≤ 2 ^ H) : seg (ds.take (2 ^ H)) h p = seg ds h p := by
  unfold seg
  rw [Nat.add_mul, Nat.one_mul] at hp
  rw [List.drop_take, List.take_take, Nat.min_eq_left (by omega)]
theorem seg_drop (ds : List (List Int)) (H h p : Nat) (hh : h ≤ H) : seg (ds.drop (2 ^ H)) h p = seg ds h (p + 2 ^ (H - h)) := by
  unfold seg
  obtain ⟨k, rfl⟩ := Nat.exists_eq_add_of_le hh
  rw [List.drop_drop, Nat.add_mul, Nat.add_sub_cancel_left, ← Nat.pow_add, Nat.add_comm k h, Nat.add_comm (2 ^ (h + k))]
theorem seg_len (ds : List (List Int)) (h p : Nat) : (seg ds h p).length ≤ 2 ^ h := by
  unfold seg; rw [List.length_take]; omega
theorem wy_mem (n i H : Nat) : ∀ x ∈ wy n i H, x.1 < H ∧ x.2 ≤ (n - 1) / 2 ^ x.1
  | x, hx => by
    induction H with
    | zero => simp [wy] at hx
    | succ H ih =>
      unfold wy at hx
      split at hx
      · rcases List.mem_append.1 hx with h | h
        · have := ih h; omega
        · obtain rfl := List.mem_singleton.1 h
          exact ⟨by simp, by simpa using ‹_›⟩
      · have := ih hx; omega
/-- the proof, part by part, from the leaf on -/
theorem pf_wy : ∀ (H i : Nat) (ds : List (List Int)), i < ds.length → ds.length ≤ 2 ^ H → pf nd H i ds = (wy ds.length i H).map (fun x => rt nd x.1 (seg ds x.1 x.2))
  | 0, _, _, _, _ => rfl
  | H + 1, i, ds, hi, hl => by
    rw [pow_succ2] at hl
    have hp := pow_pos2 H
    rw [pf_succ]
    by_cases h1 : ds.length ≤ 2 ^ H
    · rw [if_pos h1, pf_wy H i ds hi h1]
      have h0 : (ds.length - 1) / 2 ^ H = 0 := Nat.div_eq_of_lt (by omega)
      have := wy_stop ds.length i hi H h0 1
      rw [this]
    · rw [if_neg h1]
      have ht : (ds.take (2 ^ H)).length = 2 ^ H := by rw [List.length_take]; omega
      have hd : (ds.drop (2 ^ H)).length = ds.length - 2 ^ H := List.length_drop
      have hlast : (ds.length - 1) / 2 ^ H = 1 := by
        rw [Nat.div_eq_iff hp]; omega
      by_cases h2 : i < 2 ^ H
      · rw [if_pos h2, pf_wy H i _ (by omega) (by omega), ht, wy, Nat.div_eq_of_lt h2, hlast, if_pos (by decide), List.map_append, wy_left ds.length i H h2 (by omega) H (Nat.le_refl _)]
        congr 1
        · apply List.map_congr_left
          intro x hx
          obtain ⟨h3, h4⟩ := wy_mem _ _ _ x hx
          obtain ⟨k, hk⟩ := Nat.exists_eq_add_of_le (Nat.le_of_lt h3)
          have hq := pow_pos2 x.1
          have hq2 := pow_pos2 k
          have e : 2 ^ H = 2 ^ k * 2 ^ x.1 := by rw [hk, Nat.pow_add, Nat.mul_comm]
          have h5 : x.2 < 2 ^ k := by
            refine Nat.lt_of_le_of_lt h4 ?_
            rw [Nat.div_lt_iff_lt_mul hq, ← e]; omega
          have h6 : (x.2 + 1) * 2 ^ x.1 ≤ 2 ^ H := by rw [e]; exact Nat.mul_le_mul_right _ h5
          rw [seg_take ds H x.1 x.2 h6]
        · simp only [List.map_cons, List.map_nil, nb_zero]
          unfold seg
          rw [Nat.one_mul, List.take_of_length_le (by omega)]
      · have e1 : i / 2 ^ H = 1 := by rw [Nat.div_eq_iff hp]; omega
        rw [if_neg h2, pf_wy H (i - 2 ^ H) _ (by omega) (by omega), hd, wy, e1, hlast, if_pos (by decide), List.map_append, wy_right ds.length i H (by omega) hi H (Nat.le_refl _), List.map_map]
        congr 1
        · apply List.map_congr_left
          intro x hx
          obtain ⟨h3, h4⟩ := wy_mem _ _ _ x hx
          simp only [Function.comp_apply]
          rw [seg_drop ds H x.1 x.2 (by omega)]
        · simp only [List.map_cons, List.map_nil]
          unfold seg
          show [rt nd H (List.take (2 ^ H) ds)] = [rt nd H (List.take (2 ^ H) (List.drop (0 * 2 ^ H) ds))]
          rw [Nat.zero_mul, List.drop_zero]
theorem dp_wy (H n i : Nat) (hi : i < n) (hl : n ≤ 2 ^ H) : dp H n i = (wy n i H).length := by
  have h1 := pf_length (fun _ _ => []) H i (List.replicate n [])
  have h2 := pf_wy (fun _ _ => []) H i (List.replicate n []) (by simpa using hi) (by simpa using hl)
  rw [List.length_replicate] at h1
  rw [← h1, h2, List.length_map, List.length_replicate]
/-- one step of a way -/
def jn (p : Nat) (own beside : List Int) : List Int := if p % 2 = 0 then nd beside own else nd own beside
/-- the way, step by step -/
def go : List (Nat × Nat) → List Int → List (List Int) → List Int
  | [], d, _ => d
  | x :: xs, d, q => go xs (jn nd x.2 d (q.headD [])) q.tail
theorem go_snoc : ∀ (xs : List (Nat × Nat)) (x : Nat × Nat) (d : List Int) (q : List (List Int)) (l : List Int), xs.length = q.length → go nd (xs ++ [x]) d (q ++ [l]) = jn nd x.2 (go nd xs d q) l
  | [], x, d, q, l, h => by
    obtain rfl : q = [] := List.eq_nil_of_length_eq_zero h.symm
    rfl
  | y :: ys, x, d, q, l, h => by
    rcases q with _ | ⟨q0, qs⟩
    · simp at h
    · exact go_snoc ys x _ qs l (by simpa using h)
theorem go_map (f : Nat × Nat → Nat × Nat) : ∀ (xs : List (Nat × Nat)) (d : List Int) (q : List (List Int)), (∀ x ∈ xs, (f x).2 % 2 = x.2 % 2) → go nd (xs.map f) d q = go nd xs d q
  | [], _, _, _ => rfl
  | x :: xs, d, q, h => by
    simp only [List.map_cons, go]
    rw [go_map f xs _ _ (fun y hy => h y (by simp [hy]))]
    congr 1
    unfold jn
    rw [h x (by simp)]
theorem fd_go : ∀ (H n i : Nat) (d : List Int) (q : List (List Int)), i < n → n ≤ 2 ^ H → q.length = dp H n i → fd nd H n i d q = go nd (wy n i H) d q
  | 0, _, _, _, _, _, _, _ => rfl
  | H + 1, n, i, d, q, hi, hl, hq => by
    rw [pow_succ2] at hl
    have hp := pow_pos2 H
    rw [fd_succ]
    rw [dp_succ] at hq
    by_cases h1 : n ≤ 2 ^ H
    · rw [if_pos h1] at hq
      rw [if_pos h1, fd_go H n i d q hi h1 hq]
      have h0 : (n - 1) / 2 ^ H = 0 := Nat.div_eq_of_lt (by omega)
      have := wy_stop n i hi H h0 1
      rw [this]
    · rw [if_neg h1] at hq
      rw [if_neg h1]
      have hlast : (n - 1) / 2 ^ H = 1 := by rw [Nat.div_eq_iff hp]; omega
      have hne : q ≠ [] := by rintro rfl; split at hq <;> simp at hq
      obtain ⟨m, l, rfl⟩ : ∃ m l, q = m ++ [l] := ⟨q.dropLast, q.getLast hne, (List.dropLast_concat_getLast hne).symm⟩
      rw [List.dropLast_concat, List.getLastD_concat]
      by_cases h2 : i < 2 ^ H
      · rw [if_pos h2] at hq
        have hm : m.length = dp H (2 ^ H) i := by simpa using hq
        rw [if_pos h2, fd_go H (2 ^ H) i d m h2 (Nat.le_refl _) hm, wy, Nat.div_eq_of_lt h2, hlast, if_pos (by decide), wy_left n i H h2 (by omega) H (Nat.le_refl _), go_snoc nd _ _ _ _ _ (by rw [hm, dp_wy H _ _ h2 (Nat.le_refl _)])]
        rfl
      · have e1 : i / 2 ^ H = 1 := by rw [Nat.div_eq_iff hp]; omega
        rw [if_neg h2] at hq
        have hm : m.length = dp H (n - 2 ^ H) (i - 2 ^ H) := by simpa using hq
        rw [if_neg h2, fd_go H (n - 2 ^ H) (i - 2 ^ H) d m (by omega) (by omega) hm, wy, e1, hlast, if_pos (by decide), wy_right n i H (by omega) hi H (Nat.le_refl _),
          go_snoc nd _ _ _ _ _ (by rw [List.length_map, hm, dp_wy H _ _ (by omega) (by omega)]), go_map]
        · rfl
        · intro x hx
          have h3 := (wy_mem _ _ _ x hx).1
          obtain ⟨k, hk⟩ := Nat.exists_eq_add_of_le (show x.1 + 1 ≤ H by omega)
          simp only
          rw [show H - x.1 = k + 1 by omega, Nat.pow_succ]
          omega
theorem lf_wy : ∀ (H n i : Nat), i < n → n ≤ 2 ^ H → (lf H n i).reverse = (wy n i H).map (fun x => decide (x.2 % 2 = 0))
  | 0, _, _, _, _ => rfl
  | H + 1, n, i, hi, hl => by
    rw [pow_succ2] at hl
    have hp := pow_pos2 H
    rw [lf_succ]
    by_cases h1 : n ≤ 2 ^ H
    · rw [if_pos h1, lf_wy H n i hi h1]
      have h0 : (n - 1) / 2 ^ H = 0 := Nat.div_eq_of_lt (by omega)
      have := wy_stop n i hi H h0 1
      rw [this]
    · rw [if_neg h1]
      have hlast : (n - 1) / 2 ^ H = 1 := by rw [Nat.div_eq_iff hp]; omega
      by_cases h2 : i < 2 ^ H
      · rw [if_pos h2, List.reverse_cons, lf_wy H (2 ^ H) i h2 (Nat.le_refl _), wy, Nat.div_eq_of_lt h2, hlast, if_pos (by decide), wy_left n i H h2 (by omega) H (Nat.le_refl _), List.map_append]
        rfl
      · have e1 : i / 2 ^ H = 1 := by rw [Nat.div_eq_iff hp]; omega
        rw [if_neg h2, List.reverse_cons, lf_wy H (n - 2 ^ H) (i - 2 ^ H) (by omega) (by omega), wy, e1, hlast, if_pos (by decide), wy_right n i H (by omega) hi H (Nat.le_refl _), List.map_append, List.map_map]
        congr 1
        apply List.map_congr_left
        intro x hx
        have h3 := (wy_mem _ _ _ x hx).1
        obtain ⟨k, hk⟩ := Nat.exists_eq_add_of_le (show x.1 + 1 ≤ H by omega)
        simp only [Function.comp_apply]
        rw [show H - x.1 = k + 1 by omega, Nat.pow_succ]
        congr 1
        apply propext
        omega
end
end Go.Proofs.YtpaffncdfldnmaaDoor
