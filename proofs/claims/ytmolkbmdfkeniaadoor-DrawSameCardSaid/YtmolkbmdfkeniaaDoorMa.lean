import Derived.Test.YtmolkbmdfkeniaaDoorTa
namespace Go.Proofs.YtmolkbmdfkeniaaDoor.Dr
open Go.Proofs.YtmolkbmdfkeniaaDoor.Tn

/-! ### numbers out of a seed: `num` is the seed's number of a count -/
def mostC : Int := 9223372036854775807
/-- a number is taken: it lies in a whole row of n -/
def bOk (x n : Int) : Prop := x - x % n ≤ mostC - (n - 1)
instance (x n : Int) : Decidable (bOk x n) := inferInstanceAs (Decidable (_ ≤ _))
/-- a number below n, how far it goes, what is wrong: so many tries are left, i are gone -/
def belowT (num : Int → Int) (c n : Int) : Nat → Nat → Int × Nat × Int
  | 0, _ => (0, 0, 14)
  | f + 1, i => if mostC - 1 < c + i then (0, 0, 17) else if bOk (num (c + i)) n then (num (c + i) % n, i + 1, 0) else belowT num c n f (i + 1)
def belowD (num : Int → Int) (c n : Int) : Int × Nat × Int := if n < 1 then (0, 0, 10) else belowT num c n 64 0
def atW : List Int → Int → Nat
  | [], _ => 0
  | w :: r, x => if w ≤ x then atW r (x - w) + 1 else 0
def wBad (ws : List Int) : Prop := ∃ w ∈ ws, w < 0 ∨ 2147483648 < w
instance (ws : List Int) : Decidable (wBad ws) := inferInstanceAs (Decidable (∃ w ∈ ws, _))
def chooseD (num : Int → Int) (c : Int) (ws : List Int) : Int × Nat × Int :=
  if ws.length < 1 ∨ 512 < ws.length then (0, 0, 13) else if wBad ws then (0, 0, 10) else if ws.sum = 0 then (0, 0, 14)
  else if (belowD num c ws.sum).2.2 = 0 then ((atW ws (belowD num c ws.sum).1 : Nat), (belowD num c ws.sum).2.1, 0) else (0, 0, (belowD num c ws.sum).2.2)
def ownT (v : List Int) (k : Nat) : List Int := (topN v k).map fun p => v.getD p 0
def topE8 (v : List Int) (k : Int) : Int := if chkV v ≠ 0 then chkV v else if k < 1 ∨ (v.length : Int) < k then 10 else 0
def pickD (num : Int → Int) (c : Int) (v : List Int) (k : Int) : Int × Nat × Int :=
  if topE8 v k ≠ 0 then (0, 0, topE8 v k) else if k = 1 then (((topN v 1).getD 0 0 : Nat), 0, 0)
  else if (chooseD num c (smx (ownT v k.toNat))).2.2 = 0 then (((topN v k.toNat).getD (chooseD num c (smx (ownT v k.toNat))).1.toNat 0 : Nat), (chooseD num c (smx (ownT v k.toNat))).2.1, 0)
  else (0, 0, (chooseD num c (smx (ownT v k.toNat))).2.2)

theorem belowT_fit (num : Int → Int) (c n : Int) (hn : 1 ≤ n) : ∀ (f i : Nat), (c + i ≤ mostC) → (belowT num c n f i).2.1 ≤ i + f ∧ (c + (belowT num c n f i).2.1 ≤ mostC ∨ (belowT num c n f i).2.1 = 0) ∧ ((belowT num c n f i).2.2 = 0 → 0 ≤ (belowT num c n f i).1 ∧ (belowT num c n f i).1 < n) ∧ ((belowT num c n f i).2.2 ≠ 0 → (belowT num c n f i).1 = 0 ∧ (belowT num c n f i).2.1 = 0)
  | 0, i, _ => ⟨by simp [belowT], Or.inr rfl, fun h => by simp [belowT] at h, fun _ => ⟨rfl, rfl⟩⟩
  | f + 1, i, hc => by
    unfold belowT
    by_cases h1 : mostC - 1 < c + i
    · rw [if_pos h1]
      exact ⟨by simp, Or.inr rfl, fun h => by simp at h, fun _ => ⟨rfl, rfl⟩⟩
    · rw [if_neg h1]
      by_cases h2 : bOk (num (c + i)) n
      · rw [if_pos h2]
        refine ⟨by show i + 1 ≤ i + (f + 1); omega, Or.inl ?_, fun _ => ⟨Int.emod_nonneg _ (by omega), Int.emod_lt_of_pos _ (by omega)⟩, fun h => by simp at h⟩
        show c + ((i + 1 : Nat) : Int) ≤ mostC
        omega
      · rw [if_neg h2]
        have := belowT_fit num c n hn f (i + 1) (by omega)
        refine ⟨by omega, this.2⟩
theorem belowD_fit (num : Int → Int) (c n : Int) (hc : c ≤ mostC) : (belowD num c n).2.1 ≤ 64 ∧ c + (belowD num c n).2.1 ≤ mostC ∧ ((belowD num c n).2.2 = 0 → 0 ≤ (belowD num c n).1 ∧ (belowD num c n).1 < n) ∧ ((belowD num c n).2.2 ≠ 0 → (belowD num c n).1 = 0 ∧ (belowD num c n).2.1 = 0) := by
  unfold belowD
  by_cases h : n < 1
  · rw [if_pos h]
    exact ⟨by simp, by simpa using hc, fun h => by simp at h, fun _ => ⟨rfl, rfl⟩⟩
  · rw [if_neg h]
    obtain ⟨a, b, d, e⟩ := belowT_fit num c n (by omega) 64 0 (by simpa using hc)
    refine ⟨by omega, ?_, d, e⟩
    rcases b with b | b
    · exact b
    · rw [b]; simpa using hc
theorem atW_fit : ∀ (ws : List Int) (x : Int), 0 ≤ x → x < ws.sum → (∀ w ∈ ws, 0 ≤ w) → atW ws x < ws.length ∧ 1 ≤ ws.getD (atW ws x) 0
  | [], x, h0, h1, _ => by simp at h1; omega
  | w :: r, x, h0, h1, hw => by
    unfold atW
    by_cases h : w ≤ x
    · rw [if_pos h]
      have h2 : x - w < r.sum := by simp at h1; omega
      obtain ⟨a, b⟩ := atW_fit r (x - w) (by omega) h2 (fun y hy => hw y (List.mem_cons_of_mem _ hy))
      exact ⟨by simpa using a, by simpa using b⟩
    · rw [if_neg h]
      exact ⟨by simp, by simp; omega⟩
theorem not_bad {ws : List Int} (h : ¬ wBad ws) : ∀ w ∈ ws, 0 ≤ w ∧ w ≤ 2147483648 := fun w hw => by
  refine ⟨?_, ?_⟩ <;> (apply Decidable.byContradiction; intro hh; exact h ⟨w, hw, by omega⟩)
theorem chooseD_fit (num : Int → Int) (c : Int) (ws : List Int) (hc : c ≤ mostC) : (chooseD num c ws).2.1 ≤ 64 ∧ c + (chooseD num c ws).2.1 ≤ mostC ∧ ((chooseD num c ws).2.2 = 0 → ∃ p : Nat, (chooseD num c ws).1 = (p : Int) ∧ p < ws.length ∧ 1 ≤ ws.getD p 0) ∧ ((chooseD num c ws).2.2 ≠ 0 → (chooseD num c ws).1 = 0 ∧ (chooseD num c ws).2.1 = 0) := by
  unfold chooseD
  by_cases h1 : ws.length < 1 ∨ 512 < ws.length
  · rw [if_pos h1]
    exact ⟨by simp, by simpa using hc, fun h => by simp at h, fun _ => ⟨rfl, rfl⟩⟩
  rw [if_neg h1]
  by_cases h2 : wBad ws
  · rw [if_pos h2]
    exact ⟨by simp, by simpa using hc, fun h => by simp at h, fun _ => ⟨rfl, rfl⟩⟩
  rw [if_neg h2]
  by_cases h3 : ws.sum = 0
  · rw [if_pos h3]
    exact ⟨by simp, by simpa using hc, fun h => by simp at h, fun _ => ⟨rfl, rfl⟩⟩
  rw [if_neg h3]
  obtain ⟨a, b, d, e⟩ := belowD_fit num c ws.sum hc
  by_cases h4 : (belowD num c ws.sum).2.2 = 0
  · rw [if_pos h4]
    obtain ⟨x0, x1⟩ := d h4
    exact ⟨a, b, fun _ => ⟨_, rfl, atW_fit ws _ x0 x1 (fun w hw => (not_bad h2 w hw).1)⟩, fun h => by simp at h⟩
  · rw [if_neg h4]
    exact ⟨by simp, by simpa using hc, fun h => absurd h h4, fun _ => ⟨rfl, rfl⟩⟩
/-- how many are greater -/
def gtC (v : List Int) (p : Nat) (i : Nat) : Nat := ((List.range i).filter fun q => decide (v.getD p 0 < v.getD q 0)).length
theorem gtC_succ (v : List Int) (p i : Nat) : gtC v p (i + 1) = gtC v p i + (if v.getD p 0 < v.getD i 0 then 1 else 0) := by
  unfold gtC
  rw [List.range_succ, List.filter_append, List.length_append]
  by_cases h : v.getD p 0 < v.getD i 0
  · rw [if_pos h, List.filter_cons, if_pos (by simpa using h)]
    rfl
  · rw [if_neg h, List.filter_cons, if_neg (by simpa using h)]
    rfl
theorem nodup_len : ∀ (l1 l2 : List Nat), l1.Nodup → (∀ x ∈ l1, x ∈ l2) → l1.length ≤ l2.length
  | [], _, _, _ => Nat.zero_le _
  | a :: r, l2, hn, hs => by
    have hn' := List.nodup_cons.1 hn
    have ha := hs a (by simp)
    have h1 := nodup_len r (l2.erase a) hn'.2 (fun x hx => (List.mem_erase_of_ne (fun e => hn'.1 (by rw [← e]; exact hx))).2 (hs x (List.mem_cons_of_mem _ hx)))
    rw [List.length_erase_of_mem ha] at h1
    have := List.length_pos_of_mem ha
    simp only [List.length_cons]
    omega
theorem gtC_top {v : List Int} {k j : Nat} (hk : k ≤ v.length) (hj : j < k) : (topN v k).getD j 0 < v.length ∧ gtC v ((topN v k).getD j 0) v.length ≤ j := by
  have hT := topN_is v k hk
  have hl := hT.len
  have hp : (topN v k)[j]? = some ((topN v k).getD j 0) := by
    rw [List.getD_eq_getElem?_getD, List.getElem?_eq_getElem (by omega)]
    rfl
  have hm : (topN v k).getD j 0 ∈ topN v k := List.mem_of_getElem? hp
  refine ⟨hT.lt _ hm, ?_⟩
  have hsub : ∀ q ∈ (List.range v.length).filter (fun q => decide (v.getD ((topN v k).getD j 0) 0 < v.getD q 0)), q ∈ (topN v k).take j := fun q hq => by
    obtain ⟨h1, h2⟩ := List.mem_filter.1 hq
    have hqn : q < v.length := by simpa using h1
    have hgt : v.getD ((topN v k).getD j 0) 0 < v.getD q 0 := by simpa using h2
    apply Decidable.byContradiction
    intro hnot
    have hne : q ≠ (topN v k).getD j 0 := fun e => by rw [e] at hgt; omega
    have hnot2 : q ∉ (topN v k).take (j + 1) := fun hin => by
      rw [List.take_add_one, hp] at hin
      rcases List.mem_append.1 hin with h | h
      · exact hnot h
      · simp at h; exact hne h
    have := hT.rest j _ hp q hqn hnot2
    rcases this with h | ⟨h, _⟩
    · omega
    · rw [h] at hgt
      exact absurd hgt (Int.lt_irrefl _)
  have hnd : ((List.range v.length).filter (fun q => decide (v.getD ((topN v k).getD j 0) 0 < v.getD q 0))).Nodup := List.nodup_range.filter _
  have hle := nodup_len _ _ hnd hsub
  unfold gtC
  rw [List.length_take] at hle
  omega
theorem pickD_fit (num : Int → Int) (c : Int) (v : List Int) (k : Int) (hc : c ≤ mostC) : (pickD num c v k).2.1 ≤ 64 ∧ c + (pickD num c v k).2.1 ≤ mostC ∧ ((pickD num c v k).2.2 = 0 → ∃ p : Nat, (pickD num c v k).1 = (p : Int) ∧ p < v.length ∧ (gtC v p v.length : Int) < k ∧ (k = 1 → gtC v p v.length = 0)) ∧ ((pickD num c v k).2.2 ≠ 0 → (pickD num c v k).1 = 0 ∧ (pickD num c v k).2.1 = 0) := by
  unfold pickD
  by_cases h1 : topE8 v k ≠ 0
  · rw [if_pos h1]
    exact ⟨by simp, by simpa using hc, fun h => absurd h h1, fun _ => ⟨rfl, rfl⟩⟩
  rw [if_neg h1]
  have hk : 1 ≤ k ∧ k ≤ (v.length : Int) := by
    unfold topE8 at h1
    by_cases h2 : chkV v ≠ 0
    · rw [if_pos h2] at h1; exact absurd h2 h1
    · rw [if_neg h2] at h1
      by_cases h3 : k < 1 ∨ (v.length : Int) < k
      · rw [if_pos h3] at h1; omega
      · omega
  by_cases h2 : k = 1
  · rw [if_pos h2]
    obtain ⟨a, b⟩ := gtC_top (v := v) (k := 1) (j := 0) (by omega) (by omega)
    exact ⟨by simp, by simpa using hc, fun _ => ⟨_, rfl, a, by omega, fun _ => by omega⟩, fun h => by simp at h⟩
  rw [if_neg h2]
  obtain ⟨a, b, d, e⟩ := chooseD_fit num c (smx (ownT v k.toNat)) hc
  by_cases h4 : (chooseD num c (smx (ownT v k.toNat))).2.2 = 0
  · rw [if_pos h4]
    obtain ⟨p, hp, hpl, _⟩ := d h4
    have hlen : (smx (ownT v k.toNat)).length = k.toNat := by rw [smx_length]; unfold ownT; rw [List.length_map, topN_length]
    obtain ⟨g1, g2⟩ := gtC_top (v := v) (k := k.toNat) (j := p) (by omega) (by omega)
    refine ⟨a, b, fun _ => ⟨_, rfl, ?_, ?_, fun h => absurd h h2⟩, fun h => by simp at h⟩
    · rw [hp, Int.toNat_natCast]; exact g1
    · rw [hp, Int.toNat_natCast]; omega
  · rw [if_neg h4]
    exact ⟨by simp, by simpa using hc, fun h => absurd h h4, fun _ => ⟨rfl, rfl⟩⟩
end Go.Proofs.YtmolkbmdfkeniaaDoor.Dr
