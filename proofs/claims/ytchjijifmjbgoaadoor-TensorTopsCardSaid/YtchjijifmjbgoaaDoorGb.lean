import Derived.Test.YtchjijifmjbgoaaDoorGa
namespace Go.Proofs.YtchjijifmjbgoaaDoor.Tn
open Go.Proofs.YtchjijifmjbgoaaDoor.Fx

/-! ### vectors together -/
def mixS (ss : List Int) (ls : List (List Int)) (k : Nat) : Int := dotS ss (ls.map fun l => l.getD k 0)
/-- as many shares as vectors, and vectors of one length -/
def mixOk (ss : List Int) (ls : List (List Int)) : Prop := 1 ≤ ls.length ∧ ls.length ≤ 64 ∧ ss.length = ls.length ∧ ∀ l ∈ ls, l.length = (ls.getD 0 []).length
instance (ss : List Int) (ls : List (List Int)) : Decidable (mixOk ss ls) := inferInstanceAs (Decidable (_ ∧ _))
def mixN (ls : List (List Int)) : Nat := (ls.getD 0 []).length
def isS (x : Int) : Prop := 0 ≤ x ∧ x ≤ 65536
instance (n : Int) : Decidable (isS n) := inferInstanceAs (Decidable (_ ∧ _))
def mixL (ss : List Int) (ls : List (List Int)) (n : Nat) : List Int := (List.range n).map fun k => rnd (mixS ss ls k)
def mixE (ss : List Int) (ls : List (List Int)) : Int :=
  if ¬ mixOk ss ls then 13 else if mixN ls < 1 ∨ 512 < mixN ls then 13 else if ¬ (∀ l ∈ ls, ∀ x ∈ l, isN x) then 10 else if ¬ (∀ x ∈ ss, isS x) then 10 else if ∀ k, k < mixN ls → isN (rnd (mixS ss ls k)) then 0 else 17
theorem mixL_succ (ss : List Int) (ls : List (List Int)) (n : Nat) : mixL ss ls (n + 1) = mixL ss ls n ++ [rnd (mixS ss ls n)] := by
  unfold mixL
  rw [List.range_succ, List.map_append]
  rfl
theorem mixS_small {ss : List Int} {ls : List (List Int)} (hs : ∀ x ∈ ss, isS x) (hl : ∀ l ∈ ls, ∀ x ∈ l, isN x) (hn : ∀ l ∈ ls, l.length = mixN ls) (k i : Nat) (hk : k < mixN ls) (hi : i ≤ 64) :
    -9007199254740992 ≤ dotS (ss.take i) ((ls.map fun l => l.getD k 0).take i) ∧ dotS (ss.take i) ((ls.map fun l => l.getD k 0).take i) ≤ 9007199254740992 := by
  have h1 := dotS_small (M := 140737488355328) (ss.take i) ((ls.map fun l => l.getD k 0).take i) (fun j hj hj2 => by
    have hj' : j < ss.length := by simp at hj; omega
    have hji : j < i := by simp at hj; omega
    have hj2' : j < ls.length := by simp at hj2; omega
    have e1 : (ss.take i).getD j 0 = ss.getD j 0 := by simp [List.getD_eq_getElem?_getD, hji]
    have e2 : ((ls.map fun l => l.getD k 0).take i).getD j 0 = (ls.getD j []).getD k 0 := by simp [List.getD_eq_getElem?_getD, hji, hj2']
    have m : ls.getD j [] ∈ ls := by
      rw [List.getD_eq_getElem?_getD, List.getElem?_eq_getElem hj2']
      exact List.getElem_mem _
    rw [e1, e2]
    have a1 := in_of hs j hj'
    have a2 := in_of (hl _ m) k (by rw [hn _ m]; exact hk)
    unfold isS at a1
    unfold isN at a2
    have := mul_small (a := ss.getD j 0) (b := (ls.getD j []).getD k 0) (A := 65536) (B := 2147483648) (by omega) (by omega)
    omega) (by omega)
  have h2 : ((ss.take i).length : Int) ≤ 64 := by simp; omega
  have h3 : ((ss.take i).length : Int) * 140737488355328 ≤ 64 * 140737488355328 := Int.mul_le_mul_of_nonneg_right h2 (by omega)
  omega

/-! ### pairs, turned -/
def trnOk (a b c d : Int) : Prop := isN (rnd (a * c)) ∧ isN (rnd (b * d)) ∧ isN (rnd (a * d)) ∧ isN (rnd (b * c)) ∧ isN (rnd (a * c) - rnd (b * d)) ∧ isN (rnd (a * d) + rnd (b * c))
instance (a b c d : Int) : Decidable (trnOk a b c d) := inferInstanceAs (Decidable (_ ∧ _))
def trn (a b c d : Int) : Option (Int × Int) := if trnOk a b c d then some (rnd (a * c) - rnd (b * d), rnd (a * d) + rnd (b * c)) else none
theorem trn_in {a b c d : Int} {p : Int × Int} (h : trn a b c d = some p) : isN p.1 ∧ isN p.2 := by
  unfold trn at h
  split at h
  · rename_i hk
    obtain rfl := Option.some.inj h
    exact ⟨hk.2.2.2.2.1, hk.2.2.2.2.2⟩
  · cases h
/-- the angle of a place -/
def ang (c d : Int) : Nat → Option (Int × Int)
  | 0 => some (65536, 0)
  | n + 1 => (ang c d n).bind fun p => trn p.1 p.2 c d
theorem ang_in (c d : Int) : ∀ (n : Nat) (p : Int × Int), ang c d n = some p → isN p.1 ∧ isN p.2
  | 0, p, h => by
    obtain rfl := Option.some.inj h
    exact ⟨by decide, by decide⟩
  | n + 1, p, h => by
    rw [ang] at h
    cases hq : ang c d n with
    | none => rw [hq] at h; cases h
    | some q => rw [hq] at h; exact trn_in h
theorem ang_stays (c d : Int) (n : Nat) (h : ang c d n = none) : ∀ k, ang c d (n + k) = none
  | 0 => h
  | k + 1 => by
    rw [← Nat.add_assoc, ang, ang_stays c d n h k]
    rfl
def angs : List (Int × Int) := [(39322, 52429), (60495, 25206), (57826, 30840), (62915, 18350)]
def angP (j : Nat) (at_ : Nat) : Option (Int × Int) := ang (angs.getD (j % 4) (0, 0)).1 (angs.getD (j % 4) (0, 0)).2 at_
/-- the j-th pair, turned -/
def rotP (l : List Int) (at_ j : Nat) : Option (Int × Int) := (angP j at_).bind fun p => trn (l.getD (2 * j) 0) (l.getD (2 * j + 1) 0) p.1 p.2
def rotL (l : List Int) (at_ : Nat) (n : Nat) : List Int := (List.range n).flatMap fun j => match rotP l at_ j with | some p => [p.1, p.2] | none => []
def rotOk (l : List Int) (at_ : Nat) (n : Nat) : Prop := ∀ j, j < n → (rotP l at_ j).isSome = true
instance (l : List Int) (at_ n : Nat) : Decidable (rotOk l at_ n) := inferInstanceAs (Decidable (∀ j, j < n → _))
theorem rotL_succ {l : List Int} {at_ n : Nat} {p : Int × Int} (h : rotP l at_ n = some p) : rotL l at_ (n + 1) = rotL l at_ n ++ [p.1, p.2] := by
  unfold rotL
  rw [List.range_succ, List.flatMap_append]
  simp [h]
/-- the angle of a number of the document's is never beyond -/
def angAll (c d : Int) : Nat → Int × Int → Bool
  | 0, _ => true
  | n + 1, p => decide (trnOk p.1 p.2 c d) && angAll c d n (rnd (p.1 * c) - rnd (p.2 * d), rnd (p.1 * d) + rnd (p.2 * c))
theorem angAll_some (c d : Int) : ∀ (n m : Nat) (p : Int × Int), ang c d m = some p → angAll c d n p = true → ∀ k, k ≤ n → (ang c d (m + k)).isSome = true
  | 0, m, p, h, _, k, hk => by
    obtain rfl : k = 0 := by omega
    rw [Nat.add_zero, h]
    rfl
  | n + 1, m, p, h, ha, k, hk => by
    rw [angAll, Bool.and_eq_true] at ha
    rcases k with _ | k
    · rw [Nat.add_zero, h]; rfl
    · have h1 : ang c d (m + 1) = some (rnd (p.1 * c) - rnd (p.2 * d), rnd (p.1 * d) + rnd (p.2 * c)) := by
        rw [ang, h]
        show trn p.1 p.2 c d = _
        unfold trn
        rw [if_pos (by simpa using ha.1)]
      have := angAll_some c d n (m + 1) _ h1 ha.2 k (by omega)
      rw [show m + (k + 1) = m + 1 + k by omega]
      exact this
theorem ang_all : (angs.all fun p => angAll p.1 p.2 1023 (65536, 0)) = true := by decide +kernel
theorem angP_some (j at_ : Nat) (h : at_ ≤ 1023) : (angP j at_).isSome = true := by
  have hj : j % 4 < 4 := Nat.mod_lt _ (by omega)
  have hm : angs.getD (j % 4) (0, 0) ∈ angs := by
    rw [List.getD_eq_getElem?_getD, List.getElem?_eq_getElem (show j % 4 < angs.length from hj)]
    exact List.getElem_mem _
  have h1 := List.all_eq_true.1 ang_all _ hm
  have h2 := angAll_some _ _ 1023 0 (65536, 0) rfl h1 at_ h
  rw [Nat.zero_add] at h2
  exact h2
end Go.Proofs.YtchjijifmjbgoaaDoor.Tn
