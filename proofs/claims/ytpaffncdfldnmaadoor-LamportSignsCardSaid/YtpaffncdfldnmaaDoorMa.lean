import Derived.Test.YtpaffncdfldnmaaDoorG
import Derived.Test.YtpaffncdfldnmaaDoorCa
namespace Go.Proofs.YtpaffncdfldnmaaDoor
open Go.RowKit

/-! ### signatures (mathematics) -/
/-- the bit at a place of a digest -/
def bitD (m : List Int) (i : Nat) : Nat := (m.getD (i / 8) 0).toNat / 2 ^ (7 - i % 8) % 2
theorem bitD_lt (m : List Int) (i : Nat) : bitD m i < 2 := Nat.mod_lt _ (by omega)
/-- n lists, one behind the other -/
def rowP (f : Nat → List Int) : Nat → List Int
  | 0 => []
  | n + 1 => rowP f n ++ f n
theorem rowP_length (f : Nat → List Int) (hf : ∀ i, (f i).length = 32) : ∀ n, (rowP f n).length = 32 * n
  | 0 => rfl
  | n + 1 => by rw [rowP, List.length_append, rowP_length f hf n, hf]; omega
theorem rowP_ext {f g : Nat → List Int} : ∀ n, (∀ i, i < n → f i = g i) → rowP f n = rowP g n
  | 0, _ => rfl
  | n + 1, h => by rw [rowP, rowP, rowP_ext n (fun i hi => h i (by omega)), h n (by omega)]
theorem rowP_inj {f g : Nat → List Int} (hf : ∀ i, (f i).length = 32) (hg : ∀ i, (g i).length = 32) : ∀ n, rowP f n = rowP g n → ∀ i, i < n → f i = g i
  | 0, _, _, hi => absurd hi (by omega)
  | n + 1, h, i, hi => by
    rw [rowP, rowP] at h
    obtain ⟨h1, h2⟩ := List.append_inj h (by rw [rowP_length f hf, rowP_length g hg])
    by_cases e : i = n
    · subst e; exact h2
    · exact rowP_inj hf hg n h1 i (by omega)
/-- digests of places and bits, in a row -/
def kf (D : Nat → Nat → List Int) (j : Nat) : List Int := D (j / 2) (j % 2)
theorem kf_even (D : Nat → Nat → List Int) (i : Nat) : kf D (2 * i) = D i 0 := by unfold kf; rw [show 2 * i / 2 = i by omega, show 2 * i % 2 = 0 by omega]
theorem kf_odd (D : Nat → Nat → List Int) (i : Nat) : kf D (2 * i + 1) = D i 1 := by unfold kf; rw [show (2 * i + 1) / 2 = i by omega, show (2 * i + 1) % 2 = 1 by omega]
theorem rowP_pair (D : Nat → Nat → List Int) (i : Nat) : rowP (kf D) (2 * (i + 1)) = rowP (kf D) (2 * i) ++ (D i 0 ++ D i 1) := by
  rw [show 2 * (i + 1) = 2 * i + 1 + 1 by omega, rowP, rowP, kf_even, kf_odd, List.append_assoc]
/-- what a signature tells of a place and a bit -/
def kD (m : List Int) (o r : Nat → List Int) (p b : Nat) : List Int := if b = bitD m p then sum (o p) else r p
theorem kD_length (m : List Int) (o r : Nat → List Int) (hr : ∀ i, (r i).length = 32) (p b : Nat) : (kD m o r p b).length = 32 := by
  unfold kD; split
  · exact sum_length _
  · exact hr p
/-- what is hashed to a key -/
def keyB (D : Nat → Nat → List Int) : List Int := rowP (kf D) 512
theorem keyB_length (D : Nat → Nat → List Int) (h : ∀ p b, (D p b).length = 32) : (keyB D).length = 16384 := by
  unfold keyB; rw [rowP_length (kf D) (fun i => h _ _)]
/-- a secret's bytes, a secret, the public key -/
def secB (s : List Int) (p b : Nat) : List Int := Cd.join [s, Cd.nums [(p : Int), (b : Int)]]
def secD (s : List Int) (p b : Nat) : List Int := sum (secB s p b)
def pubF (s : List Int) (p b : Nat) : List Int := sum (secD s p b)
def pubD (s : List Int) : List Int := sum (keyB (pubF s))
def sgO (s m : List Int) (p : Nat) : List Int := secD s p (bitD m p)
def sgR (s m : List Int) (p : Nat) : List Int := sum (secD s p (1 - bitD m p))
theorem secD_length (s : List Int) (p b : Nat) : (secD s p b).length = 32 := by unfold secD; exact sum_length _
theorem sgO_length (s m : List Int) (p : Nat) : (sgO s m p).length = 32 := by unfold sgO; exact secD_length _ _ _
theorem sgR_length (s m : List Int) (p : Nat) : (sgR s m p).length = 32 := by unfold sgR; exact sum_length _
theorem pubF_length (s : List Int) (p b : Nat) : (pubF s p b).length = 32 := by unfold pubF; exact sum_length _
theorem kD_sign (s m : List Int) (p b : Nat) (hb : b < 2) : kD m (sgO s m) (sgR s m) p b = pubF s p b := by
  have h := bitD_lt m p
  unfold kD sgO sgR pubF
  split
  · rename_i e; rw [e]
  · rename_i e; rw [show 1 - bitD m p = b by omega]
theorem keyB_sign (s m : List Int) : keyB (kD m (sgO s m) (sgR s m)) = keyB (pubF s) := by
  unfold keyB
  exact rowP_ext 512 (fun j _ => kD_sign s m _ _ (Nat.mod_lt _ (by omega)))
/-- two digests that are not the same part at a bit -/
theorem byte_bits (x y : Nat) (hx : x < 256) (hy : y < 256) (h : ∀ k, k < 8 → x / 2 ^ k % 2 = y / 2 ^ k % 2) : x = y := by
  have h0 := h 0 (by omega); have h1 := h 1 (by omega); have h2 := h 2 (by omega); have h3 := h 3 (by omega)
  have h4 := h 4 (by omega); have h5 := h 5 (by omega); have h6 := h 6 (by omega); have h7 := h 7 (by omega)
  simp only [Nat.reducePow] at h0 h1 h2 h3 h4 h5 h6 h7
  omega
theorem bits_part {a b : List Int} (ha : a.length = 32) (hb : b.length = 32) (ra : ∀ x ∈ a, 0 ≤ x ∧ x < 256) (rb : ∀ x ∈ b, 0 ≤ x ∧ x < 256) (h : ∀ i, i < 256 → bitD a i = bitD b i) : a = b := by
  apply List.ext_getElem (by omega)
  intro k h1 h2
  have x1 := ra _ (List.getElem_mem h1)
  have x2 := rb _ (List.getElem_mem h2)
  have e : (a[k]).toNat = (b[k]).toNat := by
    refine byte_bits _ _ (by omega) (by omega) (fun j hj => ?_)
    have := h (8 * k + (7 - j)) (by omega)
    unfold bitD at this
    rw [show (8 * k + (7 - j)) / 8 = k by omega, show 7 - (8 * k + (7 - j)) % 8 = j by omega] at this
    simpa [h1, h2] using this
  omega
/-- two rows of bytes that are not the same have one digest -/
def coll (a b : List Int) : Bool := !decide (a = b) && sum a == sum b
theorem coll_of {a b : List Int} (h : a ≠ b) (he : sum a = sum b) : coll a b = true := by simp [coll, h, he]
/-- what found looks for at a place -/
def fndAt (s : List Int) (o' : Nat → List Int) (i : Nat) : Bool := coll (secB s i 0) (secB s i 1) || coll (secD s i 0) (secD s i 1) || coll (secD s i 0) (o' i) || coll (secD s i 1) (o' i)
def fnd (s a b : List Int) (o' r' : Nat → List Int) : Bool := coll (keyB (kD a (sgO s a) (sgR s a))) (keyB (kD b o' r')) || (List.range 256).any (fndAt s o')
theorem fnd_at {s a b : List Int} {o' r' : Nat → List Int} (i : Nat) (hi : i < 256) (h : fndAt s o' i = true) : fnd s a b o' r' = true := by
  unfold fnd
  rw [Bool.or_eq_true]
  exact .inr (List.any_eq_true.2 ⟨i, List.mem_range.2 hi, h⟩)
theorem secB_ne (s : List Int) (i : Nat) : secB s i 0 ≠ secB s i 1 := by
  intro h
  unfold secB at h
  simp only [Cd.join, List.flatMap_cons, List.flatMap_nil, List.append_nil, Cd.pc] at h
  have h1 := List.append_cancel_left h
  have h2 := (List.append_inj h1 (by simp [Cd.be_length])).2
  simp only [Cd.nums, List.flatMap_cons, List.flatMap_nil, List.append_nil] at h2
  have h3 := List.append_cancel_left h2
  revert h3
  decide +kernel
/-- the keys are the same: what was hashed is, or two rows of bytes have one digest -/
theorem key_same {s a b : List Int} {o' r' : Nat → List Int} (hr : ∀ i, (r' i).length = 32) (h : sum (keyB (kD b o' r')) = pubD s) (hn : fnd s a b o' r' = false) (i : Nat) (hi : i < 256) (c : Nat) (hc : c < 2) : kD b o' r' i c = pubF s i c := by
  unfold fnd at hn
  rw [Bool.or_eq_false_iff] at hn
  have e : keyB (pubF s) = keyB (kD b o' r') := by
    by_cases e : keyB (kD a (sgO s a) (sgR s a)) = keyB (kD b o' r')
    · rw [← keyB_sign s a]; exact e
    · have := coll_of e (by rw [keyB_sign]; exact h.symm)
      rw [this] at hn
      simp at hn
  have := rowP_inj (f := kf (pubF s)) (g := kf (kD b o' r')) (fun i => by unfold kf; exact pubF_length _ _ _) (fun i => kD_length b o' r' hr _ _) 512 e (2 * i + c) (by omega)
  unfold kf at this
  rw [show (2 * i + c) / 2 = i by omega, show (2 * i + c) % 2 = c by omega] at this
  exact this.symm
theorem at_none {s a b : List Int} {o' r' : Nat → List Int} (hn : fnd s a b o' r' = false) (i : Nat) (hi : i < 256) : (sum (secB s i 0) ≠ sum (secB s i 1)) ∧ (sum (secD s i 0) = sum (secD s i 1) → secD s i 0 = secD s i 1) ∧ (sum (secD s i 0) = sum (o' i) → secD s i 0 = o' i) ∧ (sum (secD s i 1) = sum (o' i) → secD s i 1 = o' i) := by
  have h : fndAt s o' i = false := by
    cases q : fndAt s o' i with
    | false => rfl
    | true => rw [fnd_at i hi q] at hn; cases hn
  unfold fndAt at h
  simp only [Bool.or_eq_false_iff] at h
  obtain ⟨⟨⟨h1, h2⟩, h3⟩, h4⟩ := h
  have k : ∀ {x y : List Int}, coll x y = false → sum x = sum y → x = y := fun {x y} hc he => by
    by_cases e : x = y
    · exact e
    · rw [coll_of e he] at hc; cases hc
  exact ⟨fun e => secB_ne s i (k h1 e), k h2, k h3, k h4⟩
/-- a signature of one digest that is right of another one -/
theorem only_two {s a b : List Int} (ha : a.length = 32) (hb : b.length = 32) (ra : ∀ x ∈ a, 0 ≤ x ∧ x < 256) (rb : ∀ x ∈ b, 0 ≤ x ∧ x < 256) (hne : a ≠ b) (h : sum (keyB (kD b (sgO s a) (sgR s a))) = pubD s) : fnd s a b (sgO s a) (sgR s a) = true := by
  cases hn : fnd s a b (sgO s a) (sgR s a) with
  | true => rfl
  | false =>
    exfalso
    apply hne
    refine bits_part ha hb ra rb (fun i hi => ?_)
    by_cases e : bitD a i = bitD b i
    · exact e
    · exfalso
      have l1 := bitD_lt a i
      have l2 := bitD_lt b i
      have q := key_same (sgR_length s a) h hn i hi (bitD b i) l2
      unfold kD sgO pubF at q
      rw [if_pos rfl] at q
      obtain ⟨n1, n2, _, _⟩ := at_none hn i hi
      apply n1
      rcases (show bitD a i = 0 ∧ bitD b i = 1 ∨ bitD a i = 1 ∧ bitD b i = 0 by omega) with ⟨x, y⟩ | ⟨x, y⟩
      · rw [x, y] at q; exact n2 q
      · rw [x, y] at q; exact n2 q.symm
/-- a signature that is turned, and right -/
theorem only_turned {s a : List Int} {o' r' : Nat → List Int} (hr : ∀ i, (r' i).length = 32) (p : Nat) (hp : p < 256) (hne : o' p ≠ sgO s a p ∨ r' p ≠ sgR s a p) (h : sum (keyB (kD a o' r')) = pubD s) : fnd s a a o' r' = true := by
  cases hn : fnd s a a o' r' with
  | true => rfl
  | false =>
    exfalso
    have l1 := bitD_lt a p
    have q1 := key_same hr h hn p hp (bitD a p) l1
    have q2 := key_same hr h hn p hp (1 - bitD a p) (by omega)
    unfold kD at q1 q2
    rw [if_pos rfl] at q1
    rw [if_neg (by omega)] at q2
    obtain ⟨_, _, n3, n4⟩ := at_none hn p hp
    rcases hne with hne | hne
    · apply hne
      unfold sgO
      unfold pubF at q1
      rcases (show bitD a p = 0 ∨ bitD a p = 1 by omega) with x | x
      · rw [x] at q1 ⊢; exact (n3 q1.symm).symm
      · rw [x] at q1 ⊢; exact (n4 q1.symm).symm
    · exact hne q2
end Go.Proofs.YtpaffncdfldnmaaDoor
