import Derived.Test.YtmlkgbfaamdapaaDoorW
namespace Go.Proofs.YtmlkgbfaamdapaaDoor
open Go.RowKit

/-- how many noughts behind the 128 -/
def zn (m : Nat) : Nat := (119 - m % 64) % 64
/-- the eight bytes of how many bits -/
def tail8 (n : Nat) : List Int := padn (List.replicate 8 0) 8 n 8
/-- bytes, filled up -/
def full (l : List Int) (n : Nat) : List Int := l ++ (128 :: List.replicate (zn l.length) 0 ++ tail8 n)
theorem padn_take (f : List Int) (E n : Nat) : ∀ k, (padn f E n k).take E = padn (f.take E) E n k
  | 0 => rfl
  | k + 1 => by simp only [padn, List.take_set, padn_take f E n k]
theorem padn_append (A B : List Int) (E n : Nat) (hA : A.length + 8 = E) : ∀ k, k ≤ 8 → padn (A ++ B) E n k = A ++ padn B 8 n k
  | 0, _ => rfl
  | k + 1, hk => by
    simp only [padn]
    rw [padn_append A B E n hA k (by omega), List.set_append_right _ _ (by omega), show E - 1 - k - A.length = 8 - 1 - k by omega]
theorem pad1_eq (l : List Int) (h : l.length < 128) : pad1 l = l ++ (128 :: List.replicate (127 - l.length) 0) := by
  unfold pad1 pad0
  rw [List.set_append_right _ _ (by omega), Nat.sub_self, show 128 - l.length = (127 - l.length) + 1 by omega, List.replicate_succ, List.set_cons_zero]
theorem padded_eq (l : List Int) (n : Nat) (h : l.length < 64) : padded l n = full l n := by
  have hE : padE l.length = l.length + 1 + zn l.length + 8 ∧ padE l.length ≤ 128 := by
    unfold padE zn
    split <;> omega
  unfold padded full
  generalize padE l.length = E at hE
  rw [padn_take, pad1_eq l (by omega)]
  have e : (l ++ (128 :: List.replicate (127 - l.length) 0)).take E = (l ++ 128 :: List.replicate (zn l.length) 0) ++ List.replicate 8 (0 : Int) := by
    rw [List.take_append, List.take_of_length_le (by omega), List.append_assoc, List.cons_append, List.replicate_append_replicate]
    rw [show E - l.length = (zn l.length + 8) + 1 by omega, List.take_succ_cons, List.take_replicate]
    rw [show min (zn l.length + 8) (127 - l.length) = zn l.length + 8 by omega]
  rw [e, padn_append _ _ E n (by simp; omega) 8 (Nat.le_refl _)]
  simp only [tail8, List.append_assoc, List.cons_append]
theorem absorb_join : ∀ (m : Nat) (s : St) (l x : List Int), l.length ≤ m → absorb s (l ++ x) = absorb (absorb s l) (rest l ++ x)
  | m, s, l, x, h => by
    by_cases hl : l.length < 64
    · rw [absorb_few s l hl, rest_few l hl]
    · match m, h with
      | 0, h => omega
      | m + 1, h =>
        rw [absorb_more s (l ++ x) (by simp; omega), absorb_more s l (by omega), rest_more l (by omega)]
        rw [List.take_append_of_le_length (by omega), List.drop_append_of_le_length (by omega)]
        exact absorb_join m _ _ x (by simp; omega)
/-- the digest, out of all bytes filled up -/
theorem sum_full (l : List Int) : sum l = (absorb start (full l l.length)).digest := by
  unfold sum fin
  have hr := rest_length l
  rw [padded_eq _ _ (by omega)]
  have e : zn (rest l).length = zn l.length := by unfold zn; omega
  unfold full
  rw [e, absorb_join l.length start l _ (Nat.le_refl _)]
theorem full_length (l : List Int) (n : Nat) : (full l n).length = l.length + 9 + zn l.length := by
  simp [full, tail8, padn_length]; omega
theorem full_whole (l : List Int) (n : Nat) : (full l n).length % 64 = 0 := by
  rw [full_length]; unfold zn; omega
end Go.Proofs.YtmlkgbfaamdapaaDoor
