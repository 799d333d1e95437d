import Derived.Test.YtpaffncdfldnmaaDoorO
namespace Go.Proofs.YtpaffncdfldnmaaDoor
open Go.ChangeShapes Go.WideShapes Go.ChangeAt Go.RowKit

theorem absorb_rest (b : List Int) : ∀ (n : Nat) (s : St) (l : List Int), l.length / 64 = n → absorb s (l ++ b) = absorb (absorb s l) (rest l ++ b) ∧ rest (l ++ b) = rest (rest l ++ b)
  | 0, s, l, h => by
    have hl : l.length < 64 := by omega
    rw [absorb_few s l hl, rest_few l hl]
    exact ⟨rfl, rfl⟩
  | n + 1, s, l, h => by
    have hl : 64 ≤ l.length := by omega
    obtain ⟨h1, h2⟩ := absorb_rest b n (s.turn (l.take 64)) (l.drop 64) (by simp; omega)
    rw [absorb_more s (l ++ b) (by simp; omega), rest_more (l ++ b) (by simp; omega), absorb_more s l hl, rest_more l hl,
      List.take_append_of_le_length hl, List.drop_append_of_le_length hl]
    exact ⟨h1, h2⟩
theorem absorb_append (s : St) (l b : List Int) : absorb s (l ++ b) = absorb (absorb s l) (rest l ++ b) := (absorb_rest b _ s l rfl).1
theorem rest_append (l b : List Int) : rest (l ++ b) = rest (rest l ++ b) := (absorb_rest b _ start l rfl).2
theorem append_few (s : St) (l b : List Int) (h : l.length % 64 + b.length < 64) : absorb s (l ++ b) = absorb s l ∧ rest (l ++ b) = rest l ++ b := by
  have hl : (rest l ++ b).length < 64 := by simp [rest_length]; omega
  rw [absorb_append, rest_append, absorb_few _ _ hl, rest_few _ hl]
  exact ⟨rfl, rfl⟩
theorem append_more (s : St) (l b : List Int) (h : 64 ≤ l.length % 64 + b.length) :
    absorb s (l ++ b) = absorb ((absorb s l).turn (rest l ++ b.take (64 - l.length % 64))) (b.drop (64 - l.length % 64)) ∧ rest (l ++ b) = rest (b.drop (64 - l.length % 64)) := by
  have hr := rest_length l
  have hl : 64 ≤ (rest l ++ b).length := by simp [hr]; omega
  rw [absorb_append, rest_append, absorb_more _ _ hl, rest_more _ hl, List.take_append, List.drop_append, hr, List.take_of_length_le (by omega), List.drop_of_length_le (by omega)]
  exact ⟨rfl, rfl⟩

/-- a store of the number -/
theorem row_taken (s : St) (T : List Int) (hT : T.length = 64) (n n' : Nat) : (rowSt s.list (tailRow T n)).setIfInBounds 72 (.int .i64 n') = rowSt s.list (tailRow T n') := by
  apply Array.ext'
  have h : (s.list.map (Value.int .u32)).length = 8 := rfl
  simp only [rowSt, tailRow, Array.toList_setIfInBounds, Array.toList_append]
  rw [List.set_append_right _ _ (by rw [h]; omega), h, List.set_append_right _ _ (by simp [hT])]
  simp [hT]
/-- a copy into the tail -/
theorem row_copy (s : St) (T b : List Int) (k n : Nat) (hT : T.length = 64) (hk : k + b.length ≤ 64) :
    ((rowSt s.list (tailRow T n)).toList.take (8 + k) ++ (b.map (Value.int .u8) ++ (rowSt s.list (tailRow T n)).toList.drop (8 + k + (b.map (Value.int .u8)).length))).toArray = rowSt s.list (tailRow (T.take k ++ (b ++ T.drop (k + b.length))) n) := by
  apply Array.ext'
  have h : (s.list.map (Value.int .u32)).length = 8 := rfl
  simp only [rowSt, tailRow, Array.toList_append, List.length_map]
  rw [List.take_append, List.drop_append, h, List.take_of_length_le (by rw [h]; omega), List.drop_of_length_le (by rw [h]; omega), show 8 + k - 8 = k from by omega, show 8 + k + b.length - 8 = k + b.length from by omega,
    List.take_append_of_le_length (by simp [hT]; omega), List.drop_append_of_le_length (by simp [hT]; omega)]
  simp
end Go.Proofs.YtpaffncdfldnmaaDoor
