import Derived.Test.YtpaffncdfldnmaaDoorT
namespace Go.Proofs.YtpaffncdfldnmaaDoor
open Go.RowKit

/-- the first m blocks of l turn the state -/
def blocks : Nat → St → List Int → St
  | 0, s, _ => s
  | m + 1, s, l => blocks m (s.turn (l.take 64)) (l.drop 64)
/-- all whole blocks of l turn the state -/
def absorb (s : St) (l : List Int) : St := blocks (l.length / 64) s l
/-- the bytes behind the whole blocks -/
def rest (l : List Int) : List Int := l.drop (64 * (l.length / 64))
theorem absorb_more (s : St) (l : List Int) (h : 64 ≤ l.length) : absorb s l = absorb (s.turn (l.take 64)) (l.drop 64) := by
  have e : l.length / 64 = (l.length - 64) / 64 + 1 := by omega
  simp only [absorb, List.length_drop, e, blocks]
theorem rest_more (l : List Int) (h : 64 ≤ l.length) : rest l = rest (l.drop 64) := by
  have e : l.length / 64 = (l.length - 64) / 64 + 1 := by omega
  simp only [rest, List.length_drop, List.drop_drop, e]
  congr 1
  omega
theorem absorb_few (s : St) (l : List Int) (h : l.length < 64) : absorb s l = s := by
  have e : l.length / 64 = 0 := by omega
  simp only [absorb, e, blocks]
theorem rest_few (l : List Int) (h : l.length < 64) : rest l = l := by
  have e : l.length / 64 = 0 := by omega
  simp [rest, e]
theorem rest_length (l : List Int) : (rest l).length = l.length % 64 := by
  simp only [rest, List.length_drop]; omega

theorem Un.trans {w w1 w2 : World} {p : Nat} {ty : TypeId} {r : Array Value} {l l' : List Int} (h : Un w p ty r l w1) (k : Un w1 p ty r l' w2) : Un w p ty r l' w2 :=
  ⟨⟨k.grown.os.trans h.grown.os, k.grown.tape.trans h.grown.tape, k.grown.output.trans h.grown.output, Nat.le_trans h.grown.size k.grown.size,
    fun i hi hne => (k.grown.block i (Nat.lt_of_lt_of_le hi h.grown.size) hne).trans (h.grown.block i hi hne)⟩, k.row⟩

/-- the bytes of l lie at c from o on -/
def Lies (w : World) (c o : Nat) (l : List Int) : Prop := ∀ i, i < l.length → w.cell? ⟨c, o + i, none⟩ = some (.int .u8 (l.getD i 0))
/-- the constants lie where they were laid -/
def Kc (w : World) : Prop := ∀ i, i < 64 → w.cell? ⟨1, i, none⟩ = some (.int .u32 (kc.getD i 0))
theorem Lies.drop {w : World} {c o : Nat} {l : List Int} (h : Lies w c o l) (k : Nat) : Lies w c (o + k) (l.drop k) := by
  intro i hi
  have := h (k + i) (by simp at hi; omega)
  rw [show o + k + i = o + (k + i) from by omega, this]
  simp [List.getElem?_drop]
theorem Lies.take {w : World} {c o : Nat} {l : List Int} (h : Lies w c o l) (k : Nat) : Lies w c o (l.take k) := by
  intro i hi
  have hi' : i < k ∧ i < l.length := by simp at hi; omega
  rw [h i hi'.2]
  simp [hi'.1]

/-- what a turn of the state leaves: bytes that do not lie over the state -/
theorem Un.kept {w w1 : World} {p : Nat} {ty : TypeId} {r : Array Value} {l0 l1 : List Int} (hl0 : l0.length = 8) (hl1 : l1.length = 8) (h0 : w.heap[p]? = some (.cells (rowSt l0 r) ty (0, 0))) (k : Un w p ty r l1 w1)
    {a : Addr} {v : Value} (ha : a.block ≠ p ∨ 8 ≤ a.off) (hs : a.spot = none) (h : w.cell? a = some v) : w1.cell? a = some v := by
  by_cases hb : a.block = p
  · have ho : 8 ≤ a.off := by omega
    obtain ⟨b, o, s⟩ := a
    simp only at hb ho hs
    subst hb hs
    rw [cell_of_row _ _ _ _ _ _ h0] at h
    rw [cell_of_row _ _ _ _ _ _ k.row]
    simp [rowSt, Array.getElem?_append, hl0, hl1, show ¬ o < 8 by omega] at h ⊢
    exact h
  · exact k.grown.cell h (by simpa using hb)
end Go.Proofs.YtpaffncdfldnmaaDoor
