import Derived.Test.YtpaffncdfldnmaaDoorW
namespace Go.Proofs.YtpaffncdfldnmaaDoor
open Go.RowKit

theorem cell_alloc2 {w : World} {X Y : Obj} {a : Addr} {v : Value} (h : w.cell? a = some v) : ((w.alloc X).alloc Y).cell? a = some v := by
  have hb : Below w.heap.size w ((w.alloc X).alloc Y) := ((Below.refl _ _).alloc (Nat.le_refl _) _).alloc (by simp) _
  exact (hb.cell (block_lt_of_cell h)).trans h
theorem Two.copied {w w1 : World} {X Y : Array Value} (hX : X = rowB (zs 32)) (l : List Int) (h1 : Hid (w1.heap[w.heap.size + 1]? = some (.cells (splice ((zs 128).map (Value.int .u8)) 0 (l.map (Value.int .u8))).toArray 68 (0, 0))))
    (hb : Below (w.heap.size + 1) ((w.alloc (.cells X 23)).alloc (.cells Y 68)) w1) : Two w 23 (zs 32) (pad0 l) 68 w1 := by
  subst hX
  have hb0 : Below w.heap.size w ((w.alloc (.cells (rowB (zs 32)) 23)).alloc (.cells Y 68)) := ((Below.refl _ _).alloc (Nat.le_refl _) _).alloc (by simp) _
  refine ⟨⟨hb0.trans (hb.mono (by omega)), by omega, ?_⟩, ?_⟩
  · have := h1.out
    rw [splice_pad] at this
    exact this
  · rw [hb.block _ (by omega)]
    exact heap_alloc2_old _ _ _
/-- behind the last blocks -/
theorem Un.fin {w wr w1 w2 : World} {p : Nat} {ty : TypeId} {r : Array Value} {l : List Int} (hpl : p < w.heap.size) (hb : Below w.heap.size w wr) (hu : Un wr p ty r l w1) (h2 : Below w1.heap.size w1 w2) (cs : Array Value) : Un w p ty r l (w2.setRow w.heap.size cs) := by
  have hp1 : p < w1.heap.size := Nat.lt_of_lt_of_le hpl (Nat.le_trans hb.size hu.grown.size)
  refine ⟨⟨?_, ?_, ?_, ?_, fun k hk hne => ?_⟩, ?_⟩
  · exact h2.os.trans (hu.grown.os.trans hb.os)
  · exact h2.tape.trans (hu.grown.tape.trans hb.tape)
  · exact h2.output.trans (hu.grown.output.trans hb.output)
  · rw [size_setRow]; exact Nat.le_trans hb.size (Nat.le_trans hu.grown.size h2.size)
  · have hk1 : k < wr.heap.size := Nat.lt_of_lt_of_le hk hb.size
    rw [setRow_other _ _ _ _ (by omega), h2.block k (Nat.lt_of_lt_of_le hk1 hu.grown.size), hu.grown.block k hk1 hne, hb.block k hk]
  · rw [setRow_other _ _ _ _ (by omega), h2.block p hp1]; exact hu.row
theorem Fl.lies {w wr : World} {g : Nat} {t : TypeId} {l : List Int} (h : Fl w g t l wr) (k : Nat) : Lies wr g 0 (l.take k) := by
  intro i hi
  have hi' : i < k ∧ i < l.length := by simp at hi; omega
  rw [Nat.zero_add, h.cell i hi'.2]
  simp [hi'.1]
theorem Fl.kc {w wr : World} (hb : Below w.heap.size w wr) (h : Kc w) : Kc wr := fun i hi => (hb.cell (block_lt_of_cell (h i hi))).trans (h i hi)
theorem padded_length (l : List Int) (n : Nat) (h : l.length ≤ 128) : (padded l n).length = padE l.length := by
  simp only [padded, List.length_take, padn_length, pad1_length l h]
  unfold padE
  split <;> omega
end Go.Proofs.YtpaffncdfldnmaaDoor
