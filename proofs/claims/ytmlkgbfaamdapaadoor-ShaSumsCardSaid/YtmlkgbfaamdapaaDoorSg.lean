import Derived.Test.YtmlkgbfaamdapaaDoorSf
import Derived.Test.YtmlkgbfaamdapaaDoorPa
namespace Go.Proofs.YtmlkgbfaamdapaaDoor
open Go.ChangeShapes Go.WideShapes Go.ChangeAt Go.RowKit

/-- a row of bytes of the call's own -/
structure Out (w : World) (v : Value) (n : Nat) (xs : List Int) (W : World) : Prop where
  own : W.ownsRow w.heap.size 5 1 v n (xs.map (Value.int .u8))
  below : Below w.heap.size w W
theorem Bytes.one (w : World) (z : Int) (fr : Nat × Nat) : Bytes (w.alloc (.cells #[.int .u8 z] 5 fr)) (some ⟨w.heap.size, 0, none⟩) 1 [z] := by
  refine ⟨Nat.le_refl _, by unfold maxLen; omega, fun _ => ⟨_, _, rfl, fun i hi => ?_⟩⟩
  rw [Nat.zero_add, cell_of_row _ _ _ _ _ _ (heap_alloc_new _ _)]
  exact rowB_get [z] i hi
/-- append of one byte -/
theorem wpList_push {w W : World} {ops : Array Oper} {rest : List Oper} {o : Oper} {a : Act} {Q : Exit → Act → World → Prop} {v : Value} {n : Nat} {xs : List Int} {z : Int} {fr : Nat × Nat} (h : Out w v n xs W) (hgd : o.guard = none) (s x : Operand)
    (ho : o.op = .call { callee := .builtin .append, args := #[s, x], argTypes := #[22, 22] }) (hs : a.eval s = v) (hx : a.eval x = .slice (some ⟨W.heap.size, 0, none⟩) 1 1) (hn : n + 1 ≤ 1000000)
    (k : ∀ sp cap W', Out w (.slice sp (n + 1) cap) (n + 1) (xs ++ [z]) W' → wpList Tryd.prog ops Q rest (a.put o.dst (.slice sp (n + 1) cap)) W') : wpList Tryd.prog ops Q (o :: rest) a (W.alloc (.cells #[.int .u8 z] 5 fr)) := by
  have hsz := h.below.size
  refine wpList_append_bytes hgd s x ho w.heap.size v n 1 xs [z] hs (h.own.alloc _) _ 1 hx rfl (Bytes.one W z fr) (fun e => by cases e) hn (by simp; omega) ?_
  intro v' w' hown hg
  obtain ⟨sp, cap, rfl, _⟩ := own_bytes hown
  exact k sp cap w' ⟨hown, (h.below.alloc hsz _).trans (Below.ofGrown hg (by simp; omega) (fun k e => (h.own.lt k e).1))⟩

theorem tail8_length (n : Nat) : (tail8 n).length = 8 := by simp [tail8, padn_length]
theorem tail8_at (n : Nat) : ∀ k, k < 8 → (tail8 n)[k]? = some (8 * (n : Int) / 2 ^ (8 * (7 - k)) % 256)
  | 0, _ => by simp [tail8, padn, Int.mul_comm]
  | 1, _ => by simp [tail8, padn, Int.mul_comm]
  | 2, _ => by simp [tail8, padn, Int.mul_comm]
  | 3, _ => by simp [tail8, padn, Int.mul_comm]
  | 4, _ => by simp [tail8, padn, Int.mul_comm]
  | 5, _ => by simp [tail8, padn, Int.mul_comm]
  | 6, _ => by simp [tail8, padn, Int.mul_comm]
  | 7, _ => by simp [tail8, padn, Int.mul_comm]
  | k + 8, h => absurd h (by omega)
theorem tail8_take (n k : Nat) (hk : k < 8) : (tail8 n).take (k + 1) = (tail8 n).take k ++ [8 * (n : Int) / 2 ^ (8 * (7 - k)) % 256] := by
  rw [List.take_add_one, tail8_at n k hk]
  rfl
def lenV : Value → Nat | .slice _ n _ => n | _ => 0

end Go.Proofs.YtmlkgbfaamdapaaDoor
