import Derived.WalkKit
import Derived.ProofKit
import Derived.OpenShut
import Derived.WalkLawsBesides
import Derived.Lib.Hide
namespace Go.Proofs.YtpaffncdfldnmaaDoor
open Go.RowKit

/-- x turned by k -/
def rotr (x k : Int) : Int := bits .or .u32 (x * 2 ^ (32 - k).toNat % 4294967296) (x / 2 ^ k.toNat)

theorem mask_neg : ∀ k : Nat, k < 32 → 1 ≤ k → bits .and .u64 (IntKind.u64.wrap (-(k : Int))) 31 = 32 - (k : Int) := by decide +kernel

/-- a row of n words, those of l first, then noughts -/
def rowOf (n : Nat) (l : List Int) : Array Value := ((l ++ List.replicate (n - l.length) 0).map (Value.int .u32)).toArray

theorem rowOf_size (n : Nat) (l : List Int) (h : l.length ≤ n) : (rowOf n l).size = n := by simp [rowOf]; omega

theorem rowOf_get (n : Nat) (l : List Int) (i : Nat) (h : i < l.length) : (rowOf n l)[i]? = some (.int .u32 (l.getD i 0)) := by
  simp [rowOf, List.getElem?_append, h, List.getD]

theorem rowOf_set (n : Nat) (l : List Int) (x : Int) (h : l.length < n) : (rowOf n l).setIfInBounds l.length (.int .u32 x) = rowOf n (l ++ [x]) := by
  apply Array.ext'
  simp only [rowOf, Array.toList_setIfInBounds, List.length_append, List.length_singleton]
  have e : n - l.length = (n - (l.length + 1)) + 1 := by omega
  rw [e, List.replicate_succ]
  simp

theorem rowOf_one (n : Nat) (l : List Int) : (rowOf n l).all (·.oneCell') = true := by
  simp [rowOf, Value.oneCell']

/-- a word out of four bytes -/
def word (b0 b1 b2 b3 : Int) : Int := bits .or .u32 (bits .or .u32 (bits .or .u32 (b0 % 4294967296 * 16777216 % 4294967296) (b1 % 4294967296 * 65536 % 4294967296)) (b2 % 4294967296 * 256 % 4294967296)) (b3 % 4294967296)
/-- the first n words of a block -/
def first (l : List Int) : Nat → List Int
  | 0 => []
  | n + 1 => first l n ++ [word (l.getD (4 * n) 0) (l.getD (4 * n + 1) 0) (l.getD (4 * n + 2) 0) (l.getD (4 * n + 3) 0)]
theorem first_length (l : List Int) : ∀ n, (first l n).length = n
  | 0 => rfl
  | n + 1 => by simp [first, first_length l n]
/-- s0 and s1 of a word -/
def sig0 (x : Int) : Int := bits .xor .u32 (bits .xor .u32 (rotr x 7) (rotr x 18)) (x / 8)
def sig1 (x : Int) : Int := bits .xor .u32 (bits .xor .u32 (rotr x 17) (rotr x 19)) (x / 1024)
/-- the word behind p: p has n + 16 words -/
def next (p : List Int) (n : Nat) : Int := (sig1 (p.getD (n + 14) 0) + p.getD (n + 9) 0 + sig0 (p.getD (n + 1) 0) + p.getD n 0) % 4294967296
/-- n more words behind b -/
def ext (b : List Int) : Nat → List Int
  | 0 => b
  | n + 1 => ext b n ++ [next (ext b n) n]
theorem ext_length (b : List Int) : ∀ n, (ext b n).length = b.length + n
  | 0 => rfl
  | n + 1 => by simp [ext, ext_length b n]; omega
/-- all words of a block -/
def words (l : List Int) : List Int := ext (first l 16) 48
theorem words_length (l : List Int) : (words l).length = 64 := by simp [words, ext_length, first_length]

theorem below_setRow {B : Nat} {a w : World} (h : Below B a w) {g : Nat} (hg : B ≤ g) (cs : Array Value) : Below B a (w.setRow g cs) :=
  h.trans ⟨rfl, rfl, rfl, by simp, fun k hk => setRow_other w g k cs (by omega)⟩

structure Sp (w : World) (row : Array Value) (wr : World) : Prop where
  below : Below w.heap.size w wr
  size : wr.heap.size = w.heap.size + 2
  res : wr.heap[w.heap.size]? = some (.cells (rowOf 64 []) 84 (0, 0))
  row : wr.heap[w.heap.size + 1]? = some (.cells row 84 (0, 0))
theorem Sp.start (w : World) (X Y : Array Value) (hX : X = rowOf 64 []) (hY : Y = rowOf 64 []) : Sp w (rowOf 64 []) ((w.alloc (.cells X 84)).alloc (.cells Y 84)) := by
  subst hX; subst hY
  exact ⟨((Below.refl _ _).alloc (Nat.le_refl _) _).alloc (by simp) _, by simp, heap_alloc2_old _ _ _, heap_alloc2_new _ _ _⟩
theorem Sp.drew {w wr : World} {row : Array Value} (h : Sp w row wr) : Sp w row wr.drew := ⟨h.below.drew, h.size, h.res, h.row⟩
theorem Sp.drewN {w wr : World} {row : Array Value} (h : Sp w row wr) (n : Nat) : Sp w row (wr.drewN n) := ⟨⟨h.below.os, h.below.tape, h.below.output, h.below.size, h.below.block⟩, h.size, h.res, h.row⟩
theorem Sp.put {w wr : World} {ls : List Int} (h : Sp w (rowOf 64 ls) wr) (hl : ls.length < 64) (k : Nat) (hk : k = ls.length) (x : Int) : Sp w (rowOf 64 (ls ++ [x])) (wr.setCell ⟨w.heap.size + 1, k, none⟩ (.int .u32 x)) := by
  subst hk
  refine ⟨h.below.setCell (by simp) _, ?_, ?_, ?_⟩
  · simp [World.setCell, h.size]
  · rw [heap_setCell_other _ _ _ _ (by simp)]; exact h.res
  · rw [heap_setCell_same _ _ _ _ _ _ h.row, rowOf_set _ _ _ hl]
theorem Sp.cell {w wr : World} {ls : List Int} (h : Sp w (rowOf 64 ls) wr) (i : Nat) (hi : i < ls.length) : wr.cell? ⟨w.heap.size + 1, i, none⟩ = some (.int .u32 (ls.getD i 0)) := by
  rw [cell_of_row _ _ _ _ _ _ h.row, rowOf_get _ _ _ hi]
theorem Sp.some {w wr : World} {ls : List Int} (h : Sp w (rowOf 64 ls) wr) (hl : ls.length ≤ 64) (i : Nat) (hi : i < 64) : ∃ v, wr.cell? ⟨w.heap.size + 1, i, none⟩ = some v := by
  rw [cell_of_row _ _ _ _ _ _ h.row]
  exact ⟨_, Array.getElem?_eq_getElem (by rw [rowOf_size _ _ hl]; exact hi)⟩
theorem Sp.free {w wr : World} {row : Array Value} (h : Sp w row wr) (i : Nat) : wr.frozen? ⟨w.heap.size + 1, i, none⟩ = false := frozen_of_row _ _ _ _ _ h.row
end Go.Proofs.YtpaffncdfldnmaaDoor
