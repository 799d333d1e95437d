import Derived.Test.YtmolkbmdfkeniaaDoorMa
namespace Go.Proofs.YtmolkbmdfkeniaaDoor.Dr
set_option maxRecDepth 100000
open Go.ChangeShapes Go.WideShapes Go.ChangeAt Go.RowKit Go.Proofs.YtmolkbmdfkeniaaDoor.Tn

/-! ### package draw, as the laws see it: `num` is what number a seed has at a count, `St` a stream in memory -/
def dgV (s : List Int) : Value := .agg (s.map (Value.int .u8)).toArray
def Seed (s : List Int) : Prop := s.length = 32 ∧ ∀ x ∈ s, 0 ≤ x ∧ x < 256
def ptV (g : Nat) : Value := .pointer (some ⟨g, 0, none⟩)
/-- what is answered, and what is wrong -/
def two (x e : Int) : Value := .tuple #[.int .i64 x, .int .i64 e]
/-- a slice that does not lie in block g -/
def Apart (sp : Option Addr) (g : Nat) (l : List Int) : Prop := 0 < l.length → ∀ a, sp = some a → a.block ≠ g
structure DrawOK (E : World → Prop) (num : List Int → Int → Int) (St : World → Nat → List Int → Int → Prop) (Pk : List Int → Prop) : Prop where
  env : ∀ w w', E w → Below w.heap.size w w' → E w'
  later : ∀ w w' g s c, St w g s c → Below w.heap.size w w' → St w' g s c
  apart : ∀ w w' g h s c, St w g s c → w.grownBy w' (some h) → g ≠ h → St w' g s c
  lt : ∀ w g s c, St w g s c → g < w.heap.size
  seed : ∀ w g s c, St w g s c → Seed s ∧ 0 ≤ c ∧ c ≤ mostC
  rng : ∀ s c, Seed s → 0 ≤ num s c ∧ num s c ≤ mostC
  number : ∀ w s c, E w → Seed s → -9223372036854775808 ≤ c → c ≤ mostC → Calls Tryd.prog 11 #[dgV s, .int .i64 c] w fun e w' => e = .returned (two (if c < 0 then 0 else num s c) (if c < 0 then 10 else 0)) ∧ Below w.heap.size w w'
  newNo : ∀ w s c, E w → Seed s → -9223372036854775808 ≤ c → c < 0 → Calls Tryd.prog 12 #[dgV s, .int .i64 c] w fun e w' => e = .returned (.tuple #[.pointer none, .int .i64 10]) ∧ Below w.heap.size w w'
  new : ∀ w s c, E w → Seed s → 0 ≤ c → c ≤ mostC → Calls Tryd.prog 12 #[dgV s, .int .i64 c] w fun e w' => ∃ g, e = .returned (.tuple #[ptV g, .int .i64 0]) ∧ w.heap.size ≤ g ∧ St w' g s c ∧ Below w.heap.size w w'
  next : ∀ w g s c, E w → St w g s c → Calls Tryd.prog 16 #[ptV g] w fun e w' => e = .returned (two (if c = mostC then 0 else num s c) (if c = mostC then 17 else 0)) ∧ St w' g s (if c = mostC then c else c + 1) ∧ w.grownBy w' (some g)
  count : ∀ w g s c, E w → St w g s c → Calls Tryd.prog 15 #[ptV g] w fun e w' => e = .returned (.int .i64 c) ∧ Below w.heap.size w w'
  below : ∀ w g s c n, E w → St w g s c → -9223372036854775808 ≤ n → n ≤ mostC → Calls Tryd.prog 17 #[ptV g, .int .i64 n] w fun e w' => e = .returned (two (belowD (num s) c n).1 (belowD (num s) c n).2.2) ∧ St w' g s (c + (belowD (num s) c n).2.1) ∧ w.grownBy w' (some g)
  grown : ∀ w w' g s c, E w → St w g s c → w.grownBy w' (some g) → E w'
  choose : ∀ w g s c sp cap ws, E w → St w g s c → Nums w sp cap ws → Apart sp g ws → Calls Tryd.prog 19 #[ptV g, .slice sp ws.length cap] w fun e w' => e = .returned (two (chooseD (num s) c ws).1 (chooseD (num s) c ws).2.2) ∧ St w' g s (c + (chooseD (num s) c ws).2.1) ∧ w.grownBy w' (some g)
  pick : ∀ w g s c sp cap v k, E w → St w g s c → Nums w sp cap v → Pk v → -9223372036854775808 ≤ k → k ≤ mostC → Calls Tryd.prog 21 #[ptV g, .slice sp v.length cap, .int .i64 k] w fun e w' => e = .returned (two (pickD (num s) c v k).1 (pickD (num s) c v k).2.2) ∧ St w' g s (c + (pickD (num s) c v k).2.1) ∧ w.grownBy w' (some g)
  nilNext : ∀ w, Calls Tryd.prog 16 #[.pointer none] w fun e w' => e = .returned (two 0 2) ∧ Below w.heap.size w w'
  nilCount : ∀ w, Calls Tryd.prog 15 #[.pointer none] w fun e w' => e = .returned (.int .i64 0) ∧ Below w.heap.size w w'
  nilBelow : ∀ w n, Calls Tryd.prog 17 #[.pointer none, .int .i64 n] w fun e w' => e = .returned (two 0 2) ∧ Below w.heap.size w w'
  nilChoose : ∀ w sp N cap, Calls Tryd.prog 19 #[.pointer none, .slice sp N cap] w fun e w' => e = .returned (two 0 2) ∧ Below w.heap.size w w'
  nilPick : ∀ w sp N cap k, Calls Tryd.prog 21 #[.pointer none, .slice sp N cap, .int .i64 k] w fun e w' => e = .returned (two 0 2) ∧ Below w.heap.size w w'
/-- the reference's number -/
def RefNum (num : List Int → Int → Int) : Prop := ∀ w s c, Seed s → 0 ≤ c → c ≤ mostC → Calls Tryd.prog 14 #[dgV s, .int .i64 c] w fun e w' => e = .returned (.int .i64 (num s c)) ∧ Below w.heap.size w w'
theorem below_grown {B g : Nat} {w W W' : World} (h : Below B w W) (h2 : W.grownBy W' (some g)) (hg : B ≤ g) (hB : B ≤ w.heap.size) : Below B w W' :=
  h.trans (Below.ofGrown h2 (Nat.le_trans hB h.size) (fun j hj => by cases hj; omega))
theorem below_one (num : Int → Int) (c : Int) (h : num c ≤ mostC) (hc : c < mostC) : belowD num c 1 = (0, 1, 0) := by
  unfold belowD
  rw [if_neg (by omega)]
  unfold belowT
  rw [if_neg (by simp; omega)]
  have e : c + ((0 : Nat) : Int) = c := by simp
  rw [e, if_pos (by unfold bOk; omega), Int.emod_one]
theorem pick_first (num : Int → Int) (c : Int) : pickD num c [3, 9, 9] 1 = (1, 0, 0) := by
  unfold pickD
  rw [if_neg (by decide), if_pos rfl]
  rfl
end Go.Proofs.YtmolkbmdfkeniaaDoor.Dr
