import Derived.Test.YtdffbjjiojheoaaChecked
import Derived.WalkKit
import Derived.ProofKit
import Derived.OpenShut
import Derived.WalkLawsBesides
import Derived.Lib.Hide
import Derived.StillTailTactics
import Derived.BigRegion
import Derived.BigQuiet
import Derived.Deep.QuietTactic
import Derived.Deep.DeepCutAuto
import Derived.Deep.RegionWith
import Derived.IntWalk
import Derived.WalkMore
-- from Fa
namespace Go.Proofs.Ytdffbjjiojheoaa.Fx
/-! ### numbers in fixed point (mathematics) -/
/-- a number of the document's -/
def isN (n : Int) : Prop := -2147483648 ≤ n ∧ n ≤ 2147483647
instance (n : Int) : Decidable (isN n) := inferInstanceAs (Decidable (_ ∧ _))
/-- divided by 65536, rounded -/
def rnd (n : Int) : Int := (n + 32768) / 65536
/-! #### roots -/
/-- the greatest whole number whose square is no greater -/
def IsRoot (m r : Int) : Prop := 0 ≤ r ∧ r * r ≤ m ∧ m < (r + 1) * (r + 1)
theorem sq_lt {x y : Int} (hx : 0 ≤ x) (hy : 0 ≤ y) (h : x * x < y * y) : x < y := by
  refine Int.lt_of_not_ge fun hyx => ?_
  have := Int.mul_le_mul hyx hyx hy hx
  omega
theorem IsRoot.le {m n r s : Int} (h : m ≤ n) (hr : IsRoot m r) (hs : IsRoot n s) : r ≤ s := by
  obtain ⟨r0, r1, _⟩ := hr
  obtain ⟨s0, _, s2⟩ := hs
  have := sq_lt r0 (show 0 ≤ s + 1 by omega) (by omega)
  omega
/-! #### Exp -/
def stepsL : List Int := [22, 1200, 8869, 24109, 39750, 51039, 57835, 61565, 63520, 64520, 65026, 65280, 65408, 65472, 65504, 65520, 65528, 65532, 65534, 65535]
/-- step by step, the greatest bit first; so many bits as steps -/
def exGo : List Int → Int → Int → Int
  | [], _, out => out
  | s :: ss, m, out => if m / 2 ^ ss.length % 2 = 1 then exGo ss m (rnd (out * s)) else exGo ss m out
def ex (n : Int) : Int := if n ≤ -1048576 then 0 else exGo stepsL (-n) 65536
end Go.Proofs.Ytdffbjjiojheoaa.Fx
-- from Fq
namespace Go.Proofs.Ytdffbjjiojheoaa.Fq
open Go.ChangeShapes Go.WideShapes Go.ChangeAt Go.RowKit Go.Proofs.Ytdffbjjiojheoaa.Fx
theorem gen_world {Q : World → Prop} (w2 : World) (P : World → Prop) (h : P w2) (k : ∀ w, P w → Q w) : Q w2 := k w2 h
/-! ### what is checked -/
/-- a row of numbers lies there -/
structure Row (w : World) (g n : Nat) (l : List Int) : Prop where
  len : l.length = n
  max : n ≤ 64
  cell : ∀ i, i < n → w.cell? ⟨g, i, none⟩ = some (.int .i64 (l.getD i 0))
set_option maxRecDepth 100000 in
set_option maxHeartbeats 4000000 in
theorem check_ok (w : World) (g n cap : Nat) (l : List Int) (hr : Row w g n l) (h : ∀ i, i < n → isN (l.getD i 0)) :
    Calls Try.prog 102 #[.slice (some ⟨g, 0, none⟩) n cap] w fun e w' => e = .returned (.int .i64 0) ∧ w = w' := by
  have HR := Lib.hid hr
  have HH := Lib.hid h
  have hm := hr.max
  clear hr h
  go_enter Try.func102, Try.ntmps102
  go_wp2
  go_loop [7] (fun i => ∃ k : Nat, k ≤ n ∧ i = .int .i64 k) (fun i => n - (intOf i).toNat)
  case atStart => exact ⟨0, by omega, rfl⟩
  case round =>
    obtain ⟨k, hk, rfl⟩ := hrel
    by_cases hlt : k < n
    · have hdt : decide (k < n) = true := by simp; omega
      have hc := HR.out.cell k hlt
      have hi := HH.out k hlt
      obtain ⟨x, hx⟩ : ∃ x, l.getD k 0 = x := ⟨_, rfl⟩
      rw [hx] at hc hi
      clear hx
      unfold isN at hi
      have d1 : decide (x < -2147483648) = false := by simp; omega
      have d2 : decide (2147483647 < x) = false := by simp; omega
      obtain ⟨hi1, hi2⟩ := hi
      go_wp2
      go_round
      case rel => exact ⟨k + 1, by omega, by go_num⟩
      case measure => simp [intOf]; omega
    · have hdf : decide (k < n) = false := by simp; omega
      go_wp2
      go_ret
      exact ⟨rfl, rfl⟩
set_option maxRecDepth 100000 in
set_option maxHeartbeats 4000000 in
theorem check_no (w : World) (g n cap : Nat) (l : List Int) (hr : Row w g n l) (j : Nat) (hj : j < n) (h : ¬ isN (l.getD j 0)) :
    Calls Try.prog 102 #[.slice (some ⟨g, 0, none⟩) n cap] w fun e w' => e = .returned (.int .i64 10) ∧ w = w' := by
  have HR := Lib.hid hr
  have HH := Lib.hid h
  have hm := hr.max
  clear hr h
  go_enter Try.func102, Try.ntmps102
  go_wp2
  go_loop [7] (fun i => ∃ k : Nat, k ≤ j ∧ i = .int .i64 k) (fun i => n - (intOf i).toNat)
  case atStart => exact ⟨0, by omega, rfl⟩
  case round =>
    obtain ⟨k, hk, rfl⟩ := hrel
    have hlt : k < n := by omega
    have hdt : decide (k < n) = true := by simp; omega
    have hc := HR.out.cell k hlt
    have hne : k = j → ¬ isN (l.getD k 0) := fun e => by rw [e]; exact HH.out
    obtain ⟨x, hx⟩ : ∃ x, l.getD k 0 = x := ⟨_, rfl⟩
    rw [hx] at hc hne
    clear hx
    by_cases h1 : x < -2147483648
    · have d1 : decide (x < -2147483648) = true := by simp; omega
      clear hne
      go_wp2
      go_ret
      exact ⟨rfl, rfl⟩
    · have d1 : decide (x < -2147483648) = false := by simp; omega
      by_cases h2 : 2147483647 < x
      · have d2 : decide (2147483647 < x) = true := by simp; omega
        clear hne
        go_wp2
        go_ret
        exact ⟨rfl, rfl⟩
      · have d2 : decide (2147483647 < x) = false := by simp; omega
        have hkj : k < j := Nat.lt_of_le_of_ne hk (fun e => hne e ⟨by omega, by omega⟩)
        clear hne
        go_wp2
        go_round
        case rel => exact ⟨k + 1, by omega, by go_num⟩
        case measure => simp [intOf]; omega
theorem row1 (w : World) (a : Int) (fr : Nat × Nat) (g : Nat) (h : w.heap[g]? = some (.cells #[.int .i64 a] 3 fr)) : Row w g 1 [a] :=
  ⟨rfl, by omega, fun i hi => by
    obtain rfl : i = 0 := by omega
    rw [cell_of_row _ _ _ _ _ _ h]; rfl⟩
theorem all1 {a : Int} (h : isN a) : ∀ i, i < 1 → isN ([a].getD i 0) := fun i hi => by
  obtain rfl : i = 0 := by omega
  exact h
/-! ### the calls of package fixed -/
set_option maxRecDepth 100000 in
set_option maxHeartbeats 4000000 in
theorem chk_ok (w : World) (n : Int) (h : isN n) : Calls Try.prog 101 #[.int .i64 n] w fun e w' => e = .returned (.int .i64 0) ∧ Below w.heap.size w w' := by
  have H := Lib.hid h
  clear h
  go_enter Try.func101, Try.ntmps101
  go_wp2_with fail
  refine (check_ok _ _ _ _ [n] (row1 _ n (0, 0) _ (heap_alloc_new _ _)) (all1 H.out)).mono ?_
  rintro e w' ⟨rfl, rfl⟩
  go_wp2
  go_ret
  exact ⟨rfl, (Below.refl _ _).alloc (Nat.le_refl _) _⟩
set_option maxRecDepth 100000 in
set_option maxHeartbeats 4000000 in
theorem chk_no (w : World) (n : Int) (h : ¬ isN n) : Calls Try.prog 101 #[.int .i64 n] w fun e w' => e = .returned (.int .i64 10) ∧ Below w.heap.size w w' := by
  have H := Lib.hid h
  clear h
  go_enter Try.func101, Try.ntmps101
  go_wp2_with fail
  refine (check_no _ _ _ _ [n] (row1 _ n (0, 0) _ (heap_alloc_new _ _)) 0 (by omega) H.out).mono ?_
  rintro e w' ⟨rfl, rfl⟩
  go_wp2
  go_ret
  exact ⟨rfl, (Below.refl _ _).alloc (Nat.le_refl _) _⟩
/-! #### Exp -/
/-- the table of steps, as a value -/
def rowI (l : List Int) : Array Value := (l.map (Value.int .i64)).toArray
theorem rowI_get (l : List Int) (i : Nat) (h : i < l.length) : (rowI l)[i]? = some (.int .i64 (l.getD i 0)) := by
  unfold rowI
  simp [h]
theorem size3 : (Try.prog.info? 3).map (·.size) = some 1 := by kernel_rfl
end Go.Proofs.Ytdffbjjiojheoaa.Fq
-- from Hb
namespace Go.Proofs.Ytdffbjjiojheoaa.Rf
open Go.ChangeShapes Go.WideShapes Go.ChangeAt Go.RowKit Go.Proofs.Ytdffbjjiojheoaa.Fx
theorem gen_world {Q : World → Prop} (w2 : World) (P : World → Prop) (h : P w2) (k : ∀ w, P w → Q w) : Q w2 := k w2 h
/-- the table of steps, as a value -/
def rowI (l : List Int) : Array Value := (l.map (Value.int .i64)).toArray
theorem rowI_get (l : List Int) (i : Nat) (h : i < l.length) : (rowI l)[i]? = some (.int .i64 (l.getD i 0)) := by
  unfold rowI
  simp [h]
/-- the steps lie there -/
structure Stp (w : World) (W : World) : Prop where
  below : Below w.heap.size w W
  cell : ∀ k, k < 20 → W.cell? ⟨w.heap.size, k, none⟩ = some (.int .i64 (stepsL.getD k 0))
theorem Stp.made (w : World) (X : Array Value) (hX : X = rowI stepsL) : Stp w (w.alloc (.cells X 3)) := by
  subst hX
  exact ⟨(Below.refl _ _).alloc (Nat.le_refl _) _, fun k hk => by rw [cell_of_row _ _ _ _ _ _ (heap_alloc_new _ _)]; exact rowI_get stepsL k hk⟩
end Go.Proofs.Ytdffbjjiojheoaa.Rf
-- from E0
namespace Go.Proofs.Ytdffbjjiojheoaa.Tn
open Go.ChangeShapes Go.WideShapes Go.ChangeAt Go.RowKit Go.Proofs.Ytdffbjjiojheoaa.Fx Go.Proofs.Ytdffbjjiojheoaa.Rf
end Go.Proofs.Ytdffbjjiojheoaa.Tn
