import Derived.WalkKit
import Derived.ProofKit
import Derived.OpenShut
import Derived.WalkLawsBesides
import Derived.Lib.Hide
import Derived.Test.YtchjijifmjbgoaaDoorChecked
import Derived.StillTailTactics
import Derived.BigRegion
import Derived.BigQuiet
import Derived.Deep.QuietTactic
import Derived.Deep.DeepCutAuto
import Derived.Deep.RegionWith
import Derived.IntWalk
import Derived.WalkMore
import Derived.Test.YtchjijifmjbgoaaDoorFa
namespace Go.Proofs.YtchjijifmjbgoaaDoor.Fq
open Go.ChangeShapes Go.WideShapes Go.ChangeAt Go.RowKit Go.Proofs.YtchjijifmjbgoaaDoor.Fx

theorem gen_world {Q : World → Prop} (w2 : World) (P : World → Prop) (h : P w2) (k : ∀ w, P w → Q w) : Q w2 := k w2 h
theorem below_drew {B : Nat} {a w : World} (h : Below B a w) (n : Nat) : Below B a (w.drewN n) := h.trans ⟨rfl, rfl, rfl, Nat.le_refl _, fun _ _ => rfl⟩

/-! ### what is checked -/
/-- a row of numbers lies there -/
structure Row (w : World) (g n : Nat) (l : List Int) : Prop where
  len : l.length = n
  max : n ≤ 64
  cell : ∀ i, i < n → w.cell? ⟨g, i, none⟩ = some (.int .i64 (l.getD i 0))
set_option maxRecDepth 100000 in
set_option maxHeartbeats 4000000 in
theorem check_ok (w : World) (g n cap : Nat) (l : List Int) (hr : Row w g n l) (h : ∀ i, i < n → isN (l.getD i 0)) :
    Calls Tryd.prog 80 #[.slice (some ⟨g, 0, none⟩) n cap] w fun e w' => e = .returned (.int .i64 0) ∧ w = w' := by
  have HR := Lib.hid hr
  have HH := Lib.hid h
  have hm := hr.max
  clear hr h
  go_enter Tryd.func80, Tryd.ntmps80
  go_wp2
  go_loop [7] (fun i => ∃ k : Nat, k ≤ n ∧ i = .int .i64 k) (fun i => n - (intOf i).toNat)
  case atStart => exact ⟨0, by omega, rfl⟩
  case round =>
    obtain ⟨k, hk, rfl⟩ := hrel
    by_cases hlt : k < n
    · have hdt : decide (k < n) = true := by simp; omega
      have hc := HR.out.cell k hlt
      have hi := HH.out k hlt
      obtain ⟨x, hx⟩ : ∃ x, l.getD k 0 = x := ⟨_, rfl⟩
      rw [hx] at hc hi
      clear hx
      unfold isN at hi
      have d1 : decide (x < -2147483648) = false := by simp; omega
      have d2 : decide (2147483647 < x) = false := by simp; omega
      obtain ⟨hi1, hi2⟩ := hi
      go_wp2
      go_round
      case rel => exact ⟨k + 1, by omega, by go_num⟩
      case measure => simp [intOf]; omega
    · have hdf : decide (k < n) = false := by simp; omega
      go_wp2
      go_ret
      exact ⟨rfl, rfl⟩
set_option maxRecDepth 100000 in
set_option maxHeartbeats 4000000 in
theorem check_no (w : World) (g n cap : Nat) (l : List Int) (hr : Row w g n l) (j : Nat) (hj : j < n) (h : ¬ isN (l.getD j 0)) :
    Calls Tryd.prog 80 #[.slice (some ⟨g, 0, none⟩) n cap] w fun e w' => e = .returned (.int .i64 10) ∧ w = w' := by
  have HR := Lib.hid hr
  have HH := Lib.hid h
  have hm := hr.max
  clear hr h
  go_enter Tryd.func80, Tryd.ntmps80
  go_wp2
  go_loop [7] (fun i => ∃ k : Nat, k ≤ j ∧ i = .int .i64 k) (fun i => n - (intOf i).toNat)
  case atStart => exact ⟨0, by omega, rfl⟩
  case round =>
    obtain ⟨k, hk, rfl⟩ := hrel
    have hlt : k < n := by omega
    have hdt : decide (k < n) = true := by simp; omega
    have hc := HR.out.cell k hlt
    have hne : k = j → ¬ isN (l.getD k 0) := fun e => by rw [e]; exact HH.out
    obtain ⟨x, hx⟩ : ∃ x, l.getD k 0 = x := ⟨_, rfl⟩
    rw [hx] at hc hne
    clear hx
    by_cases h1 : x < -2147483648
    · have d1 : decide (x < -2147483648) = true := by simp; omega
      clear hne
      go_wp2
      go_ret
      exact ⟨rfl, rfl⟩
    · have d1 : decide (x < -2147483648) = false := by simp; omega
      by_cases h2 : 2147483647 < x
      · have d2 : decide (2147483647 < x) = true := by simp; omega
        clear hne
        go_wp2
        go_ret
        exact ⟨rfl, rfl⟩
      · have d2 : decide (2147483647 < x) = false := by simp; omega
        have hkj : k < j := Nat.lt_of_le_of_ne hk (fun e => hne e ⟨by omega, by omega⟩)
        clear hne
        go_wp2
        go_round
        case rel => exact ⟨k + 1, by omega, by go_num⟩
        case measure => simp [intOf]; omega
theorem row1 (w : World) (a : Int) (fr : Nat × Nat) (g : Nat) (h : w.heap[g]? = some (.cells #[.int .i64 a] 3 fr)) : Row w g 1 [a] :=
  ⟨rfl, by omega, fun i hi => by
    obtain rfl : i = 0 := by omega
    rw [cell_of_row _ _ _ _ _ _ h]; rfl⟩
theorem row2 (w : World) (a b : Int) (fr : Nat × Nat) (g : Nat) (h : w.heap[g]? = some (.cells #[.int .i64 a, .int .i64 b] 3 fr)) : Row w g 2 [a, b] :=
  ⟨rfl, by omega, fun i hi => by
    rw [cell_of_row _ _ _ _ _ _ h]
    rcases i with _ | _ | i
    · rfl
    · rfl
    · omega⟩

theorem all1 {a : Int} (h : isN a) : ∀ i, i < 1 → isN ([a].getD i 0) := fun i hi => by
  obtain rfl : i = 0 := by omega
  exact h
theorem all2 {a b : Int} (ha : isN a) (hb : isN b) : ∀ i, i < 2 → isN ([a, b].getD i 0) := fun i hi => by
  rcases i with _ | _ | i
  · exact ha
  · exact hb
  · omega

/-! ### the calls of package fixed -/
set_option maxRecDepth 100000 in
set_option maxHeartbeats 4000000 in
theorem chk_ok (w : World) (n : Int) (h : isN n) : Calls Tryd.prog 67 #[.int .i64 n] w fun e w' => e = .returned (.int .i64 0) ∧ Below w.heap.size w w' := by
  have H := Lib.hid h
  clear h
  go_enter Tryd.func67, Tryd.ntmps67
  go_wp2_with fail
  refine (check_ok _ _ _ _ [n] (row1 _ n (0, 0) _ (heap_alloc_new _ _)) (all1 H.out)).mono ?_
  rintro e w' ⟨rfl, rfl⟩
  go_wp2
  go_ret
  exact ⟨rfl, (Below.refl _ _).alloc (Nat.le_refl _) _⟩
set_option maxRecDepth 100000 in
set_option maxHeartbeats 4000000 in
theorem chk_no (w : World) (n : Int) (h : ¬ isN n) : Calls Tryd.prog 67 #[.int .i64 n] w fun e w' => e = .returned (.int .i64 10) ∧ Below w.heap.size w w' := by
  have H := Lib.hid h
  clear h
  go_enter Tryd.func67, Tryd.ntmps67
  go_wp2_with fail
  refine (check_no _ _ _ _ [n] (row1 _ n (0, 0) _ (heap_alloc_new _ _)) 0 (by omega) H.out).mono ?_
  rintro e w' ⟨rfl, rfl⟩
  go_wp2
  go_ret
  exact ⟨rfl, (Below.refl _ _).alloc (Nat.le_refl _) _⟩
set_option maxRecDepth 100000 in
set_option maxHeartbeats 4000000 in
theorem in_ok (w : World) (n : Int) (h : isN n) : Calls Tryd.prog 81 #[.int .i64 n] w fun e w' => e = .returned (.tuple #[.int .i64 n, .int .i64 0]) ∧ Below w.heap.size w w' := by
  have H := Lib.hid h
  clear h
  go_enter Tryd.func81, Tryd.ntmps81
  go_wp2_with fail
  refine (check_ok _ _ _ _ [n] (row1 _ n (0, 0) _ (heap_alloc_new _ _)) (all1 H.out)).mono ?_
  rintro e w' ⟨rfl, rfl⟩
  go_wp2
  go_ret2
  exact ⟨rfl, (Below.refl _ _).alloc (Nat.le_refl _) _⟩
set_option maxRecDepth 100000 in
set_option maxHeartbeats 4000000 in
theorem in_no (w : World) (n : Int) (h : ¬ isN n) : Calls Tryd.prog 81 #[.int .i64 n] w fun e w' => e = .returned (.tuple #[.int .i64 0, .int .i64 17]) ∧ Below w.heap.size w w' := by
  have H := Lib.hid h
  clear h
  go_enter Tryd.func81, Tryd.ntmps81
  go_wp2_with fail
  refine (check_no _ _ _ _ [n] (row1 _ n (0, 0) _ (heap_alloc_new _ _)) 0 (by omega) H.out).mono ?_
  rintro e w' ⟨rfl, rfl⟩
  go_wp2
  go_ret2
  exact ⟨rfl, (Below.refl _ _).alloc (Nat.le_refl _) _⟩

/-! #### quotients -/
def fq (a b : Int) : Int := if b < 0 then -a / -b else a / b
theorem fq_dv (a b : Int) : fq (a * 65536) b = dv a b := rfl
theorem fq_rnd (n : Int) : fq (n + 32768) 65536 = rnd n := rfl
theorem fq_same {a b : Int} (hb : b ≠ 0) (h : a.tmod b = 0 ∨ (a < 0 ↔ b < 0)) : fq a b = a.tdiv b := by
  unfold fq
  by_cases h0 : b < 0
  · rw [if_pos h0, ← floor_go (-a) (-b) (by omega), Int.tmod_neg, Int.neg_tmod, Int.tdiv_neg, Int.neg_tdiv, Int.neg_neg, if_neg]
    rcases h with h | h
    · omega
    · have := Int.tmod_nonneg (a := -a) b (by omega)
      rw [Int.neg_tmod] at this
      omega
  · rw [if_neg h0, ← floor_go a b (by omega), if_neg]
    rcases h with h | h
    · omega
    · have := Int.tmod_nonneg (a := a) b (by omega)
      omega
theorem fq_less {a b : Int} (hb : b ≠ 0) (h : a.tmod b ≠ 0) (h2 : ¬ (a < 0 ↔ b < 0)) : fq a b = a.tdiv b - 1 := by
  unfold fq
  by_cases h0 : b < 0
  · rw [if_pos h0, ← floor_go (-a) (-b) (by omega), Int.tmod_neg, Int.neg_tmod, Int.tdiv_neg, Int.neg_tdiv, Int.neg_neg, if_pos]
    have := Int.tmod_nonneg (a := a) b (by omega)
    omega
  · rw [if_neg h0, ← floor_go a b (by omega), if_pos]
    have := Int.tmod_nonneg (a := -a) b (by omega)
    rw [Int.neg_tmod] at this
    omega
theorem tdiv_in {a b M : Int} (h1 : -M ≤ a) (h2 : a ≤ M) : -M ≤ a.tdiv b ∧ a.tdiv b ≤ M := by
  have h : (a.tdiv b).natAbs = a.natAbs / b.natAbs := Int.natAbs_tdiv a b
  have h3 := Nat.div_le_self a.natAbs b.natAbs
  omega
set_option maxRecDepth 100000 in
set_option maxHeartbeats 4000000 in
theorem floor_any (w : World) (a b : Int) (hb : b ≠ 0) (ha : -4611686018427420672 ≤ a ∧ a ≤ 4611686018427420672) (hbb : isN b) :
    Calls Tryd.prog 89 #[.int .i64 a, .int .i64 b] w fun e w' => e = .returned (.int .i64 (fq a b)) ∧ w = w' := by
  obtain ⟨q1, q2⟩ := tdiv_in (b := b) ha.1 ha.2
  unfold isN at hbb
  obtain ⟨b1, b2⟩ := hbb
  obtain ⟨a1, a2⟩ := ha
  by_cases h0 : a.tmod b = 0
  · rw [fq_same hb (Or.inl h0)]
    go_enter Tryd.func89, Tryd.ntmps89
    go_wp2
    go_ret
    exact ⟨rfl, rfl⟩
  · have dr : (a.tmod b != 0) = true := by simpa using h0
    have dq : (a % b != 0) = true := by
      simp only [bne_iff_ne, ne_eq]
      intro h
      exact h0 (Int.tmod_eq_zero_of_dvd (Int.dvd_of_emod_eq_zero h))
    have HH := Lib.hid h0
    by_cases ha0 : a < 0 <;> by_cases hb0 : b < 0
    · rw [fq_same hb (Or.inr ⟨fun _ => hb0, fun _ => ha0⟩)]
      have d1 : decide (a < 0) = true := by simpa using ha0
      have d2 : decide (b < 0) = true := by simpa using hb0
      clear h0
      go_enter Tryd.func89, Tryd.ntmps89
      go_wp2
      go_ret
      exact ⟨rfl, rfl⟩
    · rw [fq_less hb h0 (fun h => hb0 (h.1 ha0))]
      have d1 : decide (a < 0) = true := by simpa using ha0
      have d2 : decide (b < 0) = false := by simpa using hb0
      clear h0
      go_enter Tryd.func89, Tryd.ntmps89
      go_wp2
      go_ret
      exact ⟨rfl, rfl⟩
    · rw [fq_less hb h0 (fun h => ha0 (h.2 hb0))]
      have d1 : decide (a < 0) = false := by simpa using ha0
      have d2 : decide (b < 0) = true := by simpa using hb0
      clear h0
      go_enter Tryd.func89, Tryd.ntmps89
      go_wp2
      go_ret
      exact ⟨rfl, rfl⟩
    · rw [fq_same hb (Or.inr ⟨fun h => absurd h ha0, fun h => absurd h hb0⟩)]
      have d1 : decide (a < 0) = false := by simpa using ha0
      have d2 : decide (b < 0) = false := by simpa using hb0
      clear h0
      go_enter Tryd.func89, Tryd.ntmps89
      go_wp2
      go_ret
      exact ⟨rfl, rfl⟩
set_option maxRecDepth 100000 in
set_option maxHeartbeats 4000000 in
theorem scaled_any (w : World) (n : Int) (h1 : -4611686018427387904 ≤ n) (h2 : n ≤ 4611686018427387904) :
    Calls Tryd.prog 84 #[.int .i64 n] w fun e w' => e = .returned (.int .i64 (rnd n)) ∧ w = w' := by
  go_enter Tryd.func84, Tryd.ntmps84
  go_wp2_with fail
  refine (floor_any _ (n + 32768) 65536 (by omega) (by omega) (by unfold isN; omega)).mono ?_
  rintro e w' ⟨rfl, rfl⟩
  rw [fq_rnd]
  go_wp2
  go_ret
  exact ⟨rfl, rfl⟩

/-! #### answers: a number and what is wrong -/
def res (v : Int) : Int := if isN v then v else 0
def err (v : Int) : Int := if isN v then 0 else 17
theorem in_any (w : World) (n : Int) : Calls Tryd.prog 81 #[.int .i64 n] w fun e w' => e = .returned (.tuple #[.int .i64 (res n), .int .i64 (err n)]) ∧ Below w.heap.size w w' := by
  unfold res err
  by_cases h : isN n
  · rw [if_pos h, if_pos h]
    exact in_ok w n h
  · rw [if_neg h, if_neg h]
    exact in_no w n h
def addR (a b : Int) : Int := if isN a ∧ isN b then res (a + b) else 0
def addE (a b : Int) : Int := if isN a ∧ isN b then err (a + b) else 10
def mulR (a b : Int) : Int := if isN a ∧ isN b then res (rnd (a * b)) else 0
def mulE (a b : Int) : Int := if isN a ∧ isN b then err (rnd (a * b)) else 10
def divR (a b : Int) : Int := if isN a ∧ isN b ∧ b ≠ 0 then res (dv a b) else 0
def divE (a b : Int) : Int := if isN a ∧ isN b then if b = 0 then 26 else err (dv a b) else 10
theorem mul_in {a b : Int} (ha : isN a) (hb : isN b) : -4611686018427387904 ≤ a * b ∧ a * b ≤ 4611686018427387904 := by
  unfold isN at *
  have h := Int.natAbs_mul a b
  have h2 : a.natAbs * b.natAbs ≤ 2147483648 * 2147483648 := Nat.mul_le_mul (by omega) (by omega)
  omega
theorem two_no {a b : Int} (h : ¬ (isN a ∧ isN b)) : ∃ j, j < 2 ∧ ¬ isN ([a, b].getD j 0) := by
  by_cases ha : isN a
  · exact ⟨1, by omega, fun hb => h ⟨ha, hb⟩⟩
  · exact ⟨0, by omega, ha⟩
set_option maxRecDepth 100000 in
set_option maxHeartbeats 4000000 in
theorem add_any (w : World) (a b : Int) : Calls Tryd.prog 66 #[.int .i64 a, .int .i64 b] w fun e w' => e = .returned (.tuple #[.int .i64 (addR a b), .int .i64 (addE a b)]) ∧ Below w.heap.size w w' := by
  unfold addR addE
  by_cases h : isN a ∧ isN b
  · rw [if_pos h, if_pos h]
    have H := Lib.hid h
    clear h
    obtain ⟨a1, a2⟩ : -2147483648 ≤ a ∧ a ≤ 2147483647 := H.out.1
    obtain ⟨b1, b2⟩ : -2147483648 ≤ b ∧ b ≤ 2147483647 := H.out.2
    go_enter Tryd.func66, Tryd.ntmps66
    go_wp2_with fail
    refine (check_ok _ _ _ _ [a, b] (row2 _ a b (0, 0) _ (heap_alloc_new _ _)) (all2 H.out.1 H.out.2)).mono ?_
    rintro e w' ⟨rfl, rfl⟩
    go_wp2_with fail
    refine (in_any _ _).mono ?_
    rintro e w' ⟨rfl, hb⟩
    obtain ⟨r, hr⟩ : ∃ r, res (a + b) = r := ⟨_, rfl⟩
    obtain ⟨q, hq⟩ : ∃ q, err (a + b) = q := ⟨_, rfl⟩
    rw [hr, hq]
    have HB := Lib.hid (((Below.refl _ w).alloc (Nat.le_refl _) _).trans (hb.mono (by simp)))
    have HR := Lib.hid hr
    have HQ := Lib.hid hq
    clear hb hr hq
    go_wp2
    go_ret2
    exact ⟨by rw [HR.out, HQ.out]; rfl, HB.out⟩
  · rw [if_neg h, if_neg h]
    obtain ⟨j, hj, hn⟩ := two_no h
    have H := Lib.hid hn
    clear h hn
    go_enter Tryd.func66, Tryd.ntmps66
    go_wp2_with fail
    refine (check_no _ _ _ _ [a, b] (row2 _ a b (0, 0) _ (heap_alloc_new _ _)) j hj H.out).mono ?_
    rintro e w' ⟨rfl, rfl⟩
    go_wp2
    go_ret2
    exact ⟨rfl, (Below.refl _ _).alloc (Nat.le_refl _) _⟩
set_option maxRecDepth 100000 in
set_option maxHeartbeats 4000000 in
theorem mul_any (w : World) (a b : Int) : Calls Tryd.prog 74 #[.int .i64 a, .int .i64 b] w fun e w' => e = .returned (.tuple #[.int .i64 (mulR a b), .int .i64 (mulE a b)]) ∧ Below w.heap.size w w' := by
  unfold mulR mulE
  by_cases h : isN a ∧ isN b
  · rw [if_pos h, if_pos h]
    have H := Lib.hid h
    clear h
    obtain ⟨m1, m2⟩ := mul_in H.out.1 H.out.2
    go_enter Tryd.func74, Tryd.ntmps74
    go_wp2_with fail
    refine (check_ok _ _ _ _ [a, b] (row2 _ a b (0, 0) _ (heap_alloc_new _ _)) (all2 H.out.1 H.out.2)).mono ?_
    rintro e w' ⟨rfl, rfl⟩
    go_wp2_with fail
    refine (scaled_any _ (a * b) m1 m2).mono ?_
    rintro e w' ⟨rfl, rfl⟩
    go_wp2_with fail
    refine (in_any _ _).mono ?_
    rintro e w' ⟨rfl, hb⟩
    obtain ⟨r, hr⟩ : ∃ r, res (rnd (a * b)) = r := ⟨_, rfl⟩
    obtain ⟨q, hq⟩ : ∃ q, err (rnd (a * b)) = q := ⟨_, rfl⟩
    rw [hr, hq]
    have HB := Lib.hid (((Below.refl _ w).alloc (Nat.le_refl _) _).trans (hb.mono (by simp)))
    have HR := Lib.hid hr
    have HQ := Lib.hid hq
    clear hb hr hq
    go_wp2
    go_ret2
    exact ⟨by rw [HR.out, HQ.out]; rfl, HB.out⟩
  · rw [if_neg h, if_neg h]
    obtain ⟨j, hj, hn⟩ := two_no h
    have H := Lib.hid hn
    clear h hn
    go_enter Tryd.func74, Tryd.ntmps74
    go_wp2_with fail
    refine (check_no _ _ _ _ [a, b] (row2 _ a b (0, 0) _ (heap_alloc_new _ _)) j hj H.out).mono ?_
    rintro e w' ⟨rfl, rfl⟩
    go_wp2
    go_ret2
    exact ⟨rfl, (Below.refl _ _).alloc (Nat.le_refl _) _⟩
/-! #### Exp -/
/-- the table of steps, as a value -/
def rowI (l : List Int) : Array Value := (l.map (Value.int .i64)).toArray
theorem rowI_get (l : List Int) (i : Nat) (h : i < l.length) : (rowI l)[i]? = some (.int .i64 (l.getD i 0)) := by
  unfold rowI
  simp [h]
structure Env (w : World) : Prop where
  steps : ∃ (t : TypeId) (fr : Nat × Nat), w.heap[1]? = some (.cells (rowI stepsL) t fr)
theorem Env.below {w w' : World} (h : Env w) (hb : Below w.heap.size w w') : Env w' := by
  obtain ⟨t, fr, h0⟩ := h.steps
  exact ⟨⟨t, fr, (hb.block _ (Array.getElem?_eq_some_iff.1 h0).1).trans h0⟩⟩
theorem exRest_zero : ∀ (ss : List Int) (out : Int), exRest ss 0 out = out
  | [], _ => rfl
  | s :: ss, out => by
    have hp : (0 : Int) < 2 ^ ss.length := Int.pow_pos (by omega)
    unfold exRest
    rw [if_neg (by omega)]
    exact exRest_zero ss out
theorem size_steps : (Tryd.prog.info? 108).map (·.size) = some (rowI stepsL).size := by kernel_rfl
theorem drop_cons {l : List Int} {k : Nat} (h : k < l.length) : l.drop k = l.getD k 0 :: l.drop (k + 1) := by
  rw [List.drop_eq_getElem_cons h]
  simp [h]
theorem run_index_row {P : Program} (t e : TypeId) (n : Nat) (k : IntKind) (ht : P.underlying t = some (.array n e)) (he : P.underlying e = some (.int k)) (hs : (P.info? e).map (·.size) = some 1)
    (cs : Array Value) (i : Nat) (hi : i < n) (v : Value) (hv : cs[i]? = some v) (w : World) : (Instr.index t (.agg cs) (.int .i64 (i : Int))).run P w = .ok v w := by
  cases hq : P.info? e with
  | none => simp [hq] at hs
  | some j =>
    have hj : j.size = 1 := by simpa [hq] using hs
    simp [Instr.index, asIntOf, run_underlying ht, part, isAgg, run_underlying he, sizeOf, typeInfo, hq, hj, hi, hv]
theorem size3 : (Tryd.prog.info? 3).map (·.size) = some 1 := by kernel_rfl
theorem steps_at (k : Nat) (h : k < 20) (w : World) : (Instr.index 108 (.agg (rowI stepsL)) (.int .i64 (k : Int))).run Tryd.prog w = .ok (.int .i64 (stepsL.getD k 0)) w :=
  run_index_row 108 3 20 .i64 Tryd.underlying108 Tryd.underlying3 size3 (rowI stepsL) k h _ (rowI_get stepsL k h) w
set_option maxRecDepth 100000 in
set_option maxHeartbeats 4000000 in
theorem power_any (w : World) (n : Int) (he : Env w) (hn : n ≤ 0) (hn1 : -9223372036854775808 ≤ n) :
    Calls Tryd.prog 73 #[.int .i64 n] w fun e w' => e = .returned (.int .i64 (ex n)) ∧ w = w' := by
  by_cases h : n ≤ -1048576
  · have hx : ex n = 0 := by unfold ex; rw [if_pos h]
    rw [hx]
    clear hx
    have d : decide (n ≤ -1048576) = true := by simpa using h
    go_enter Tryd.func73, Tryd.ntmps73
    go_wp2
    go_step3
    go_wp2
    rw [Exit.noGoto_ret]
    go_ret
    exact ⟨rfl, rfl⟩
  · have HX := Lib.hid (ex_rest hn h)
    have d : decide (n ≤ -1048576) = false := by simpa using h
    obtain ⟨t, fr, h0⟩ := he.steps
    have H0 := Lib.hid h0
    clear h0 he
    obtain ⟨E, hE⟩ : ∃ E, ex n = E := ⟨_, rfl⟩
    rw [hE] at HX ⊢
    clear hE
    go_enter Tryd.func73, Tryd.ntmps73
    go_wp2
    go_step3
    go_wp2
    go_step3
    go_wp2_with (refine wpList_load_row rfl 108 (.global 1) rfl 1 rfl t (rowI stepsL) fr _ H0.out Tryd.underlying108 rfl size_steps ?_)
    go_loop [3, 4, 13] (fun p r i => ∃ (k : Nat) (x y : Int), k ≤ 20 ∧ i = .int .i64 k ∧ p = .int .i64 x ∧ r = .int .i64 y ∧ 0 ≤ x ∧ x ≤ 65536 ∧ 0 ≤ y ∧ y < 2 ^ (20 - k) ∧ exRest (stepsL.drop k) y x = E) (fun _ _ i => 20 - (intOf i).toNat)
    case atStart => exact ⟨0, 65536, -n, by omega, rfl, rfl, rfl, by omega, by omega, by omega, by show -n < 1048576; omega, HX.out⟩
    case round =>
      obtain ⟨k, x, y, hk, rfl, rfl, rfl, x0, x1, y0, hy, hE⟩ := hrel
      have HY := Lib.hid hy
      have HE := Lib.hid hE
      clear hy hE
      by_cases hlt : k < 20
      · have hdt : decide ((k : Int) < 20) = true := by simp; omega
        have hix := steps_at k hlt w
        have hs := steps_in (stepsL.getD k 0) (by
          rw [List.getD_eq_getElem?_getD, List.getElem?_eq_getElem (show k < stepsL.length from hlt)]
          exact List.getElem_mem _)
        have HD := Lib.hid (drop_cons (l := stepsL) hlt)
        obtain ⟨s, hs0⟩ : ∃ s, stepsL.getD k 0 = s := ⟨_, rfl⟩
        rw [hs0] at hix hs HD
        obtain ⟨s0, s1⟩ := hs
        have HB0 : Hid (2 ^ (stepsL.drop (k + 1)).length = (2 : Int) ^ (19 - k)) := by
          rw [Hid, List.length_drop, show stepsL.length = 20 from rfl, show 20 - (k + 1) = 19 - k by omega]
        have HB1 : Hid ((2 : Int) ^ (20 - k) = (2 : Int) ^ (19 - k) * 2) := by
          rw [Hid, show 20 - k = (19 - k) + 1 by omega, Int.pow_succ]
        have b0 : 1 ≤ (2 : Int) ^ (19 - k) := Int.pow_pos (by omega)
        have b1 : (2 : Int) ^ (19 - k) ≤ 524288 := by
          have h1 := Nat.pow_le_pow_right (show 0 < 2 by omega) (show 19 - k ≤ 19 by omega)
          have h2 : (((2 ^ (19 - k) : Nat)) : Int) = (2 : Int) ^ (19 - k) := by simp
          omega
        obtain ⟨b, hb⟩ : ∃ b, (2 : Int) ^ (19 - k) = b := ⟨_, rfl⟩
        rw [hb] at HB0 HB1 b0 b1
        have m0 : 0 ≤ x * s := Int.mul_nonneg x0 s0
        have m1 : x * s ≤ 65536 * 65536 := Int.mul_le_mul x1 s1 s0 (by omega)
        obtain ⟨t0, t1⟩ := rnd_step x0 s0 s1
        clear hs0
        by_cases hy0 : y = 0
        · subst hy0
          have HE2 : Hid (x = E) := Lib.hid (by rw [← HE.out, exRest_zero])
          go_wp2
          go_ret
          exact ⟨by rw [← HE2.out]; rfl, rfl⟩
        · have dy : (y == 0) = false := by simpa using hy0
          by_cases hyb : y < b
          · have dyb : decide (y < b) = true := by simpa using hyb
            have HE2 : Hid (exRest (stepsL.drop (k + 1)) y x = E) := by
              have h1 := HE.out
              rw [HD.out, exRest, HB0.out, if_neg (by omega)] at h1
              exact h1
            have HY2 : Hid (y < 2 ^ (20 - (k + 1))) := Lib.hid (by rw [show 20 - (k + 1) = 19 - k by omega, hb]; exact hyb)
            go_wp2
            go_round
            case rel => exact ⟨k + 1, x, y, by omega, by go_num, rfl, rfl, x0, x1, y0, HY2.out, HE2.out⟩
            case measure => simp [intOf]; omega
          · have dyb : decide (y < b) = false := by simpa using hyb
            have HE2 : Hid (exRest (stepsL.drop (k + 1)) (y - b) (rnd (x * s)) = E) := by
              have h1 := HE.out
              rw [HD.out, exRest, HB0.out, if_pos (by omega)] at h1
              exact h1
            have hy2 : y < b * 2 := by have := HY.out; rw [HB1.out] at this; exact this
            have HY2 : Hid (y - b < 2 ^ (20 - (k + 1))) := Lib.hid (by rw [show 20 - (k + 1) = 19 - k by omega, hb]; omega)
            go_wp2_with fail
            refine (scaled_any _ (x * s) (by omega) (by omega)).mono ?_
            rintro e w' ⟨rfl, rfl⟩
            obtain ⟨z, hz⟩ : ∃ z, rnd (x * s) = z := ⟨_, rfl⟩
            rw [hz] at t0 t1 HE2 ⊢
            clear hz
            go_wp2
            go_round
            case rel => exact ⟨k + 1, z, y - b, by omega, by go_num, rfl, rfl, t0, by omega, by omega, HY2.out, HE2.out⟩
            case measure => simp [intOf]; omega
      · obtain rfl : k = 20 := by omega
        have HE2 : Hid (x = E) := Lib.hid (by rw [← HE.out]; rfl)
        have hdf : decide (((20 : Nat) : Int) < 20) = false := by decide
        go_wp2
        go_ret
        exact ⟨by rw [← HE2.out]; rfl, rfl⟩

def expR (n : Int) : Int := if 0 < n then 0 else ex n
def expE (n : Int) : Int := if 0 < n then 10 else 0
set_option maxRecDepth 100000 in
set_option maxHeartbeats 4000000 in
theorem exp_any (w : World) (n : Int) (he : Env w) (hn1 : -9223372036854775808 ≤ n) :
    Calls Tryd.prog 51 #[.int .i64 n] w fun e w' => e = .returned (.tuple #[.int .i64 (expR n), .int .i64 (expE n)]) ∧ w = w' := by
  unfold expR expE
  by_cases h : 0 < n
  · rw [if_pos h, if_pos h]
    have d : decide (0 < n) = true := by simpa using h
    go_enter Tryd.func51, Tryd.ntmps51
    go_wp2
    go_ret2
    exact ⟨rfl, rfl⟩
  · rw [if_neg h, if_neg h]
    have d : decide (0 < n) = false := by simpa using h
    go_enter Tryd.func51, Tryd.ntmps51
    go_wp2_with fail
    refine (power_any w n he (by omega) hn1).mono ?_
    rintro e w' ⟨rfl, rfl⟩
    obtain ⟨E, hE⟩ : ∃ E, ex n = E := ⟨_, rfl⟩
    rw [hE]
    have HE := Lib.hid hE
    clear hE
    go_wp2
    go_ret2
    exact ⟨by rw [HE.out]; rfl, rfl⟩
end Go.Proofs.YtchjijifmjbgoaaDoor.Fq
