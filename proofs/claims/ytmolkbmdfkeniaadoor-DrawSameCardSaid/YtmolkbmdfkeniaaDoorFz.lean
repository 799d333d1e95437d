import Derived.Test.YtmolkbmdfkeniaaDoorChecked
import Derived.WalkKit
import Derived.ProofKit
import Derived.OpenShut
import Derived.WalkLawsBesides
import Derived.Lib.Hide
import Derived.StillTailTactics
import Derived.BigRegion
import Derived.BigQuiet
import Derived.Deep.QuietTactic
import Derived.Deep.DeepCutAuto
import Derived.Deep.RegionWith
import Derived.IntWalk
import Derived.WalkMore
-- from Fa
namespace Go.Proofs.YtmolkbmdfkeniaaDoor.Fx
/-! ### numbers in fixed point (mathematics) -/
/-- a number of the document's -/
def isN (n : Int) : Prop := -2147483648 ≤ n ∧ n ≤ 2147483647
instance (n : Int) : Decidable (isN n) := inferInstanceAs (Decidable (_ ∧ _))
/-- divided by 65536, rounded -/
def rnd (n : Int) : Int := (n + 32768) / 65536
theorem rnd_mono {a b : Int} (h : a ≤ b) : rnd a ≤ rnd b := by unfold rnd; omega
theorem rnd_mul (a : Int) : rnd (a * 65536) = a := by unfold rnd; omega

/-- x times b no greater than y times b -/
theorem le_of_mul {x y b : Int} (hb : 0 < b) (h : x * b < y * b + b) : x ≤ y := by
  have h' : x * b < (y + 1) * b := by rw [Int.add_mul, Int.one_mul]; exact h
  have := Int.lt_of_mul_lt_mul_right h' (by omega)
  omega
/-! #### roots -/
/-- the greatest whole number whose square is no greater -/
def IsRoot (m r : Int) : Prop := 0 ≤ r ∧ r * r ≤ m ∧ m < (r + 1) * (r + 1)
theorem sq_lt {x y : Int} (hx : 0 ≤ x) (hy : 0 ≤ y) (h : x * x < y * y) : x < y := by
  refine Int.lt_of_not_ge fun hyx => ?_
  have := Int.mul_le_mul hyx hyx hy hx
  omega
theorem IsRoot.le {m n r s : Int} (h : m ≤ n) (hr : IsRoot m r) (hs : IsRoot n s) : r ≤ s := by
  obtain ⟨r0, r1, _⟩ := hr
  obtain ⟨s0, _, s2⟩ := hs
  have := sq_lt r0 (show 0 ≤ s + 1 by omega) (by omega)
  omega
theorem IsRoot.unique {m r s : Int} (hr : IsRoot m r) (hs : IsRoot m s) : r = s := by
  have h1 := IsRoot.le (Int.le_refl m) hr hs
  have h2 := IsRoot.le (Int.le_refl m) hs hr
  omega
/-! #### Exp -/
def stepsL : List Int := [22, 1200, 8869, 24109, 39750, 51039, 57835, 61565, 63520, 64520, 65026, 65280, 65408, 65472, 65504, 65520, 65528, 65532, 65534, 65535]
/-- step by step, the greatest bit first; so many bits as steps -/
def exGo : List Int → Int → Int → Int
  | [], _, out => out
  | s :: ss, m, out => if m / 2 ^ ss.length % 2 = 1 then exGo ss m (rnd (out * s)) else exGo ss m out
def ex (n : Int) : Int := if n ≤ -1048576 then 0 else exGo stepsL (-n) 65536
theorem rnd_step {out s : Int} (h0 : 0 ≤ out) (hs0 : 0 ≤ s) (hs : s ≤ 65536) : 0 ≤ rnd (out * s) ∧ rnd (out * s) ≤ out := by
  have h1 : 0 ≤ out * s := Int.mul_nonneg h0 hs0
  have h2 : out * s ≤ out * 65536 := Int.mul_le_mul_of_nonneg_left hs h0
  have h3 := rnd_mono h1
  have h4 := rnd_mono h2
  rw [rnd_mul] at h4
  have h5 : rnd 0 = 0 := by decide
  omega
theorem exGo_le : ∀ (ss : List Int) (m out : Int), (∀ s ∈ ss, 0 ≤ s ∧ s ≤ 65536) → 0 ≤ out → 0 ≤ exGo ss m out ∧ exGo ss m out ≤ out
  | [], _, out, _, h0 => ⟨h0, Int.le_refl _⟩
  | s :: ss, m, out, hs, h0 => by
    have h1 := hs s (List.mem_cons_self ..)
    have h2 := rnd_step h0 h1.1 h1.2
    have ht : ∀ s ∈ ss, 0 ≤ s ∧ s ≤ 65536 := fun x hx => hs x (List.mem_cons_of_mem _ hx)
    unfold exGo
    split
    · have := exGo_le ss m _ ht h2.1
      omega
    · exact exGo_le ss m out ht h0
theorem steps_in : ∀ s ∈ stepsL, 0 ≤ s ∧ s ≤ 65536 := by decide
theorem ex_le (n : Int) : 0 ≤ ex n ∧ ex n ≤ 65536 := by
  unfold ex
  split
  · omega
  · exact exGo_le stepsL _ _ steps_in (by omega)
/-- the reference's way: by what is left -/
def exRest : List Int → Int → Int → Int
  | [], _, out => out
  | s :: ss, r, out => if 2 ^ ss.length ≤ r then exRest ss (r - 2 ^ ss.length) (rnd (out * s)) else exRest ss r out
theorem exRest_eq : ∀ (ss : List Int) (m r out : Int), 0 ≤ r → r < 2 ^ ss.length → (∃ k : Int, m = r + k * 2 ^ ss.length) → exRest ss r out = exGo ss m out
  | [], _, _, _, _, _, _ => rfl
  | s :: ss, m, r, out, h0, h1, ⟨k, hk⟩ => by
    have hp : (0 : Int) < 2 ^ ss.length := Int.pow_pos (by omega)
    rw [List.length_cons, Int.pow_succ] at h1 hk
    obtain ⟨P, hP⟩ : ∃ P : Int, 2 ^ ss.length = P := ⟨_, rfl⟩
    rw [hP] at hp h1 hk
    have hk2 : k * (P * 2) = (2 * k) * P := by rw [Int.mul_comm P 2, ← Int.mul_assoc, Int.mul_comm k 2]
    unfold exRest exGo
    rw [hP]
    by_cases h : P ≤ r
    · have hm : m = (r - P) + (2 * k + 1) * P := by rw [Int.add_mul, Int.one_mul]; omega
      have hd : m / P = 2 * k + 1 := by rw [hm, Int.add_mul_ediv_right _ _ (by omega), Int.ediv_eq_zero_of_lt (by omega) (by omega)]; omega
      rw [if_pos h, if_pos (by rw [hd]; omega)]
      exact exRest_eq ss m (r - P) _ (by omega) (by rw [hP]; omega) ⟨2 * k + 1, by rw [hP]; exact hm⟩
    · have hm : m = r + (2 * k) * P := by omega
      have hd : m / P = 2 * k := by rw [hm, Int.add_mul_ediv_right _ _ (by omega), Int.ediv_eq_zero_of_lt (by omega) (by omega)]; omega
      rw [if_neg h, if_neg (by rw [hd]; omega)]
      exact exRest_eq ss m r _ h0 (by rw [hP]; omega) ⟨2 * k, by rw [hP]; exact hm⟩
theorem ex_rest {n : Int} (h0 : n ≤ 0) (h1 : ¬ n ≤ -1048576) : exRest stepsL (-n) 65536 = ex n := by
  unfold ex
  rw [if_neg h1]
  exact exRest_eq stepsL (-n) (-n) 65536 (by omega) (by show -n < 1048576; omega) ⟨0, by omega⟩

/-! #### the reference's ways: quotients as Go divides -/
/-- the greatest whole number no greater than a fraction, by quotient and rest -/
theorem floor_go (n d : Int) (hd : 0 < d) : (if n.tmod d < 0 then n.tdiv d - 1 else n.tdiv d) = n / d := by
  have h1 := Int.ediv_mul_le n (show d ≠ 0 by omega)
  have h2 := Int.lt_ediv_add_one_mul_self n hd
  rw [Int.add_mul, Int.one_mul] at h2
  have h3 := Int.mul_tdiv_add_tmod n d
  have h4 := Int.tmod_lt_of_pos n hd
  rw [Int.mul_comm] at h3
  by_cases hn : 0 ≤ n
  · have h5 := Int.tmod_nonneg d hn
    rw [if_neg (by omega)]
    exact Int.tdiv_eq_ediv_of_nonneg hn
  · have h5 : -d < n.tmod d := by
      have := Int.lt_tmod_of_pos n hd
      omega
    split
    · have a1 : n.tdiv d - 1 ≤ n / d := le_of_mul hd (by rw [Int.sub_mul, Int.one_mul]; omega)
      have a2 : n / d ≤ n.tdiv d - 1 := le_of_mul hd (by rw [Int.sub_mul, Int.one_mul]; omega)
      omega
    · have h6 : n.tmod d ≤ 0 := by
        have := Int.tmod_nonneg (a := -n) d (by omega)
        rw [Int.neg_tmod] at this
        omega
      have a1 : n.tdiv d ≤ n / d := le_of_mul hd (by omega)
      have a2 : n / d ≤ n.tdiv d := le_of_mul hd (by omega)
      omega
end Go.Proofs.YtmolkbmdfkeniaaDoor.Fx
-- from Fq
namespace Go.Proofs.YtmolkbmdfkeniaaDoor.Fq
open Go.ChangeShapes Go.WideShapes Go.ChangeAt Go.RowKit Go.Proofs.YtmolkbmdfkeniaaDoor.Fx
theorem gen_world {Q : World → Prop} (w2 : World) (P : World → Prop) (h : P w2) (k : ∀ w, P w → Q w) : Q w2 := k w2 h
/-! ### what is checked -/
/-- a row of numbers lies there -/
structure Row (w : World) (g n : Nat) (l : List Int) : Prop where
  len : l.length = n
  max : n ≤ 64
  cell : ∀ i, i < n → w.cell? ⟨g, i, none⟩ = some (.int .i64 (l.getD i 0))
set_option maxRecDepth 100000 in
set_option maxHeartbeats 4000000 in
theorem check_ok (w : World) (g n cap : Nat) (l : List Int) (hr : Row w g n l) (h : ∀ i, i < n → isN (l.getD i 0)) :
    Calls Tryd.prog 78 #[.slice (some ⟨g, 0, none⟩) n cap] w fun e w' => e = .returned (.int .i64 0) ∧ w = w' := by
  have HR := Lib.hid hr
  have HH := Lib.hid h
  have hm := hr.max
  clear hr h
  go_enter Tryd.func78, Tryd.ntmps78
  go_wp2
  go_loop [7] (fun i => ∃ k : Nat, k ≤ n ∧ i = .int .i64 k) (fun i => n - (intOf i).toNat)
  case atStart => exact ⟨0, by omega, rfl⟩
  case round =>
    obtain ⟨k, hk, rfl⟩ := hrel
    by_cases hlt : k < n
    · have hdt : decide (k < n) = true := by simp; omega
      have hc := HR.out.cell k hlt
      have hi := HH.out k hlt
      obtain ⟨x, hx⟩ : ∃ x, l.getD k 0 = x := ⟨_, rfl⟩
      rw [hx] at hc hi
      clear hx
      unfold isN at hi
      have d1 : decide (x < -2147483648) = false := by simp; omega
      have d2 : decide (2147483647 < x) = false := by simp; omega
      obtain ⟨hi1, hi2⟩ := hi
      go_wp2
      go_round
      case rel => exact ⟨k + 1, by omega, by go_num⟩
      case measure => simp [intOf]; omega
    · have hdf : decide (k < n) = false := by simp; omega
      go_wp2
      go_ret
      exact ⟨rfl, rfl⟩
set_option maxRecDepth 100000 in
set_option maxHeartbeats 4000000 in
theorem check_no (w : World) (g n cap : Nat) (l : List Int) (hr : Row w g n l) (j : Nat) (hj : j < n) (h : ¬ isN (l.getD j 0)) :
    Calls Tryd.prog 78 #[.slice (some ⟨g, 0, none⟩) n cap] w fun e w' => e = .returned (.int .i64 10) ∧ w = w' := by
  have HR := Lib.hid hr
  have HH := Lib.hid h
  have hm := hr.max
  clear hr h
  go_enter Tryd.func78, Tryd.ntmps78
  go_wp2
  go_loop [7] (fun i => ∃ k : Nat, k ≤ j ∧ i = .int .i64 k) (fun i => n - (intOf i).toNat)
  case atStart => exact ⟨0, by omega, rfl⟩
  case round =>
    obtain ⟨k, hk, rfl⟩ := hrel
    have hlt : k < n := by omega
    have hdt : decide (k < n) = true := by simp; omega
    have hc := HR.out.cell k hlt
    have hne : k = j → ¬ isN (l.getD k 0) := fun e => by rw [e]; exact HH.out
    obtain ⟨x, hx⟩ : ∃ x, l.getD k 0 = x := ⟨_, rfl⟩
    rw [hx] at hc hne
    clear hx
    by_cases h1 : x < -2147483648
    · have d1 : decide (x < -2147483648) = true := by simp; omega
      clear hne
      go_wp2
      go_ret
      exact ⟨rfl, rfl⟩
    · have d1 : decide (x < -2147483648) = false := by simp; omega
      by_cases h2 : 2147483647 < x
      · have d2 : decide (2147483647 < x) = true := by simp; omega
        clear hne
        go_wp2
        go_ret
        exact ⟨rfl, rfl⟩
      · have d2 : decide (2147483647 < x) = false := by simp; omega
        have hkj : k < j := Nat.lt_of_le_of_ne hk (fun e => hne e ⟨by omega, by omega⟩)
        clear hne
        go_wp2
        go_round
        case rel => exact ⟨k + 1, by omega, by go_num⟩
        case measure => simp [intOf]; omega
theorem row1 (w : World) (a : Int) (fr : Nat × Nat) (g : Nat) (h : w.heap[g]? = some (.cells #[.int .i64 a] 3 fr)) : Row w g 1 [a] :=
  ⟨rfl, by omega, fun i hi => by
    obtain rfl : i = 0 := by omega
    rw [cell_of_row _ _ _ _ _ _ h]; rfl⟩
theorem all1 {a : Int} (h : isN a) : ∀ i, i < 1 → isN ([a].getD i 0) := fun i hi => by
  obtain rfl : i = 0 := by omega
  exact h
/-! ### the calls of package fixed -/
set_option maxRecDepth 100000 in
set_option maxHeartbeats 4000000 in
theorem chk_ok (w : World) (n : Int) (h : isN n) : Calls Tryd.prog 69 #[.int .i64 n] w fun e w' => e = .returned (.int .i64 0) ∧ Below w.heap.size w w' := by
  have H := Lib.hid h
  clear h
  go_enter Tryd.func69, Tryd.ntmps69
  go_wp2_with fail
  refine (check_ok _ _ _ _ [n] (row1 _ n (0, 0) _ (heap_alloc_new _ _)) (all1 H.out)).mono ?_
  rintro e w' ⟨rfl, rfl⟩
  go_wp2
  go_ret
  exact ⟨rfl, (Below.refl _ _).alloc (Nat.le_refl _) _⟩
set_option maxRecDepth 100000 in
set_option maxHeartbeats 4000000 in
theorem chk_no (w : World) (n : Int) (h : ¬ isN n) : Calls Tryd.prog 69 #[.int .i64 n] w fun e w' => e = .returned (.int .i64 10) ∧ Below w.heap.size w w' := by
  have H := Lib.hid h
  clear h
  go_enter Tryd.func69, Tryd.ntmps69
  go_wp2_with fail
  refine (check_no _ _ _ _ [n] (row1 _ n (0, 0) _ (heap_alloc_new _ _)) 0 (by omega) H.out).mono ?_
  rintro e w' ⟨rfl, rfl⟩
  go_wp2
  go_ret
  exact ⟨rfl, (Below.refl _ _).alloc (Nat.le_refl _) _⟩
/-! #### quotients -/
def fq (a b : Int) : Int := if b < 0 then -a / -b else a / b
theorem fq_rnd (n : Int) : fq (n + 32768) 65536 = rnd n := rfl
theorem fq_same {a b : Int} (hb : b ≠ 0) (h : a.tmod b = 0 ∨ (a < 0 ↔ b < 0)) : fq a b = a.tdiv b := by
  unfold fq
  by_cases h0 : b < 0
  · rw [if_pos h0, ← floor_go (-a) (-b) (by omega), Int.tmod_neg, Int.neg_tmod, Int.tdiv_neg, Int.neg_tdiv, Int.neg_neg, if_neg]
    rcases h with h | h
    · omega
    · have := Int.tmod_nonneg (a := -a) b (by omega)
      rw [Int.neg_tmod] at this
      omega
  · rw [if_neg h0, ← floor_go a b (by omega), if_neg]
    rcases h with h | h
    · omega
    · have := Int.tmod_nonneg (a := a) b (by omega)
      omega
theorem fq_less {a b : Int} (hb : b ≠ 0) (h : a.tmod b ≠ 0) (h2 : ¬ (a < 0 ↔ b < 0)) : fq a b = a.tdiv b - 1 := by
  unfold fq
  by_cases h0 : b < 0
  · rw [if_pos h0, ← floor_go (-a) (-b) (by omega), Int.tmod_neg, Int.neg_tmod, Int.tdiv_neg, Int.neg_tdiv, Int.neg_neg, if_pos]
    have := Int.tmod_nonneg (a := a) b (by omega)
    omega
  · rw [if_neg h0, ← floor_go a b (by omega), if_pos]
    have := Int.tmod_nonneg (a := -a) b (by omega)
    rw [Int.neg_tmod] at this
    omega
theorem tdiv_in {a b M : Int} (h1 : -M ≤ a) (h2 : a ≤ M) : -M ≤ a.tdiv b ∧ a.tdiv b ≤ M := by
  have h : (a.tdiv b).natAbs = a.natAbs / b.natAbs := Int.natAbs_tdiv a b
  have h3 := Nat.div_le_self a.natAbs b.natAbs
  omega
set_option maxRecDepth 100000 in
set_option maxHeartbeats 4000000 in
theorem floor_any (w : World) (a b : Int) (hb : b ≠ 0) (ha : -4611686018427420672 ≤ a ∧ a ≤ 4611686018427420672) (hbb : isN b) :
    Calls Tryd.prog 96 #[.int .i64 a, .int .i64 b] w fun e w' => e = .returned (.int .i64 (fq a b)) ∧ w = w' := by
  obtain ⟨q1, q2⟩ := tdiv_in (b := b) ha.1 ha.2
  unfold isN at hbb
  obtain ⟨b1, b2⟩ := hbb
  obtain ⟨a1, a2⟩ := ha
  by_cases h0 : a.tmod b = 0
  · rw [fq_same hb (Or.inl h0)]
    go_enter Tryd.func96, Tryd.ntmps96
    go_wp2
    go_ret
    exact ⟨rfl, rfl⟩
  · have dr : (a.tmod b != 0) = true := by simpa using h0
    have dq : (a % b != 0) = true := by
      simp only [bne_iff_ne, ne_eq]
      intro h
      exact h0 (Int.tmod_eq_zero_of_dvd (Int.dvd_of_emod_eq_zero h))
    have HH := Lib.hid h0
    by_cases ha0 : a < 0 <;> by_cases hb0 : b < 0
    · rw [fq_same hb (Or.inr ⟨fun _ => hb0, fun _ => ha0⟩)]
      have d1 : decide (a < 0) = true := by simpa using ha0
      have d2 : decide (b < 0) = true := by simpa using hb0
      clear h0
      go_enter Tryd.func96, Tryd.ntmps96
      go_wp2
      go_ret
      exact ⟨rfl, rfl⟩
    · rw [fq_less hb h0 (fun h => hb0 (h.1 ha0))]
      have d1 : decide (a < 0) = true := by simpa using ha0
      have d2 : decide (b < 0) = false := by simpa using hb0
      clear h0
      go_enter Tryd.func96, Tryd.ntmps96
      go_wp2
      go_ret
      exact ⟨rfl, rfl⟩
    · rw [fq_less hb h0 (fun h => ha0 (h.2 hb0))]
      have d1 : decide (a < 0) = false := by simpa using ha0
      have d2 : decide (b < 0) = true := by simpa using hb0
      clear h0
      go_enter Tryd.func96, Tryd.ntmps96
      go_wp2
      go_ret
      exact ⟨rfl, rfl⟩
    · rw [fq_same hb (Or.inr ⟨fun h => absurd h ha0, fun h => absurd h hb0⟩)]
      have d1 : decide (a < 0) = false := by simpa using ha0
      have d2 : decide (b < 0) = false := by simpa using hb0
      clear h0
      go_enter Tryd.func96, Tryd.ntmps96
      go_wp2
      go_ret
      exact ⟨rfl, rfl⟩
set_option maxRecDepth 100000 in
set_option maxHeartbeats 4000000 in
theorem scaled_any (w : World) (n : Int) (h1 : -4611686018427387904 ≤ n) (h2 : n ≤ 4611686018427387904) :
    Calls Tryd.prog 83 #[.int .i64 n] w fun e w' => e = .returned (.int .i64 (rnd n)) ∧ w = w' := by
  go_enter Tryd.func83, Tryd.ntmps83
  go_wp2_with fail
  refine (floor_any _ (n + 32768) 65536 (by omega) (by omega) (by unfold isN; omega)).mono ?_
  rintro e w' ⟨rfl, rfl⟩
  rw [fq_rnd]
  go_wp2
  go_ret
  exact ⟨rfl, rfl⟩

/-! #### answers: a number and what is wrong -/
def res (v : Int) : Int := if isN v then v else 0
def err (v : Int) : Int := if isN v then 0 else 17
/-! #### Exp -/
/-- the table of steps, as a value -/
def rowI (l : List Int) : Array Value := (l.map (Value.int .i64)).toArray
theorem rowI_get (l : List Int) (i : Nat) (h : i < l.length) : (rowI l)[i]? = some (.int .i64 (l.getD i 0)) := by
  unfold rowI
  simp [h]
structure Env (w : World) : Prop where
  steps : ∃ (t : TypeId) (fr : Nat × Nat), w.heap[2]? = some (.cells (rowI stepsL) t fr)
theorem Env.below {w w' : World} (h : Env w) (hb : Below w.heap.size w w') : Env w' := by
  obtain ⟨t, fr, h0⟩ := h.steps
  exact ⟨⟨t, fr, (hb.block _ (Array.getElem?_eq_some_iff.1 h0).1).trans h0⟩⟩
theorem exRest_zero : ∀ (ss : List Int) (out : Int), exRest ss 0 out = out
  | [], _ => rfl
  | s :: ss, out => by
    have hp : (0 : Int) < 2 ^ ss.length := Int.pow_pos (by omega)
    unfold exRest
    rw [if_neg (by omega)]
    exact exRest_zero ss out
theorem size_steps : (Tryd.prog.info? 122).map (·.size) = some (rowI stepsL).size := by kernel_rfl
theorem drop_cons {l : List Int} {k : Nat} (h : k < l.length) : l.drop k = l.getD k 0 :: l.drop (k + 1) := by
  rw [List.drop_eq_getElem_cons h]
  simp [h]
theorem run_index_row {P : Program} (t e : TypeId) (n : Nat) (k : IntKind) (ht : P.underlying t = some (.array n e)) (he : P.underlying e = some (.int k)) (hs : (P.info? e).map (·.size) = some 1)
    (cs : Array Value) (i : Nat) (hi : i < n) (v : Value) (hv : cs[i]? = some v) (w : World) : (Instr.index t (.agg cs) (.int .i64 (i : Int))).run P w = .ok v w := by
  cases hq : P.info? e with
  | none => simp [hq] at hs
  | some j =>
    have hj : j.size = 1 := by simpa [hq] using hs
    simp [Instr.index, asIntOf, run_underlying ht, part, isAgg, run_underlying he, sizeOf, typeInfo, hq, hj, hi, hv]
theorem size3 : (Tryd.prog.info? 3).map (·.size) = some 1 := by kernel_rfl
theorem steps_at (k : Nat) (h : k < 20) (w : World) : (Instr.index 122 (.agg (rowI stepsL)) (.int .i64 (k : Int))).run Tryd.prog w = .ok (.int .i64 (stepsL.getD k 0)) w :=
  run_index_row 122 3 20 .i64 Tryd.underlying122 Tryd.underlying3 size3 (rowI stepsL) k h _ (rowI_get stepsL k h) w
set_option maxRecDepth 100000 in
set_option maxHeartbeats 4000000 in
theorem power_any (w : World) (n : Int) (he : Env w) (hn : n ≤ 0) (hn1 : -9223372036854775808 ≤ n) :
    Calls Tryd.prog 73 #[.int .i64 n] w fun e w' => e = .returned (.int .i64 (ex n)) ∧ w = w' := by
  by_cases h : n ≤ -1048576
  · have hx : ex n = 0 := by unfold ex; rw [if_pos h]
    rw [hx]
    clear hx
    have d : decide (n ≤ -1048576) = true := by simpa using h
    go_enter Tryd.func73, Tryd.ntmps73
    go_wp2
    go_step3
    go_wp2
    rw [Exit.noGoto_ret]
    go_ret
    exact ⟨rfl, rfl⟩
  · have HX := Lib.hid (ex_rest hn h)
    have d : decide (n ≤ -1048576) = false := by simpa using h
    obtain ⟨t, fr, h0⟩ := he.steps
    have H0 := Lib.hid h0
    clear h0 he
    obtain ⟨E, hE⟩ : ∃ E, ex n = E := ⟨_, rfl⟩
    rw [hE] at HX ⊢
    clear hE
    go_enter Tryd.func73, Tryd.ntmps73
    go_wp2
    go_step3
    go_wp2
    go_step3
    go_wp2_with (refine wpList_load_row rfl 122 (.global 2) rfl 2 rfl t (rowI stepsL) fr _ H0.out Tryd.underlying122 rfl size_steps ?_)
    go_loop [3, 4, 13] (fun p r i => ∃ (k : Nat) (x y : Int), k ≤ 20 ∧ i = .int .i64 k ∧ p = .int .i64 x ∧ r = .int .i64 y ∧ 0 ≤ x ∧ x ≤ 65536 ∧ 0 ≤ y ∧ y < 2 ^ (20 - k) ∧ exRest (stepsL.drop k) y x = E) (fun _ _ i => 20 - (intOf i).toNat)
    case atStart => exact ⟨0, 65536, -n, by omega, rfl, rfl, rfl, by omega, by omega, by omega, by show -n < 1048576; omega, HX.out⟩
    case round =>
      obtain ⟨k, x, y, hk, rfl, rfl, rfl, x0, x1, y0, hy, hE⟩ := hrel
      have HY := Lib.hid hy
      have HE := Lib.hid hE
      clear hy hE
      by_cases hlt : k < 20
      · have hdt : decide ((k : Int) < 20) = true := by simp; omega
        have hix := steps_at k hlt w
        have hs := steps_in (stepsL.getD k 0) (by
          rw [List.getD_eq_getElem?_getD, List.getElem?_eq_getElem (show k < stepsL.length from hlt)]
          exact List.getElem_mem _)
        have HD := Lib.hid (drop_cons (l := stepsL) hlt)
        obtain ⟨s, hs0⟩ : ∃ s, stepsL.getD k 0 = s := ⟨_, rfl⟩
        rw [hs0] at hix hs HD
        obtain ⟨s0, s1⟩ := hs
        have HB0 : Hid (2 ^ (stepsL.drop (k + 1)).length = (2 : Int) ^ (19 - k)) := by
          rw [Hid, List.length_drop, show stepsL.length = 20 from rfl, show 20 - (k + 1) = 19 - k by omega]
        have HB1 : Hid ((2 : Int) ^ (20 - k) = (2 : Int) ^ (19 - k) * 2) := by
          rw [Hid, show 20 - k = (19 - k) + 1 by omega, Int.pow_succ]
        have b0 : 1 ≤ (2 : Int) ^ (19 - k) := Int.pow_pos (by omega)
        have b1 : (2 : Int) ^ (19 - k) ≤ 524288 := by
          have h1 := Nat.pow_le_pow_right (show 0 < 2 by omega) (show 19 - k ≤ 19 by omega)
          have h2 : (((2 ^ (19 - k) : Nat)) : Int) = (2 : Int) ^ (19 - k) := by simp
          omega
        obtain ⟨b, hb⟩ : ∃ b, (2 : Int) ^ (19 - k) = b := ⟨_, rfl⟩
        rw [hb] at HB0 HB1 b0 b1
        have m0 : 0 ≤ x * s := Int.mul_nonneg x0 s0
        have m1 : x * s ≤ 65536 * 65536 := Int.mul_le_mul x1 s1 s0 (by omega)
        obtain ⟨t0, t1⟩ := rnd_step x0 s0 s1
        clear hs0
        by_cases hy0 : y = 0
        · subst hy0
          have HE2 : Hid (x = E) := Lib.hid (by rw [← HE.out, exRest_zero])
          go_wp2
          go_ret
          exact ⟨by rw [← HE2.out]; rfl, rfl⟩
        · have dy : (y == 0) = false := by simpa using hy0
          by_cases hyb : y < b
          · have dyb : decide (y < b) = true := by simpa using hyb
            have HE2 : Hid (exRest (stepsL.drop (k + 1)) y x = E) := by
              have h1 := HE.out
              rw [HD.out, exRest, HB0.out, if_neg (by omega)] at h1
              exact h1
            have HY2 : Hid (y < 2 ^ (20 - (k + 1))) := Lib.hid (by rw [show 20 - (k + 1) = 19 - k by omega, hb]; exact hyb)
            go_wp2
            go_round
            case rel => exact ⟨k + 1, x, y, by omega, by go_num, rfl, rfl, x0, x1, y0, HY2.out, HE2.out⟩
            case measure => simp [intOf]; omega
          · have dyb : decide (y < b) = false := by simpa using hyb
            have HE2 : Hid (exRest (stepsL.drop (k + 1)) (y - b) (rnd (x * s)) = E) := by
              have h1 := HE.out
              rw [HD.out, exRest, HB0.out, if_pos (by omega)] at h1
              exact h1
            have hy2 : y < b * 2 := by have := HY.out; rw [HB1.out] at this; exact this
            have HY2 : Hid (y - b < 2 ^ (20 - (k + 1))) := Lib.hid (by rw [show 20 - (k + 1) = 19 - k by omega, hb]; omega)
            go_wp2_with fail
            refine (scaled_any _ (x * s) (by omega) (by omega)).mono ?_
            rintro e w' ⟨rfl, rfl⟩
            obtain ⟨z, hz⟩ : ∃ z, rnd (x * s) = z := ⟨_, rfl⟩
            rw [hz] at t0 t1 HE2 ⊢
            clear hz
            go_wp2
            go_round
            case rel => exact ⟨k + 1, z, y - b, by omega, by go_num, rfl, rfl, t0, by omega, by omega, HY2.out, HE2.out⟩
            case measure => simp [intOf]; omega
      · obtain rfl : k = 20 := by omega
        have HE2 : Hid (x = E) := Lib.hid (by rw [← HE.out]; rfl)
        have hdf : decide (((20 : Nat) : Int) < 20) = false := by decide
        go_wp2
        go_ret
        exact ⟨by rw [← HE2.out]; rfl, rfl⟩

def expR (n : Int) : Int := if 0 < n then 0 else ex n
def expE (n : Int) : Int := if 0 < n then 10 else 0
set_option maxRecDepth 100000 in
set_option maxHeartbeats 4000000 in
theorem exp_any (w : World) (n : Int) (he : Env w) (hn1 : -9223372036854775808 ≤ n) :
    Calls Tryd.prog 64 #[.int .i64 n] w fun e w' => e = .returned (.tuple #[.int .i64 (expR n), .int .i64 (expE n)]) ∧ w = w' := by
  unfold expR expE
  by_cases h : 0 < n
  · rw [if_pos h, if_pos h]
    have d : decide (0 < n) = true := by simpa using h
    go_enter Tryd.func64, Tryd.ntmps64
    go_wp2
    go_ret2
    exact ⟨rfl, rfl⟩
  · rw [if_neg h, if_neg h]
    have d : decide (0 < n) = false := by simpa using h
    go_enter Tryd.func64, Tryd.ntmps64
    go_wp2_with fail
    refine (power_any w n he (by omega) hn1).mono ?_
    rintro e w' ⟨rfl, rfl⟩
    obtain ⟨E, hE⟩ : ∃ E, ex n = E := ⟨_, rfl⟩
    rw [hE]
    have HE := Lib.hid hE
    clear hE
    go_wp2
    go_ret2
    exact ⟨by rw [HE.out]; rfl, rfl⟩
end Go.Proofs.YtmolkbmdfkeniaaDoor.Fq
-- from Hb
namespace Go.Proofs.YtmolkbmdfkeniaaDoor.Rf
open Go.ChangeShapes Go.WideShapes Go.ChangeAt Go.RowKit Go.Proofs.YtmolkbmdfkeniaaDoor.Fx
theorem gen_world {Q : World → Prop} (w2 : World) (P : World → Prop) (h : P w2) (k : ∀ w, P w → Q w) : Q w2 := k w2 h
theorem tdiv_in {a b M : Int} (h1 : -M ≤ a) (h2 : a ≤ M) : -M ≤ a.tdiv b ∧ a.tdiv b ≤ M := by
  have h : (a.tdiv b).natAbs = a.natAbs / b.natAbs := Int.natAbs_tdiv a b
  have h3 := Nat.div_le_self a.natAbs b.natAbs
  omega
/-- the table of steps, as a value -/
def rowI (l : List Int) : Array Value := (l.map (Value.int .i64)).toArray
theorem rowI_get (l : List Int) (i : Nat) (h : i < l.length) : (rowI l)[i]? = some (.int .i64 (l.getD i 0)) := by
  unfold rowI
  simp [h]
theorem drop_cons {l : List Int} {k : Nat} (h : k < l.length) : l.drop k = l.getD k 0 :: l.drop (k + 1) := by
  rw [List.drop_eq_getElem_cons h]
  simp [h]
/-- is it a number -/
def isB (n : Int) : Bool := decide (isN n)
theorem isB_yes {n : Int} (h : isN n) : isB n = true := by unfold isB; simpa using h
theorem isB_no {n : Int} (h : ¬ isN n) : isB n = false := by unfold isB; simpa using h
set_option maxRecDepth 100000 in
set_option maxHeartbeats 4000000 in
theorem is_any (w : World) (n : Int) : Calls Tryd.prog 49 #[.int .i64 n] w fun e w' => e = .returned (.bool (isB n)) ∧ w = w' := by
  by_cases h1 : -2147483648 ≤ n
  · by_cases h2 : n ≤ 2147483647
    · rw [isB_yes ⟨h1, h2⟩]
      have d1 : decide (-2147483648 ≤ n) = true := by simpa using h1
      have d2 : decide (n ≤ 2147483647) = true := by simpa using h2
      go_enter Tryd.func49, Tryd.ntmps49
      go_wp2
      go_ret
      exact ⟨rfl, rfl⟩
    · rw [isB_no (fun h => h2 h.2)]
      have d1 : decide (-2147483648 ≤ n) = true := by simpa using h1
      have d2 : decide (n ≤ 2147483647) = false := by simpa using h2
      go_enter Tryd.func49, Tryd.ntmps49
      go_wp2
      go_ret
      exact ⟨rfl, rfl⟩
  · rw [isB_no (fun h => h1 h.1)]
    have d1 : decide (-2147483648 ≤ n) = false := by simpa using h1
    go_enter Tryd.func49, Tryd.ntmps49
    go_wp2
    go_ret
    exact ⟨rfl, rfl⟩
set_option maxRecDepth 100000 in
set_option maxHeartbeats 4000000 in
theorem rfloor_any (w : World) (a d : Int) (hd : 0 < d) (hd2 : d ≤ 2147483648) (ha : -4611686018427420672 ≤ a ∧ a ≤ 4611686018427420672) :
    Calls Tryd.prog 74 #[.int .i64 a, .int .i64 d] w fun e w' => e = .returned (.int .i64 (a / d)) ∧ w = w' := by
  obtain ⟨q1, q2⟩ := tdiv_in (b := d) ha.1 ha.2
  have h := floor_go a d hd
  obtain ⟨a1, a2⟩ := ha
  have dz : (d == 0) = false := by simp; omega
  by_cases h0 : a.tmod d < 0
  · rw [if_pos h0] at h
    rw [← h]
    have dr : decide (a.tmod d < 0) = true := by simpa using h0
    clear h h0
    go_enter Tryd.func74, Tryd.ntmps74
    go_wp2
    go_ret
    exact ⟨rfl, rfl⟩
  · rw [if_neg h0] at h
    rw [← h]
    have dr : decide (a.tmod d < 0) = false := by simpa using h0
    have dq : decide (a % d < 0) = false := by
      have := Int.emod_nonneg a (show d ≠ 0 by omega)
      simp; omega
    clear h h0
    by_cases ha0 : 0 ≤ a
    · go_enter Tryd.func74, Tryd.ntmps74
      go_wp2
      go_ret
      exact ⟨rfl, rfl⟩
    · have ha1 : a < 0 := by omega
      go_enter Tryd.func74, Tryd.ntmps74
      go_wp2
      go_ret
      exact ⟨rfl, rfl⟩
set_option maxRecDepth 100000 in
set_option maxHeartbeats 4000000 in
theorem round_any (w : World) (n : Int) (h1 : -4611686018427387904 ≤ n) (h2 : n ≤ 4611686018427387904) :
    Calls Tryd.prog 65 #[.int .i64 n] w fun e w' => e = .returned (.int .i64 (rnd n)) ∧ w = w' := by
  go_enter Tryd.func65, Tryd.ntmps65
  go_wp2_with fail
  refine (rfloor_any _ (n + 32768) 65536 (by omega) (by omega) (by omega)).mono ?_
  rintro e w' ⟨rfl, rfl⟩
  rw [show (n + 32768) / 65536 = rnd n from rfl]
  go_wp2
  go_ret
  exact ⟨rfl, rfl⟩
/-- the steps lie there -/
structure Stp (w : World) (W : World) : Prop where
  below : Below w.heap.size w W
  cell : ∀ k, k < 20 → W.cell? ⟨w.heap.size, k, none⟩ = some (.int .i64 (stepsL.getD k 0))
theorem Stp.made (w : World) (X : Array Value) (hX : X = rowI stepsL) : Stp w (w.alloc (.cells X 3)) := by
  subst hX
  exact ⟨(Below.refl _ _).alloc (Nat.le_refl _) _, fun k hk => by rw [cell_of_row _ _ _ _ _ _ (heap_alloc_new _ _)]; exact rowI_get stepsL k hk⟩
set_option maxRecDepth 100000 in
set_option maxHeartbeats 4000000 in
theorem rexp_any (w : World) (n : Int) (hn : n ≤ 0) (hn1 : -9223372036854775808 ≤ n) :
    Calls Tryd.prog 50 #[.int .i64 n] w fun e w' => e = .returned (.int .i64 (ex n)) ∧ Below w.heap.size w w' := by
  by_cases h : n ≤ -1048576
  · have hx : ex n = 0 := by unfold ex; rw [if_pos h]
    rw [hx]
    clear hx
    have d : decide (n ≤ -1048576) = true := by simpa using h
    go_enter Tryd.func50, Tryd.ntmps50
    go_wp2
    go_ret
    exact ⟨rfl, Below.refl _ _⟩
  · have HX := Lib.hid (ex_rest hn h)
    have d : decide (n ≤ -1048576) = false := by simpa using h
    obtain ⟨E, hE⟩ : ∃ E, ex n = E := ⟨_, rfl⟩
    rw [hE] at HX ⊢
    clear hE
    go_enter Tryd.func50, Tryd.ntmps50
    go_upto_region 4 with fail
    refine gen_world (Q := fun w => Code.wp _ _ _ _ w) _ (Stp w) (Stp.made w _ (by kernel_rfl)) ?_
    intro W hW
    have HW := Lib.hid hW
    clear hW
    go_wp2
    go_loop [4, 5, 6, 7] (fun p r b i => ∃ (k : Nat) (x y z : Int), k ≤ 20 ∧ i = .int .i64 k ∧ p = .int .i64 x ∧ r = .int .i64 y ∧ b = .int .i64 z ∧ 0 ≤ x ∧ x ≤ 65536 ∧ 0 ≤ y ∧ y < 2 ^ (20 - k) ∧ z = 2 ^ (20 - k) / 2 ∧ exRest (stepsL.drop k) y x = E) (fun _ _ _ i => 20 - (intOf i).toNat)
    case atStart => exact ⟨0, 65536, -n, 524288, by omega, rfl, rfl, rfl, rfl, by omega, by omega, by omega, by show -n < 1048576; omega, by decide, HX.out⟩
    case round =>
      obtain ⟨k, x, y, z, hk, rfl, rfl, rfl, rfl, x0, x1, y0, hy, hz, hE⟩ := hrel
      have HY := Lib.hid hy
      have HE := Lib.hid hE
      have HZ := Lib.hid hz
      clear hy hE hz
      by_cases hlt : k < 20
      · have hdt : decide ((k : Int) < 20) = true := by simp; omega
        have hc := HW.out.cell k hlt
        have hs := steps_in (stepsL.getD k 0) (by
          rw [List.getD_eq_getElem?_getD, List.getElem?_eq_getElem (show k < stepsL.length from hlt)]
          exact List.getElem_mem _)
        have HD := Lib.hid (drop_cons (l := stepsL) hlt)
        obtain ⟨s, hs0⟩ : ∃ s, stepsL.getD k 0 = s := ⟨_, rfl⟩
        rw [hs0] at hc hs HD
        obtain ⟨s0, s1⟩ := hs
        have HB0 : Hid (2 ^ (stepsL.drop (k + 1)).length = (2 : Int) ^ (19 - k)) := by
          rw [Hid, List.length_drop, show stepsL.length = 20 from rfl, show 20 - (k + 1) = 19 - k by omega]
        have HB1 : Hid ((2 : Int) ^ (20 - k) = (2 : Int) ^ (19 - k) * 2) := by
          rw [Hid, show 20 - k = (19 - k) + 1 by omega, Int.pow_succ]
        have b0 : 1 ≤ (2 : Int) ^ (19 - k) := Int.pow_pos (by omega)
        have b1 : (2 : Int) ^ (19 - k) ≤ 524288 := by
          have h1 := Nat.pow_le_pow_right (show 0 < 2 by omega) (show 19 - k ≤ 19 by omega)
          have h2 : (((2 ^ (19 - k) : Nat)) : Int) = (2 : Int) ^ (19 - k) := by simp
          omega
        obtain ⟨b, hb⟩ : ∃ b, (2 : Int) ^ (19 - k) = b := ⟨_, rfl⟩
        rw [hb] at HB0 HB1 b0 b1
        obtain rfl : z = b := by have := HZ.out; rw [HB1.out] at this; omega
        have HZ2 : Hid (z / 2 = 2 ^ (20 - (k + 1)) / 2) := Lib.hid (by rw [show 20 - (k + 1) = 19 - k by omega, hb])
        have m0 : 0 ≤ x * s := Int.mul_nonneg x0 s0
        have m1 : x * s ≤ 65536 * 65536 := Int.mul_le_mul x1 s1 s0 (by omega)
        obtain ⟨t0, t1⟩ := rnd_step x0 s0 s1
        have HP := Lib.hid hb
        clear hs0 hb
        by_cases hyb : z ≤ y
        · have dyb : decide (z ≤ y) = true := by simpa using hyb
          have HE2 : Hid (exRest (stepsL.drop (k + 1)) (y - z) (rnd (x * s)) = E) := by
            have h1 := HE.out
            rw [HD.out, exRest, HB0.out, if_pos hyb] at h1
            exact h1
          have hy2 : y < z * 2 := by have := HY.out; rw [HB1.out] at this; exact this
          have HY2 : Hid (y - z < 2 ^ (20 - (k + 1))) := Lib.hid (by rw [show 20 - (k + 1) = 19 - k by omega, HP.out]; omega)
          go_wp2_with fail
          refine (round_any _ (x * s) (by omega) (by omega)).mono ?_
          rintro e w' ⟨rfl, rfl⟩
          obtain ⟨v, hv⟩ : ∃ v, rnd (x * s) = v := ⟨_, rfl⟩
          rw [hv] at t0 t1 HE2 ⊢
          clear hv
          go_wp2
          go_round
          case rel => exact ⟨k + 1, v, y - z, z / 2, by omega, by go_num, rfl, rfl, rfl, t0, by omega, by omega, HY2.out, HZ2.out, HE2.out⟩
          case measure => simp [intOf]; omega
        · have dyb : decide (z ≤ y) = false := by simpa using hyb
          have HE2 : Hid (exRest (stepsL.drop (k + 1)) y x = E) := by
            have h1 := HE.out
            rw [HD.out, exRest, HB0.out, if_neg hyb] at h1
            exact h1
          have HY2 : Hid (y < 2 ^ (20 - (k + 1))) := Lib.hid (by rw [show 20 - (k + 1) = 19 - k by omega, HP.out]; omega)
          go_wp2
          go_round
          case rel => exact ⟨k + 1, x, y, z / 2, by omega, by go_num, rfl, rfl, rfl, x0, x1, y0, HY2.out, HZ2.out, HE2.out⟩
          case measure => simp [intOf]; omega
      · obtain rfl : k = 20 := by omega
        have HE2 : Hid (x = E) := Lib.hid (by rw [← HE.out]; rfl)
        have hdf : decide (((20 : Nat) : Int) < 20) = false := by decide
        go_wp2
        go_ret
        exact ⟨by rw [← HE2.out]; rfl, HW.out.below⟩
end Go.Proofs.YtmolkbmdfkeniaaDoor.Rf
-- from E0
namespace Go.Proofs.YtmolkbmdfkeniaaDoor.Tn
open Go.ChangeShapes Go.WideShapes Go.ChangeAt Go.RowKit Go.Proofs.YtmolkbmdfkeniaaDoor.Fx Go.Proofs.YtmolkbmdfkeniaaDoor.Rf
/-- what the table of steps holds -/
structure E0 (w : World) : Prop where
  steps : Fq.Env w
theorem E0.below {w w' : World} (h : E0 w) (hb : Below w.heap.size w w') : E0 w' := ⟨h.steps.below hb⟩
end Go.Proofs.YtmolkbmdfkeniaaDoor.Tn
