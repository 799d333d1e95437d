import Derived.WalkKit
import Derived.ProofKit
import Derived.OpenShut
import Derived.WalkLawsBesides
import Derived.Lib.Hide
import Derived.Test.YtchjijifmjbgoaaDoorChecked
import Derived.StillTailTactics
import Derived.BigRegion
import Derived.BigQuiet
import Derived.Deep.QuietTactic
import Derived.Deep.DeepCutAuto
import Derived.Deep.RegionWith
import Derived.IntWalk
import Derived.Test.YtchjijifmjbgoaaDoorFa
namespace Go.Proofs.YtchjijifmjbgoaaDoor.Rf
open Go.ChangeShapes Go.WideShapes Go.ChangeAt Go.RowKit Go.Proofs.YtchjijifmjbgoaaDoor.Fx

theorem gen_world {Q : World → Prop} (w2 : World) (P : World → Prop) (h : P w2) (k : ∀ w, P w → Q w) : Q w2 := k w2 h
theorem below_drew {B : Nat} {a w : World} (h : Below B a w) (n : Nat) : Below B a (w.drewN n) := h.trans ⟨rfl, rfl, rfl, Nat.le_refl _, fun _ _ => rfl⟩
theorem tdiv_in {a b M : Int} (h1 : -M ≤ a) (h2 : a ≤ M) : -M ≤ a.tdiv b ∧ a.tdiv b ≤ M := by
  have h : (a.tdiv b).natAbs = a.natAbs / b.natAbs := Int.natAbs_tdiv a b
  have h3 := Nat.div_le_self a.natAbs b.natAbs
  omega
/-- the table of steps, as a value -/
def rowI (l : List Int) : Array Value := (l.map (Value.int .i64)).toArray
theorem rowI_get (l : List Int) (i : Nat) (h : i < l.length) : (rowI l)[i]? = some (.int .i64 (l.getD i 0)) := by
  unfold rowI
  simp [h]
theorem drop_cons {l : List Int} {k : Nat} (h : k < l.length) : l.drop k = l.getD k 0 :: l.drop (k + 1) := by
  rw [List.drop_eq_getElem_cons h]
  simp [h]
/-- is it a number -/
def isB (n : Int) : Bool := decide (isN n)
theorem isB_yes {n : Int} (h : isN n) : isB n = true := by unfold isB; simpa using h
theorem isB_no {n : Int} (h : ¬ isN n) : isB n = false := by unfold isB; simpa using h
set_option maxRecDepth 100000 in
set_option maxHeartbeats 4000000 in
theorem is_any (w : World) (n : Int) : Calls Tryd.prog 39 #[.int .i64 n] w fun e w' => e = .returned (.bool (isB n)) ∧ w = w' := by
  by_cases h1 : -2147483648 ≤ n
  · by_cases h2 : n ≤ 2147483647
    · rw [isB_yes ⟨h1, h2⟩]
      have d1 : decide (-2147483648 ≤ n) = true := by simpa using h1
      have d2 : decide (n ≤ 2147483647) = true := by simpa using h2
      go_enter Tryd.func39, Tryd.ntmps39
      go_wp2
      go_ret
      exact ⟨rfl, rfl⟩
    · rw [isB_no (fun h => h2 h.2)]
      have d1 : decide (-2147483648 ≤ n) = true := by simpa using h1
      have d2 : decide (n ≤ 2147483647) = false := by simpa using h2
      go_enter Tryd.func39, Tryd.ntmps39
      go_wp2
      go_ret
      exact ⟨rfl, rfl⟩
  · rw [isB_no (fun h => h1 h.1)]
    have d1 : decide (-2147483648 ≤ n) = false := by simpa using h1
    go_enter Tryd.func39, Tryd.ntmps39
    go_wp2
    go_ret
    exact ⟨rfl, rfl⟩
set_option maxRecDepth 100000 in
set_option maxHeartbeats 4000000 in
theorem rfloor_any (w : World) (a d : Int) (hd : 0 < d) (hd2 : d ≤ 2147483648) (ha : -4611686018427420672 ≤ a ∧ a ≤ 4611686018427420672) :
    Calls Tryd.prog 70 #[.int .i64 a, .int .i64 d] w fun e w' => e = .returned (.int .i64 (a / d)) ∧ w = w' := by
  obtain ⟨q1, q2⟩ := tdiv_in (b := d) ha.1 ha.2
  have h := floor_go a d hd
  obtain ⟨a1, a2⟩ := ha
  have dz : (d == 0) = false := by simp; omega
  by_cases h0 : a.tmod d < 0
  · rw [if_pos h0] at h
    rw [← h]
    have dr : decide (a.tmod d < 0) = true := by simpa using h0
    clear h h0
    go_enter Tryd.func70, Tryd.ntmps70
    go_wp2
    go_ret
    exact ⟨rfl, rfl⟩
  · rw [if_neg h0] at h
    rw [← h]
    have dr : decide (a.tmod d < 0) = false := by simpa using h0
    have dq : decide (a % d < 0) = false := by
      have := Int.emod_nonneg a (show d ≠ 0 by omega)
      simp; omega
    clear h h0
    by_cases ha0 : 0 ≤ a
    · go_enter Tryd.func70, Tryd.ntmps70
      go_wp2
      go_ret
      exact ⟨rfl, rfl⟩
    · have ha1 : a < 0 := by omega
      go_enter Tryd.func70, Tryd.ntmps70
      go_wp2
      go_ret
      exact ⟨rfl, rfl⟩
set_option maxRecDepth 100000 in
set_option maxHeartbeats 4000000 in
theorem round_any (w : World) (n : Int) (h1 : -4611686018427387904 ≤ n) (h2 : n ≤ 4611686018427387904) :
    Calls Tryd.prog 43 #[.int .i64 n] w fun e w' => e = .returned (.int .i64 (rnd n)) ∧ w = w' := by
  go_enter Tryd.func43, Tryd.ntmps43
  go_wp2_with fail
  refine (rfloor_any _ (n + 32768) 65536 (by omega) (by omega) (by omega)).mono ?_
  rintro e w' ⟨rfl, rfl⟩
  rw [show (n + 32768) / 65536 = rnd n from rfl]
  go_wp2
  go_ret
  exact ⟨rfl, rfl⟩
/-- the steps lie there -/
structure Stp (w : World) (W : World) : Prop where
  below : Below w.heap.size w W
  cell : ∀ k, k < 20 → W.cell? ⟨w.heap.size, k, none⟩ = some (.int .i64 (stepsL.getD k 0))
theorem Stp.made (w : World) (X : Array Value) (hX : X = rowI stepsL) : Stp w (w.alloc (.cells X 3)) := by
  subst hX
  exact ⟨(Below.refl _ _).alloc (Nat.le_refl _) _, fun k hk => by rw [cell_of_row _ _ _ _ _ _ (heap_alloc_new _ _)]; exact rowI_get stepsL k hk⟩
set_option maxRecDepth 100000 in
set_option maxHeartbeats 4000000 in
theorem rexp_any (w : World) (n : Int) (hn : n ≤ 0) (hn1 : -9223372036854775808 ≤ n) :
    Calls Tryd.prog 52 #[.int .i64 n] w fun e w' => e = .returned (.int .i64 (ex n)) ∧ Below w.heap.size w w' := by
  by_cases h : n ≤ -1048576
  · have hx : ex n = 0 := by unfold ex; rw [if_pos h]
    rw [hx]
    clear hx
    have d : decide (n ≤ -1048576) = true := by simpa using h
    go_enter Tryd.func52, Tryd.ntmps52
    go_wp2
    go_ret
    exact ⟨rfl, Below.refl _ _⟩
  · have HX := Lib.hid (ex_rest hn h)
    have d : decide (n ≤ -1048576) = false := by simpa using h
    obtain ⟨E, hE⟩ : ∃ E, ex n = E := ⟨_, rfl⟩
    rw [hE] at HX ⊢
    clear hE
    go_enter Tryd.func52, Tryd.ntmps52
    go_upto_region 4 with fail
    refine gen_world (Q := fun w => Code.wp _ _ _ _ w) _ (Stp w) (Stp.made w _ (by kernel_rfl)) ?_
    intro W hW
    have HW := Lib.hid hW
    clear hW
    go_wp2
    go_loop [4, 5, 6, 7] (fun p r b i => ∃ (k : Nat) (x y z : Int), k ≤ 20 ∧ i = .int .i64 k ∧ p = .int .i64 x ∧ r = .int .i64 y ∧ b = .int .i64 z ∧ 0 ≤ x ∧ x ≤ 65536 ∧ 0 ≤ y ∧ y < 2 ^ (20 - k) ∧ z = 2 ^ (20 - k) / 2 ∧ exRest (stepsL.drop k) y x = E) (fun _ _ _ i => 20 - (intOf i).toNat)
    case atStart => exact ⟨0, 65536, -n, 524288, by omega, rfl, rfl, rfl, rfl, by omega, by omega, by omega, by show -n < 1048576; omega, by decide, HX.out⟩
    case round =>
      obtain ⟨k, x, y, z, hk, rfl, rfl, rfl, rfl, x0, x1, y0, hy, hz, hE⟩ := hrel
      have HY := Lib.hid hy
      have HE := Lib.hid hE
      have HZ := Lib.hid hz
      clear hy hE hz
      by_cases hlt : k < 20
      · have hdt : decide ((k : Int) < 20) = true := by simp; omega
        have hc := HW.out.cell k hlt
        have hs := steps_in (stepsL.getD k 0) (by
          rw [List.getD_eq_getElem?_getD, List.getElem?_eq_getElem (show k < stepsL.length from hlt)]
          exact List.getElem_mem _)
        have HD := Lib.hid (drop_cons (l := stepsL) hlt)
        obtain ⟨s, hs0⟩ : ∃ s, stepsL.getD k 0 = s := ⟨_, rfl⟩
        rw [hs0] at hc hs HD
        obtain ⟨s0, s1⟩ := hs
        have HB0 : Hid (2 ^ (stepsL.drop (k + 1)).length = (2 : Int) ^ (19 - k)) := by
          rw [Hid, List.length_drop, show stepsL.length = 20 from rfl, show 20 - (k + 1) = 19 - k by omega]
        have HB1 : Hid ((2 : Int) ^ (20 - k) = (2 : Int) ^ (19 - k) * 2) := by
          rw [Hid, show 20 - k = (19 - k) + 1 by omega, Int.pow_succ]
        have b0 : 1 ≤ (2 : Int) ^ (19 - k) := Int.pow_pos (by omega)
        have b1 : (2 : Int) ^ (19 - k) ≤ 524288 := by
          have h1 := Nat.pow_le_pow_right (show 0 < 2 by omega) (show 19 - k ≤ 19 by omega)
          have h2 : (((2 ^ (19 - k) : Nat)) : Int) = (2 : Int) ^ (19 - k) := by simp
          omega
        obtain ⟨b, hb⟩ : ∃ b, (2 : Int) ^ (19 - k) = b := ⟨_, rfl⟩
        rw [hb] at HB0 HB1 b0 b1
        obtain rfl : z = b := by have := HZ.out; rw [HB1.out] at this; omega
        have HZ2 : Hid (z / 2 = 2 ^ (20 - (k + 1)) / 2) := Lib.hid (by rw [show 20 - (k + 1) = 19 - k by omega, hb])
        have m0 : 0 ≤ x * s := Int.mul_nonneg x0 s0
        have m1 : x * s ≤ 65536 * 65536 := Int.mul_le_mul x1 s1 s0 (by omega)
        obtain ⟨t0, t1⟩ := rnd_step x0 s0 s1
        have HP := Lib.hid hb
        clear hs0 hb
        by_cases hyb : z ≤ y
        · have dyb : decide (z ≤ y) = true := by simpa using hyb
          have HE2 : Hid (exRest (stepsL.drop (k + 1)) (y - z) (rnd (x * s)) = E) := by
            have h1 := HE.out
            rw [HD.out, exRest, HB0.out, if_pos hyb] at h1
            exact h1
          have hy2 : y < z * 2 := by have := HY.out; rw [HB1.out] at this; exact this
          have HY2 : Hid (y - z < 2 ^ (20 - (k + 1))) := Lib.hid (by rw [show 20 - (k + 1) = 19 - k by omega, HP.out]; omega)
          go_wp2_with fail
          refine (round_any _ (x * s) (by omega) (by omega)).mono ?_
          rintro e w' ⟨rfl, rfl⟩
          obtain ⟨v, hv⟩ : ∃ v, rnd (x * s) = v := ⟨_, rfl⟩
          rw [hv] at t0 t1 HE2 ⊢
          clear hv
          go_wp2
          go_round
          case rel => exact ⟨k + 1, v, y - z, z / 2, by omega, by go_num, rfl, rfl, rfl, t0, by omega, by omega, HY2.out, HZ2.out, HE2.out⟩
          case measure => simp [intOf]; omega
        · have dyb : decide (z ≤ y) = false := by simpa using hyb
          have HE2 : Hid (exRest (stepsL.drop (k + 1)) y x = E) := by
            have h1 := HE.out
            rw [HD.out, exRest, HB0.out, if_neg hyb] at h1
            exact h1
          have HY2 : Hid (y < 2 ^ (20 - (k + 1))) := Lib.hid (by rw [show 20 - (k + 1) = 19 - k by omega, HP.out]; omega)
          go_wp2
          go_round
          case rel => exact ⟨k + 1, x, y, z / 2, by omega, by go_num, rfl, rfl, rfl, x0, x1, y0, HY2.out, HZ2.out, HE2.out⟩
          case measure => simp [intOf]; omega
      · obtain rfl : k = 20 := by omega
        have HE2 : Hid (x = E) := Lib.hid (by rw [← HE.out]; rfl)
        have hdf : decide (((20 : Nat) : Int) < 20) = false := by decide
        go_wp2
        go_ret
        exact ⟨by rw [← HE2.out]; rfl, HW.out.below⟩
end Go.Proofs.YtchjijifmjbgoaaDoor.Rf
