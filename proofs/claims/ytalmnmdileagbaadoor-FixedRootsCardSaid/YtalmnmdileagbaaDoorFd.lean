import Derived.Test.YtalmnmdileagbaaDoorFc
import Derived.WalkMore
namespace Go.Proofs.YtalmnmdileagbaaDoor.Fx
open Go.ChangeShapes Go.WideShapes Go.ChangeAt Go.RowKit

/-! #### Root, told as one number -/
def rootR (n : Int) : Int := if isN n ∧ 0 ≤ n then rootGo (n * 65536) 28 0 else 0
theorem rootGo_n {n : Int} (h : isN n) (h0 : 0 ≤ n) : IsRoot (n * 65536) (rootGo (n * 65536) 28 0) := by
  unfold isN at h
  exact rootGo_is _ 28 0 (by omega) (by omega) (by rw [show (0 + 2 ^ 28 : Int) * (0 + 2 ^ 28) = 72057594037927936 by decide]; omega)
theorem root_is {n r : Int} (h : RootR n r) : r = rootR n := by
  unfold rootR
  rcases h with ⟨h1, h2, h3⟩ | ⟨h1, h2⟩
  · rw [if_pos ⟨h1, h2⟩]
    exact IsRoot.unique h3 (rootGo_n h1 h2)
  · rw [if_neg h1]
    exact h2
theorem root_any (w : World) (n : Int) : Calls Tryd.prog 19 #[.int .i64 n] w fun e w' => e = .returned (.tuple #[.int .i64 (rootR n), .int .i64 (rootE n)]) ∧ Below w.heap.size w w' :=
  (root_end w n).mono fun e w' ⟨r, h1, h2, h3⟩ => ⟨by rw [h1, root_is h2], h3⟩

/-! #### Exp -/
/-- the table of steps, as a value -/
def rowI (l : List Int) : Array Value := (l.map (Value.int .i64)).toArray
theorem rowI_get (l : List Int) (i : Nat) (h : i < l.length) : (rowI l)[i]? = some (.int .i64 (l.getD i 0)) := by
  unfold rowI
  simp [h]
structure Env (w : World) : Prop where
  steps : ∃ (t : TypeId) (fr : Nat × Nat), w.heap[0]? = some (.cells (rowI stepsL) t fr)
theorem Env.below {w w' : World} (h : Env w) (hb : Below w.heap.size w w') : Env w' := by
  obtain ⟨t, fr, h0⟩ := h.steps
  exact ⟨⟨t, fr, (hb.block _ (Array.getElem?_eq_some_iff.1 h0).1).trans h0⟩⟩
theorem exRest_zero : ∀ (ss : List Int) (out : Int), exRest ss 0 out = out
  | [], _ => rfl
  | s :: ss, out => by
    have hp : (0 : Int) < 2 ^ ss.length := Int.pow_pos (by omega)
    unfold exRest
    rw [if_neg (by omega)]
    exact exRest_zero ss out
theorem size_steps : (Tryd.prog.info? 38).map (·.size) = some (rowI stepsL).size := by kernel_rfl
theorem drop_cons {l : List Int} {k : Nat} (h : k < l.length) : l.drop k = l.getD k 0 :: l.drop (k + 1) := by
  rw [List.drop_eq_getElem_cons h]
  simp [h]
theorem run_index_row {P : Program} (t e : TypeId) (n : Nat) (k : IntKind) (ht : P.underlying t = some (.array n e)) (he : P.underlying e = some (.int k)) (hs : (P.info? e).map (·.size) = some 1)
    (cs : Array Value) (i : Nat) (hi : i < n) (v : Value) (hv : cs[i]? = some v) (w : World) : (Instr.index t (.agg cs) (.int .i64 (i : Int))).run P w = .ok v w := by
  cases hq : P.info? e with
  | none => simp [hq] at hs
  | some j =>
    have hj : j.size = 1 := by simpa [hq] using hs
    simp [Instr.index, asIntOf, run_underlying ht, part, isAgg, run_underlying he, sizeOf, typeInfo, hq, hj, hi, hv]
theorem size3 : (Tryd.prog.info? 3).map (·.size) = some 1 := by kernel_rfl
theorem steps_at (k : Nat) (h : k < 20) (w : World) : (Instr.index 38 (.agg (rowI stepsL)) (.int .i64 (k : Int))).run Tryd.prog w = .ok (.int .i64 (stepsL.getD k 0)) w :=
  run_index_row 38 3 20 .i64 Tryd.underlying38 Tryd.underlying3 size3 (rowI stepsL) k h _ (rowI_get stepsL k h) w
set_option maxRecDepth 100000 in
set_option maxHeartbeats 4000000 in
theorem power_any (w : World) (n : Int) (he : Env w) (hn : n ≤ 0) (hn1 : -9223372036854775808 ≤ n) :
    Calls Tryd.prog 32 #[.int .i64 n] w fun e w' => e = .returned (.int .i64 (ex n)) ∧ w = w' := by
  by_cases h : n ≤ -1048576
  · have hx : ex n = 0 := by unfold ex; rw [if_pos h]
    rw [hx]
    clear hx
    have d : decide (n ≤ -1048576) = true := by simpa using h
    go_enter Tryd.func32, Tryd.ntmps32
    go_wp2
    go_step3
    go_wp2
    rw [Exit.noGoto_ret]
    go_ret
    exact ⟨rfl, rfl⟩
  · have HX := Lib.hid (ex_rest hn h)
    have d : decide (n ≤ -1048576) = false := by simpa using h
    obtain ⟨t, fr, h0⟩ := he.steps
    have H0 := Lib.hid h0
    clear h0 he
    obtain ⟨E, hE⟩ : ∃ E, ex n = E := ⟨_, rfl⟩
    rw [hE] at HX ⊢
    clear hE
    go_enter Tryd.func32, Tryd.ntmps32
    go_wp2
    go_step3
    go_wp2
    go_step3
    go_wp2_with (refine wpList_load_row rfl 38 (.global 0) rfl 0 rfl t (rowI stepsL) fr _ H0.out Tryd.underlying38 rfl size_steps ?_)
    go_loop [3, 4, 13] (fun p r i => ∃ (k : Nat) (x y : Int), k ≤ 20 ∧ i = .int .i64 k ∧ p = .int .i64 x ∧ r = .int .i64 y ∧ 0 ≤ x ∧ x ≤ 65536 ∧ 0 ≤ y ∧ y < 2 ^ (20 - k) ∧ exRest (stepsL.drop k) y x = E) (fun _ _ i => 20 - (intOf i).toNat)
    case atStart => exact ⟨0, 65536, -n, by omega, rfl, rfl, rfl, by omega, by omega, by omega, by show -n < 1048576; omega, HX.out⟩
    case round =>
      obtain ⟨k, x, y, hk, rfl, rfl, rfl, x0, x1, y0, hy, hE⟩ := hrel
      have HY := Lib.hid hy
      have HE := Lib.hid hE
      clear hy hE
      by_cases hlt : k < 20
      · have hdt : decide ((k : Int) < 20) = true := by simp; omega
        have hix := steps_at k hlt w
        have hs := steps_in (stepsL.getD k 0) (by
          rw [List.getD_eq_getElem?_getD, List.getElem?_eq_getElem (show k < stepsL.length from hlt)]
          exact List.getElem_mem _)
        have HD := Lib.hid (drop_cons (l := stepsL) hlt)
        obtain ⟨s, hs0⟩ : ∃ s, stepsL.getD k 0 = s := ⟨_, rfl⟩
        rw [hs0] at hix hs HD
        obtain ⟨s0, s1⟩ := hs
        have HB0 : Hid (2 ^ (stepsL.drop (k + 1)).length = (2 : Int) ^ (19 - k)) := by
          rw [Hid, List.length_drop, show stepsL.length = 20 from rfl, show 20 - (k + 1) = 19 - k by omega]
        have HB1 : Hid ((2 : Int) ^ (20 - k) = (2 : Int) ^ (19 - k) * 2) := by
          rw [Hid, show 20 - k = (19 - k) + 1 by omega, Int.pow_succ]
        have b0 : 1 ≤ (2 : Int) ^ (19 - k) := Int.pow_pos (by omega)
        have b1 : (2 : Int) ^ (19 - k) ≤ 524288 := by
          have h1 := Nat.pow_le_pow_right (show 0 < 2 by omega) (show 19 - k ≤ 19 by omega)
          have h2 : (((2 ^ (19 - k) : Nat)) : Int) = (2 : Int) ^ (19 - k) := by simp
          omega
        obtain ⟨b, hb⟩ : ∃ b, (2 : Int) ^ (19 - k) = b := ⟨_, rfl⟩
        rw [hb] at HB0 HB1 b0 b1
        have m0 : 0 ≤ x * s := Int.mul_nonneg x0 s0
        have m1 : x * s ≤ 65536 * 65536 := Int.mul_le_mul x1 s1 s0 (by omega)
        obtain ⟨t0, t1⟩ := rnd_step x0 s0 s1
        clear hs0
        by_cases hy0 : y = 0
        · subst hy0
          have HE2 : Hid (x = E) := Lib.hid (by rw [← HE.out, exRest_zero])
          go_wp2
          go_ret
          exact ⟨by rw [← HE2.out]; rfl, rfl⟩
        · have dy : (y == 0) = false := by simpa using hy0
          by_cases hyb : y < b
          · have dyb : decide (y < b) = true := by simpa using hyb
            have HE2 : Hid (exRest (stepsL.drop (k + 1)) y x = E) := by
              have h1 := HE.out
              rw [HD.out, exRest, HB0.out, if_neg (by omega)] at h1
              exact h1
            have HY2 : Hid (y < 2 ^ (20 - (k + 1))) := Lib.hid (by rw [show 20 - (k + 1) = 19 - k by omega, hb]; exact hyb)
            go_wp2
            go_round
            case rel => exact ⟨k + 1, x, y, by omega, by go_num, rfl, rfl, x0, x1, y0, HY2.out, HE2.out⟩
            case measure => simp [intOf]; omega
          · have dyb : decide (y < b) = false := by simpa using hyb
            have HE2 : Hid (exRest (stepsL.drop (k + 1)) (y - b) (rnd (x * s)) = E) := by
              have h1 := HE.out
              rw [HD.out, exRest, HB0.out, if_pos (by omega)] at h1
              exact h1
            have hy2 : y < b * 2 := by have := HY.out; rw [HB1.out] at this; exact this
            have HY2 : Hid (y - b < 2 ^ (20 - (k + 1))) := Lib.hid (by rw [show 20 - (k + 1) = 19 - k by omega, hb]; omega)
            go_wp2_with fail
            refine (scaled_any _ (x * s) (by omega) (by omega)).mono ?_
            rintro e w' ⟨rfl, rfl⟩
            obtain ⟨z, hz⟩ : ∃ z, rnd (x * s) = z := ⟨_, rfl⟩
            rw [hz] at t0 t1 HE2 ⊢
            clear hz
            go_wp2
            go_round
            case rel => exact ⟨k + 1, z, y - b, by omega, by go_num, rfl, rfl, t0, by omega, by omega, HY2.out, HE2.out⟩
            case measure => simp [intOf]; omega
      · obtain rfl : k = 20 := by omega
        have HE2 : Hid (x = E) := Lib.hid (by rw [← HE.out]; rfl)
        have hdf : decide (((20 : Nat) : Int) < 20) = false := by decide
        go_wp2
        go_ret
        exact ⟨by rw [← HE2.out]; rfl, rfl⟩

def expR (n : Int) : Int := if 0 < n then 0 else ex n
def expE (n : Int) : Int := if 0 < n then 10 else 0
set_option maxRecDepth 100000 in
set_option maxHeartbeats 4000000 in
theorem exp_any (w : World) (n : Int) (he : Env w) (hn1 : -9223372036854775808 ≤ n) :
    Calls Tryd.prog 21 #[.int .i64 n] w fun e w' => e = .returned (.tuple #[.int .i64 (expR n), .int .i64 (expE n)]) ∧ w = w' := by
  unfold expR expE
  by_cases h : 0 < n
  · rw [if_pos h, if_pos h]
    have d : decide (0 < n) = true := by simpa using h
    go_enter Tryd.func21, Tryd.ntmps21
    go_wp2
    go_ret2
    exact ⟨rfl, rfl⟩
  · rw [if_neg h, if_neg h]
    have d : decide (0 < n) = false := by simpa using h
    go_enter Tryd.func21, Tryd.ntmps21
    go_wp2_with fail
    refine (power_any w n he (by omega) hn1).mono ?_
    rintro e w' ⟨rfl, rfl⟩
    obtain ⟨E, hE⟩ : ∃ E, ex n = E := ⟨_, rfl⟩
    rw [hE]
    have HE := Lib.hid hE
    clear hE
    go_wp2
    go_ret2
    exact ⟨by rw [HE.out]; rfl, rfl⟩

/-! #### Gate -/
def gateR (n : Int) : Int := if isN n then gt n else 0
def gateE (n : Int) : Int := if isN n then 0 else 10
theorem mul_gate {n : Int} (h : isN n) : mulR n (sg n) = gt n ∧ mulE n (sg n) = 0 := by
  have hs := sg_le n
  have h1 : isN (sg n) := by unfold isN; omega
  have h2 : isN (rnd (n * sg n)) := gt_is h
  unfold mulR mulE
  rw [if_pos ⟨h, h1⟩, if_pos ⟨h, h1⟩]
  unfold res err
  rw [if_pos h2, if_pos h2]
  exact ⟨rfl, rfl⟩
set_option maxRecDepth 100000 in
set_option maxHeartbeats 4000000 in
theorem gate_any (w : World) (n : Int) (he : Env w) :
    Calls Tryd.prog 22 #[.int .i64 n] w fun e w' => e = .returned (.tuple #[.int .i64 (gateR n), .int .i64 (gateE n)]) ∧ Below w.heap.size w w' := by
  unfold gateR gateE
  have HEn := Lib.hid he
  clear he
  by_cases h : isN n
  · rw [if_pos h, if_pos h]
    have H := Lib.hid h
    obtain ⟨n0, n1⟩ : -2147483648 ≤ n ∧ n ≤ 2147483647 := h
    have hs := sg_le n
    have HG := Lib.hid (mul_gate H.out)
    by_cases h0 : n < 0
    · have d0 : decide (n < 0) = true := by simpa using h0
      have HS : Hid (sg n = 65536 - 4294967296 / (65536 + ex n)) := Lib.hid (by unfold sg; rw [if_pos h0])
      have hx := ex_le n
      have hq := quot_le _ hx.1 hx.2
      clear hs
      go_enter Tryd.func22, Tryd.ntmps22
      go_wp2_with fail
      refine (check_ok _ _ _ _ [n] (row1 _ n (0, 0) _ (heap_alloc_new _ _)) (all1 H.out)).mono ?_
      rintro e w' ⟨rfl, rfl⟩
      go_wp2_with fail
      refine (power_any _ n (HEn.out.below ((Below.refl _ _).alloc (Nat.le_refl _) _)) (by omega) (by omega)).mono ?_
      rintro e w' ⟨rfl, rfl⟩
      obtain ⟨E, hE⟩ : ∃ E, ex n = E := ⟨_, rfl⟩
      rw [hE] at hx hq HS ⊢
      obtain ⟨x0, x1⟩ := hx
      obtain ⟨q0, q1⟩ := hq
      obtain ⟨q, hQ⟩ : ∃ q, 4294967296 / (65536 + E) = q := ⟨_, rfl⟩
      rw [hQ] at q0 q1 HS
      rw [HS.out] at HG
      clear hE HS
      go_wp2_with fail
      clear hQ
      refine (mul_any _ n (65536 - q)).mono ?_
      rintro e w' ⟨rfl, hb⟩
      rw [HG.out.1, HG.out.2]
      have HB := Lib.hid (((Below.refl _ w).alloc (Nat.le_refl _) _).trans (hb.mono (by simp)))
      obtain ⟨G, hG⟩ : ∃ G, gt n = G := ⟨_, rfl⟩
      rw [hG]
      have HGt := Lib.hid hG
      clear hb hG
      go_wp2
      go_ret2
      exact ⟨by rw [HGt.out]; rfl, HB.out⟩
    · have d0 : decide (n < 0) = false := by simpa using h0
      have HS : Hid (sg n = 4294967296 / (65536 + ex (-n))) := Lib.hid (by unfold sg; rw [if_neg h0])
      have hx := ex_le (-n)
      have hq := quot_le _ hx.1 hx.2
      clear hs
      go_enter Tryd.func22, Tryd.ntmps22
      go_wp2_with fail
      refine (check_ok _ _ _ _ [n] (row1 _ n (0, 0) _ (heap_alloc_new _ _)) (all1 H.out)).mono ?_
      rintro e w' ⟨rfl, rfl⟩
      go_wp2_with fail
      · refine (power_any _ (-n) (HEn.out.below ((Below.refl _ _).alloc (Nat.le_refl _) _)) (by omega) (by omega)).mono ?_
        rintro e w' ⟨rfl, rfl⟩
        obtain ⟨E, hE⟩ : ∃ E, ex (-n) = E := ⟨_, rfl⟩
        rw [hE] at hx hq HS ⊢
        obtain ⟨x0, x1⟩ := hx
        obtain ⟨q0, q1⟩ := hq
        obtain ⟨q, hQ⟩ : ∃ q, 4294967296 / (65536 + E) = q := ⟨_, rfl⟩
        rw [hQ] at q0 q1 HS
        rw [HS.out] at HG
        clear hE HS
        go_wp2_with fail
        clear hQ
        refine (mul_any _ n (q)).mono ?_
        rintro e w' ⟨rfl, hb⟩
        rw [HG.out.1, HG.out.2]
        have HB := Lib.hid (((Below.refl _ w).alloc (Nat.le_refl _) _).trans (hb.mono (by simp)))
        obtain ⟨G, hG⟩ : ∃ G, gt n = G := ⟨_, rfl⟩
        rw [hG]
        have HGt := Lib.hid hG
        clear hb hG
        go_wp2
        go_ret2
        exact ⟨by rw [HGt.out]; rfl, HB.out⟩
      · obtain rfl : n = 0 := by omega
        simp only [Int.neg_zero] at hx hq HS
        refine (power_any _ 0 (HEn.out.below ((Below.refl _ _).alloc (Nat.le_refl _) _)) (by omega) (by omega)).mono ?_
        rintro e w' ⟨rfl, rfl⟩
        obtain ⟨E, hE⟩ : ∃ E, ex 0 = E := ⟨_, rfl⟩
        rw [hE] at hx hq HS ⊢
        obtain ⟨x0, x1⟩ := hx
        obtain ⟨q0, q1⟩ := hq
        obtain ⟨q, hQ⟩ : ∃ q, 4294967296 / (65536 + E) = q := ⟨_, rfl⟩
        rw [hQ] at q0 q1 HS
        rw [HS.out] at HG
        clear hE HS
        go_wp2_with fail
        clear hQ
        refine (mul_any _ 0 (q)).mono ?_
        rintro e w' ⟨rfl, hb⟩
        rw [HG.out.1, HG.out.2]
        have HB := Lib.hid (((Below.refl _ w).alloc (Nat.le_refl _) _).trans (hb.mono (by simp)))
        obtain ⟨G, hG⟩ : ∃ G, gt 0 = G := ⟨_, rfl⟩
        rw [hG]
        have HGt := Lib.hid hG
        clear hb hG
        go_wp2
        go_ret2
        exact ⟨by rw [HGt.out]; rfl, HB.out⟩
  · rw [if_neg h, if_neg h]
    have H := Lib.hid h
    clear h
    go_enter Tryd.func22, Tryd.ntmps22
    go_wp2_with fail
    refine (check_no _ _ _ _ [n] (row1 _ n (0, 0) _ (heap_alloc_new _ _)) 0 (by omega) H.out).mono ?_
    rintro e w' ⟨rfl, rfl⟩
    go_wp2
    go_ret2
    exact ⟨rfl, (Below.refl _ _).alloc (Nat.le_refl _) _⟩
end Go.Proofs.YtalmnmdileagbaaDoor.Fx
