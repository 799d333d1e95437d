import Derived.Test.YtmlkgbfaamdapaaDoorSb
import Derived.Test.YtmlkgbfaamdapaaDoorHg
namespace Go.Proofs.YtmlkgbfaamdapaaDoor
open Go.ChangeShapes Go.WideShapes Go.ChangeAt Go.RowKit

theorem run_shr64 (x : Int) (k : Nat) (hk : k ≤ 32) (w : World) : (binOp .shr 3 (.int .i64 x) (.int .i64 k)).run Tryd.prog w = .ok (.int .i64 (x / 2 ^ k)) w := by
  have _ := hk
  simp [go_sem]
theorem run_sub64 (k : Nat) (hk : k ≤ 32) (w : World) : (binOp .sub 3 (.int .i64 32) (.int .i64 k)).run Tryd.prog w = .ok (.int .i64 ((32 - k : Nat) : Int)) w := by
  have e : IntKind.i64.wrap (32 - (k : Int)) = ((32 - k : Nat) : Int) := by rw [IntWalk.i64_in _ (by omega)]; omega
  simp [go_sem, e]
theorem run_shl64 (x : Int) (k : Nat) (hk : k ≤ 32) (h0 : 0 ≤ x * 2 ^ k) (h1 : x * 2 ^ k ≤ 9223372036854775807) (w : World) : (binOp .shl 3 (.int .i64 x) (.int .i64 k)).run Tryd.prog w = .ok (.int .i64 (x * 2 ^ k)) w := by
  have _ := hk
  have e : IntKind.i64.wrap (x * 2 ^ k) = x * 2 ^ k := IntWalk.i64_in _ (by omega)
  simp [go_sem]
  exact e
theorem run_add64 (x y : Int) (h : 0 ≤ x + y) (h1 : x + y ≤ 9223372036854775807) (w : World) : (binOp .add 3 (.int .i64 x) (.int .i64 y)).run Tryd.prog w = .ok (.int .i64 (x + y)) w := by
  have e : IntKind.i64.wrap (x + y) = x + y := IntWalk.i64_in _ (by omega)
  simp [go_sem, e]
theorem run_rem64 (x : Int) (h : 0 ≤ x) (w : World) : (binOp .rem 3 (.int .i64 x) (.int .i64 4294967296)).run Tryd.prog w = .ok (.int .i64 (x % 4294967296)) w := by
  have e : x.tmod 4294967296 = x % 4294967296 := Int.tmod_eq_emod_of_nonneg h
  simp [go_sem, e]

/-- contract of cupelref01.turned -/
theorem turned_any (x : Int) (k : Nat) (h1 : 0 ≤ x) (h2 : x < 4294967296) (hk : 2 ≤ k) (hk2 : k ≤ 31) (w : World) :
    Calls Tryd.prog 34 #[.int .i64 x, .int .i64 k] w fun e w' => e = .returned (.int .i64 (rotr x k)) ∧ Below w.heap.size w w' := by
  have R := Lib.hid (rot_int x k h1 h2 (by omega) hk2)
  have p1 : (1 : Int) ≤ 2 ^ (32 - k) ∧ (2 : Int) ^ (32 - k) ≤ 1073741824 := by
    have q1 : (2 : Nat) ^ (32 - k) ≤ 2 ^ 30 := Nat.pow_le_pow_right (by omega) (by omega)
    have q2 : 1 ≤ (2 : Nat) ^ (32 - k) := Nat.one_le_two_pow
    have e : ((2 : Int) ^ (32 - k)) = ((2 ^ (32 - k) : Nat) : Int) := by simp
    rw [e]; omega
  have m0 : 0 ≤ x * 2 ^ (32 - k) := Int.mul_nonneg h1 (by omega)
  have m1 : x * 2 ^ (32 - k) ≤ 4294967295 * 1073741824 := Int.mul_le_mul (by omega) p1.2 (by omega) (by omega)
  have d0 : 0 ≤ x / 2 ^ k := Int.ediv_nonneg h1 (Int.pow_nonneg (by omega))
  have d1 : x / 2 ^ k ≤ x := Int.ediv_le_self _ h1
  have r1 := run_shr64 x k (by omega)
  have r2 := run_sub64 k (by omega)
  have r3 := run_shl64 x (32 - k) (by omega) m0 (by omega)
  have r4 := run_add64 (x / 2 ^ k) (x * 2 ^ (32 - k)) (by omega) (by omega)
  have r5 := run_rem64 (x / 2 ^ k + x * 2 ^ (32 - k)) (by omega)
  rw [R.out] at r5
  clear R p1 m0 m1 d0 d1
  generalize rotr x k = z at r5 ⊢
  generalize x / 2 ^ k + x * 2 ^ (32 - k) = s at r4 r5
  generalize x * 2 ^ (32 - k) = q at r3 r4
  generalize x / 2 ^ k = p at r1 r4
  generalize 32 - k = j at r2 r3
  go_enter Tryd.func34, Tryd.ntmps34
  go_wp2
  refine wp_region_quiet (C := fun W => Below w.heap.size w W) (by kernel_rfl) (by kernel_rfl) ⟨rfl, rfl, rfl, Nat.le_refl _, fun _ _ => rfl⟩ ?_
  refine q_val _ rfl (fun _ _ => rfl) ?_
  simp only [Act.put, List.setIfInBounds_toArray, List.set_cons_succ, List.set_cons_zero]
  go_big_quiet_step (fail)
  refine q_val (.int .i64 p) rfl (fun W _ => exec_binOp .shr 3 3 (.tmp 5) (.tmp 6) rfl _ _ _ rfl rfl rfl (r1 W)) ?_
  simp only [Act.put, List.setIfInBounds_toArray, List.set_cons_succ, List.set_cons_zero]
  go_big_quiet_step (fail)
  go_big_quiet_step (fail)
  refine q_val (.int .i64 j) rfl (fun W _ => exec_binOp .sub 3 3 (.const (.int .i64 32)) (.tmp 9) rfl _ _ _ rfl rfl rfl (r2 W)) ?_
  simp only [Act.put, List.setIfInBounds_toArray, List.set_cons_succ, List.set_cons_zero]
  refine q_val (.int .i64 q) rfl (fun W _ => exec_binOp .shl 3 3 (.tmp 8) (.tmp 10) rfl _ _ _ rfl rfl rfl (r3 W)) ?_
  simp only [Act.put, List.setIfInBounds_toArray, List.set_cons_succ, List.set_cons_zero]
  refine q_val (.int .i64 s) rfl (fun W _ => exec_binOp .add 3 3 (.tmp 7) (.tmp 11) rfl _ _ _ rfl rfl rfl (r4 W)) ?_
  simp only [Act.put, List.setIfInBounds_toArray, List.set_cons_succ, List.set_cons_zero]
  refine q_val (.int .i64 z) rfl (fun W _ => exec_binOp .rem 3 3 (.tmp 12) (.const (.int .i64 4294967296)) rfl _ _ _ rfl rfl rfl (r5 W)) ?_
  simp only [Act.put, List.setIfInBounds_toArray, List.set_cons_succ, List.set_cons_zero]
  go_big_quiet_step (fail)
  refine wpQuiet_nil ?_
  intro W hW
  have HW := Lib.hid hW
  clear r1 r2 r3 r4 r5 hW
  go_wp2
  go_ret
  exact ⟨rfl, HW.out⟩
end Go.Proofs.YtmlkgbfaamdapaaDoor
