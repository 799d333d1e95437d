import Derived.Test.YtmlkgbfaamdapaaDoorH
namespace Go.Proofs.YtmlkgbfaamdapaaDoor
open Go.ChangeShapes Go.WideShapes Go.ChangeAt Go.RowKit

theorem pow_le (n : Nat) (h : n ≤ 56) : (1 : Int) ≤ 2 ^ n ∧ (2 : Int) ^ n ≤ 72057594037927936 := by
  have h1 : (2 : Nat) ^ n ≤ 2 ^ 56 := Nat.pow_le_pow_right (by omega) h
  have h2 : 1 ≤ (2 : Nat) ^ n := Nat.one_le_two_pow
  have e : ((2 : Int) ^ n) = ((2 ^ n : Nat) : Int) := by simp
  rw [e]
  omega
theorem power_any (k : Nat) (hk : k ≤ 56) (w : World) : Calls Tryd.prog 23 #[.int .i64 k] w fun e w' => e = .returned (.int .i64 (2 ^ k)) ∧ w = w' := by
  go_enter Tryd.func23, Tryd.ntmps23
  go_wp2
  go_loop [3, 4] (fun v i => ∃ n : Nat, n ≤ k ∧ i = .int .i64 n ∧ v = .int .i64 (2 ^ n)) (fun _ i => k - (intOf i).toNat)
  case atStart => exact ⟨0, by omega, rfl, rfl⟩
  case round =>
    obtain ⟨n, hn, rfl, rfl⟩ := hrel
    obtain ⟨p1, p2⟩ := pow_le n (by omega)
    by_cases hlt : n < k
    · have hdt : decide (n < k) = true := by simp; omega
      have hs : (2 : Int) ^ (n + 1) = 2 ^ n * 2 := by rw [Int.pow_succ]
      have HS := Lib.hid hs
      clear hs
      obtain ⟨q, hq⟩ : ∃ q : Int, (2 : Int) ^ n = q := ⟨_, rfl⟩
      rw [hq] at p1 p2 HS ⊢
      clear hq
      go_wp2
      go_round
      case rel => exact ⟨n + 1, by omega, by go_num, by rw [HS.out]⟩
      case measure => simp [intOf]; omega
    · obtain rfl : n = k := by omega
      have hdf : decide (n < n) = false := by simp
      clear p1 p2
      go_wp2
      go_ret
      exact ⟨rfl, rfl⟩

/-- xor and and of 32 bits and of 64: the same numbers -/
theorem rot_sum (x k : Nat) (hx : x < 4294967296) (hk : 1 ≤ k) (hk2 : k ≤ 31) : (x / 2 ^ k + x * 2 ^ (32 - k)) % 4294967296 = (x * 2 ^ (32 - k) % 4294967296) ||| (x / 2 ^ k) := by
  have e : (4294967296 : Nat) = 2 ^ (32 - k) * 2 ^ k := by rw [← Nat.pow_add, show 32 - k + k = 32 from by omega]
  have hq : x / 2 ^ k < 2 ^ (32 - k) := by
    rw [Nat.div_lt_iff_lt_mul (Nat.two_pow_pos k)]
    rw [← e]
    exact hx
  have hm : x * 2 ^ (32 - k) % 4294967296 % 2 ^ (32 - k) = 0 := by
    rw [e, Nat.mod_mul_right_mod]
    exact Nat.mul_mod_left _ _
  rw [nat_join (32 - k) _ _ hm hq, Nat.add_comm (x / 2 ^ k), Nat.add_mod]
  have hsmall : x / 2 ^ k < 4294967296 := Nat.lt_of_le_of_lt (Nat.div_le_self _ _) hx
  rw [Nat.mod_eq_of_lt hsmall]
  apply Nat.mod_eq_of_lt
  have h1 : x * 2 ^ (32 - k) % 4294967296 < 4294967296 := Nat.mod_lt _ (by omega)
  have h2 : x * 2 ^ (32 - k) % 4294967296 = 2 ^ (32 - k) * (x * 2 ^ (32 - k) % 4294967296 / 2 ^ (32 - k)) := by
    have := Nat.div_add_mod (x * 2 ^ (32 - k) % 4294967296) (2 ^ (32 - k))
    omega
  generalize x * 2 ^ (32 - k) % 4294967296 / 2 ^ (32 - k) = t at h2
  have h3 : t < 2 ^ k := by
    rw [h2, e] at h1
    exact Nat.lt_of_mul_lt_mul_left h1
  have h4 : 2 ^ (32 - k) * (t + 1) ≤ 2 ^ (32 - k) * 2 ^ k := Nat.mul_le_mul_left _ h3
  rw [← e, Nat.mul_add, Nat.mul_one] at h4
  omega
end Go.Proofs.YtmlkgbfaamdapaaDoor
