import Derived.Test.YtmlkgbfaamdapaaDoorSa
import Derived.Test.YtmlkgbfaamdapaaDoorT
namespace Go.Proofs.YtmlkgbfaamdapaaDoor
open Go.ChangeShapes Go.WideShapes Go.ChangeAt Go.RowKit

theorem i64_xor_nat (a b : Nat) (ha : a < 4294967296) (hb : b < 4294967296) : bits .xor .i64 (a : Int) (b : Int) = ((a ^^^ b : Nat) : Int) := by
  have hx : a ^^^ b < 2 ^ 32 := Nat.xor_lt_two_pow (by omega) (by omega)
  show IntKind.i64.wrap ((BitVec.ofInt 64 (a : Int) ^^^ BitVec.ofInt 64 (b : Int)).toNat : Int) = _
  rw [BitVec.toNat_xor, ofInt_u64 a (by omega), ofInt_u64 b (by omega)]
  exact IntWalk.i64_in _ (by omega)
theorem i64_and_nat (a b : Nat) (ha : a < 4294967296) (hb : b < 4294967296) : bits .and .i64 (a : Int) (b : Int) = ((a &&& b : Nat) : Int) := by
  have hx : a &&& b < 2 ^ 32 := Nat.and_lt_two_pow _ (by omega)
  show IntKind.i64.wrap ((BitVec.ofInt 64 (a : Int) &&& BitVec.ofInt 64 (b : Int)).toNat : Int) = _
  rw [BitVec.toNat_and, ofInt_u64 a (by omega), ofInt_u64 b (by omega)]
  exact IntWalk.i64_in _ (by omega)
/-- xor and 'and' of 64 bits are those of 32, for numbers of 32 bits -/
theorem i64_xor (a b : Int) (h1 : 0 ≤ a) (h2 : a < 4294967296) (h3 : 0 ≤ b) (h4 : b < 4294967296) : bits .xor .i64 a b = bits .xor .u32 a b := by
  obtain ⟨A, rfl⟩ := Int.eq_ofNat_of_zero_le h1
  obtain ⟨B, rfl⟩ := Int.eq_ofNat_of_zero_le h3
  rw [i64_xor_nat A B (by omega) (by omega), u32_xor_nat A B (by omega) (by omega)]
theorem i64_and (a b : Int) (h1 : 0 ≤ a) (h2 : a < 4294967296) (h3 : 0 ≤ b) (h4 : b < 4294967296) : bits .and .i64 a b = bits .and .u32 a b := by
  obtain ⟨A, rfl⟩ := Int.eq_ofNat_of_zero_le h1
  obtain ⟨B, rfl⟩ := Int.eq_ofNat_of_zero_le h3
  rw [i64_and_nat A B (by omega) (by omega), u32_and_nat A B (by omega) (by omega)]
/-- the complement -/
theorem u32_not (x : Int) (h1 : 0 ≤ x) (h2 : x < 4294967296) : bits .xor .u32 4294967295 x = 4294967295 - x := by
  obtain ⟨A, rfl⟩ := Int.eq_ofNat_of_zero_le h1
  have h := u32_xor_nat 4294967295 A (by omega) (by omega)
  have e : 4294967295 ^^^ A = 4294967295 - A := by
    have t : (BitVec.allOnes 32 ^^^ BitVec.ofNat 32 A).toNat = (~~~ BitVec.ofNat 32 A).toNat := by rw [BitVec.allOnes_xor]
    have hA : A % 2 ^ 32 = A := Nat.mod_eq_of_lt (by omega)
    rw [BitVec.toNat_xor, BitVec.toNat_allOnes, BitVec.toNat_not, BitVec.toNat_ofNat, hA] at t
    exact t
  rw [e] at h
  rw [show ((4294967295 : Nat) : Int) = 4294967295 from rfl] at h
  rw [h]
  omega
/-- the reference's turn is the rotation -/
theorem rot_int (x : Int) (k : Nat) (h1 : 0 ≤ x) (h2 : x < 4294967296) (hk : 1 ≤ k) (hk2 : k ≤ 31) : (x / 2 ^ k + x * 2 ^ (32 - k)) % 4294967296 = rotr x k := by
  obtain ⟨A, rfl⟩ := Int.eq_ofNat_of_zero_le h1
  have h := rot_sum A k (by omega) hk hk2
  have e1 : ((32 : Int) - (k : Int)).toNat = 32 - k := by omega
  have e2 : ((k : Int)).toNat = k := by omega
  have hq : A / 2 ^ k < 4294967296 := Nat.lt_of_le_of_lt (Nat.div_le_self _ _) (by omega)
  have hor := u32_or_nat (A * 2 ^ (32 - k) % 4294967296) (A / 2 ^ k) (Nat.mod_lt _ (by omega)) hq
  rw [← h] at hor
  unfold rotr
  rw [e1, e2]
  simp only [Int.natCast_emod, Int.natCast_add, Int.natCast_ediv, Int.natCast_mul, Int.natCast_pow] at hor
  exact hor.symm
end Go.Proofs.YtmlkgbfaamdapaaDoor
