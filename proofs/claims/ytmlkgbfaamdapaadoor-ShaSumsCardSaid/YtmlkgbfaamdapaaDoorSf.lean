import Derived.Test.YtmlkgbfaamdapaaDoorSd
import Derived.Test.YtmlkgbfaamdapaaDoorSe
namespace Go.Proofs.YtmlkgbfaamdapaaDoor
open Go.ChangeShapes Go.WideShapes Go.ChangeAt Go.RowKit

theorem or_add (a b k : Nat) (ha : a % 2 ^ k = 0) (hb : b < 2 ^ k) (ha2 : a < 4294967296) (hb2 : b < 4294967296) : bits .or .u32 (a : Int) (b : Int) = ((a + b : Nat) : Int) := by
  rw [u32_or_nat a b ha2 hb2, nat_join k a b ha hb]
/-- a word out of four bytes, as a sum -/
theorem word_sum (b0 b1 b2 b3 : Int) (h0 : 0 ≤ b0 ∧ b0 < 256) (h1 : 0 ≤ b1 ∧ b1 < 256) (h2 : 0 ≤ b2 ∧ b2 < 256) (h3 : 0 ≤ b3 ∧ b3 < 256) : word b0 b1 b2 b3 = b0 * 16777216 + b1 * 65536 + b2 * 256 + b3 := by
  obtain ⟨n0, rfl⟩ := Int.eq_ofNat_of_zero_le h0.1
  obtain ⟨n1, rfl⟩ := Int.eq_ofNat_of_zero_le h1.1
  obtain ⟨n2, rfl⟩ := Int.eq_ofNat_of_zero_le h2.1
  obtain ⟨n3, rfl⟩ := Int.eq_ofNat_of_zero_le h3.1
  unfold word
  rw [show (n0 : Int) % 4294967296 * 16777216 % 4294967296 = ((n0 * 16777216 : Nat) : Int) by omega, show (n1 : Int) % 4294967296 * 65536 % 4294967296 = ((n1 * 65536 : Nat) : Int) by omega,
    show (n2 : Int) % 4294967296 * 256 % 4294967296 = ((n2 * 256 : Nat) : Int) by omega, show (n3 : Int) % 4294967296 = ((n3 : Nat) : Int) by omega]
  rw [or_add _ _ 24 (by omega) (by omega) (by omega) (by omega), or_add _ _ 16 (by omega) (by omega) (by omega) (by omega), or_add _ _ 8 (by omega) (by omega) (by omega) (by omega)]
  omega
theorem thr_sig1 (x : Int) : thr x 17 19 10 true = sig1 x := rfl
theorem thr_sig0 (x : Int) : thr x 7 18 3 true = sig0 x := rfl
theorem thr_bsig1 (x : Int) : thr x 6 11 25 false = bsig1 x := rfl
theorem thr_bsig0 (x : Int) : thr x 2 13 22 false = bsig0 x := rfl
/-- a number of 32 bits -/
def W32 (x : Int) : Prop := 0 ≤ x ∧ x < 4294967296
theorem thr_in (x : Int) (a b c : Nat) (d : Bool) (h : W32 x) (ha : 2 ≤ a ∧ a ≤ 31) (hb : 2 ≤ b ∧ b ≤ 31) (hc : 2 ≤ c ∧ c ≤ 31) : W32 (thr x a b c d) := by
  have r1 := rotr_in x a h.1 h.2 (by omega) ha.2
  have r2 := rotr_in x b h.1 h.2 (by omega) hb.2
  have r3 := rotr_in x c h.1 h.2 (by omega) hc.2
  have r4 := xor_in _ _ r1.1 r1.2 r2.1 r2.2
  unfold thr
  cases d
  · exact xor_in _ _ r4.1 r4.2 r3.1 r3.2
  · have d0 : 0 ≤ x / 2 ^ c := Int.ediv_nonneg h.1 (Int.pow_nonneg (by omega))
    have d1 : x / 2 ^ c ≤ x := Int.ediv_le_self _ h.1
    have h2 := h.2
    exact xor_in _ _ r4.1 r4.2 d0 (by omega)
theorem choice_in (e f g : Int) (he : W32 e) (hf : W32 f) (hg : W32 g) : W32 (choice e f g) := by
  have a1 := and_in e f he.1 he.2 hf.1 hf.2
  have a2 := xor_in 4294967295 e (by omega) (by omega) he.1 he.2
  have a3 := and_in _ g a2.1 a2.2 hg.1 hg.2
  exact xor_in _ _ a1.1 a1.2 a3.1 a3.2
theorem majority_in (a b c : Int) (ha : W32 a) (hb : W32 b) (hc : W32 c) : W32 (majority a b c) := by
  have a1 := and_in a b ha.1 ha.2 hb.1 hb.2
  have a2 := and_in a c ha.1 ha.2 hc.1 hc.2
  have a3 := and_in b c hb.1 hb.2 hc.1 hc.2
  have a4 := xor_in _ _ a1.1 a1.2 a2.1 a2.2
  exact xor_in _ _ a4.1 a4.2 a3.1 a3.2
/-- the reference's choice and majority, in 64 bits -/
theorem choice64 (e f g : Int) (he : W32 e) (hf : W32 f) (hg : W32 g) : bits .xor .i64 (bits .and .i64 e f) (bits .and .i64 (4294967295 - e) g) = choice e f g := by
  have h1 := he.1
  have h2 := he.2
  have a1 := and_in e f he.1 he.2 hf.1 hf.2
  have a2 := xor_in 4294967295 e (by omega) (by omega) he.1 he.2
  have a3 := and_in _ g a2.1 a2.2 hg.1 hg.2
  unfold choice
  rw [u32_not e he.1 he.2] at a3 ⊢
  rw [i64_and e f he.1 he.2 hf.1 hf.2, i64_and _ g (by omega) (by omega) hg.1 hg.2, i64_xor _ _ a1.1 a1.2 a3.1 a3.2]
theorem majority64 (a b c : Int) (ha : W32 a) (hb : W32 b) (hc : W32 c) : bits .xor .i64 (bits .xor .i64 (bits .and .i64 a b) (bits .and .i64 a c)) (bits .and .i64 b c) = majority a b c := by
  have a1 := and_in a b ha.1 ha.2 hb.1 hb.2
  have a2 := and_in a c ha.1 ha.2 hc.1 hc.2
  have a3 := and_in b c hb.1 hb.2 hc.1 hc.2
  have a4 := xor_in _ _ a1.1 a1.2 a2.1 a2.2
  unfold majority
  rw [i64_and a b ha.1 ha.2 hb.1 hb.2, i64_and a c ha.1 ha.2 hc.1 hc.2, i64_and b c hb.1 hb.2 hc.1 hc.2, i64_xor _ _ a1.1 a1.2 a2.1 a2.2, i64_xor _ _ a4.1 a4.2 a3.1 a3.2]
/-- a round's sums may be taken modulo 2^32 late -/
theorem step_late (s : St) (k x p q : Int) (hp : p = s.h + bsig1 s.e + choice s.e s.f s.g + k + x) (hq : q = bsig0 s.a + majority s.a s.b s.c) :
    s.step k x = ⟨(p + q) % 4294967296, s.a, s.b, s.c, (s.d + p) % 4294967296, s.e, s.f, s.g⟩ := by
  unfold St.step St.pp St.qq
  rw [← hp, ← hq]
  congr 1 <;> omega
end Go.Proofs.YtmlkgbfaamdapaaDoor
