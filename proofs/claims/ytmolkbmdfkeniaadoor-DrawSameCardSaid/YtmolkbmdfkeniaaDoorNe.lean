import Derived.Test.YtmolkbmdfkeniaaDoorNd
import Derived.IntWalk
namespace Go.Proofs.YtmolkbmdfkeniaaDoor.Dr
set_option maxRecDepth 100000
open Go.ChangeShapes Go.WideShapes Go.ChangeAt Go.RowKit Go.Proofs.YtmolkbmdfkeniaaDoor.Tn

/-! ### the landed code: Below -/
/-- the greatest so many times n up to 2^63 -/
def endM (n : Int) : Int := 9223372036854775808 - 9223372036854775808 % n
theorem endM_ok {x n : Int} (hn : 1 ≤ n) : x < endM n ↔ bOk x n := by
  unfold endM bOk mostC
  have h1 := Int.emod_nonneg 9223372036854775808 (show n ≠ 0 by omega)
  have h2 := Int.emod_lt_of_pos 9223372036854775808 (show 0 < n by omega)
  have h3 := Int.emod_nonneg x (show n ≠ 0 by omega)
  have h4 := Int.emod_lt_of_pos x (show 0 < n by omega)
  have e1 := Int.mul_ediv_add_emod 9223372036854775808 n
  have e2 := Int.mul_ediv_add_emod x n
  obtain ⟨q, hq⟩ : ∃ q, (9223372036854775808 : Int) / n = q := ⟨_, rfl⟩
  obtain ⟨r, hr⟩ : ∃ r, (9223372036854775808 : Int) % n = r := ⟨_, rfl⟩
  obtain ⟨a, ha⟩ : ∃ a, x / n = a := ⟨_, rfl⟩
  obtain ⟨b, hb⟩ : ∃ b, x % n = b := ⟨_, rfl⟩
  rw [hq, hr] at e1
  rw [ha, hb] at e2
  rw [hr] at h1 h2
  rw [hb] at h3 h4
  rw [hr, hb]
  constructor
  · intro h
    have h5 : a < q := by
      apply Decidable.byContradiction
      intro hh
      have : n * q ≤ n * a := Int.mul_le_mul_of_nonneg_left (by omega) (by omega)
      omega
    have h6 : n * (a + 1) ≤ n * q := Int.mul_le_mul_of_nonneg_left (by omega) (by omega)
    rw [Int.mul_add] at h6
    omega
  · intro h
    have h5 : a + 1 ≤ q := by
      apply Decidable.byContradiction
      intro hh
      have : n * q ≤ n * a := Int.mul_le_mul_of_nonneg_left (by omega) (by omega)
      omega
    have h6 : n * (a + 1) ≤ n * q := Int.mul_le_mul_of_nonneg_left (by omega) (by omega)
    rw [Int.mul_add] at h6
    omega
set_option maxHeartbeats 4000000 in
theorem lastM_any (w : World) (n : Int) (h1 : 1 ≤ n) (h2 : n ≤ 9223372036854775807) : Calls Tryd.prog 45 #[.int .i64 n] w fun e w' => e = .returned (.int .u64 (endM n)) ∧ w = w' := by
  have h3 := Int.emod_nonneg 9223372036854775808 (show n ≠ 0 by omega)
  have h4 := Int.emod_lt_of_pos 9223372036854775808 (show 0 < n by omega)
  have hE : endM n = 9223372036854775808 - 9223372036854775808 % n := rfl
  have hwn : IntKind.u64.wrap n = n := by
    have : n % 18446744073709551616 = n := by omega
    simpa [IntKind.wrap, IntKind.bits, IntKind.signed] using this
  have hz : (n == 0) = false := by simp; omega
  obtain ⟨r, hr⟩ : ∃ r, (9223372036854775808 : Int) % n = r := ⟨_, rfl⟩
  rw [hr] at h3 h4 hE
  have htm : (9223372036854775808 : Int).tmod n = r := by rw [Int.tmod_eq_emod_of_nonneg (by omega)]; exact hr
  have hwr : IntKind.u64.wrap r = r := by
    have : r % 18446744073709551616 = r := by omega
    simpa [IntKind.wrap, IntKind.bits, IntKind.signed] using this
  have hwe : IntKind.u64.wrap (9223372036854775808 - r) = 9223372036854775808 - r := by
    have : (9223372036854775808 - r) % 18446744073709551616 = 9223372036854775808 - r := by omega
    simpa [IntKind.wrap, IntKind.bits, IntKind.signed] using this
  rw [hE]
  clear hE
  go_enter Tryd.func45, Tryd.ntmps45
  go_wp2
  go_ret
  exact ⟨rfl, rfl⟩
theorem belowT_go (num : Int → Int) (c n : Int) (k : Nat) (hk : k < 64) : belowT num c n (64 - k) k = if mostC - 1 < c + k then (0, 0, 17) else if bOk (num (c + k)) n then (num (c + k) % n, k + 1, 0) else belowT num c n (64 - (k + 1)) (k + 1) := by
  obtain ⟨f, hf⟩ : ∃ f, 64 - k = f + 1 := ⟨63 - k, by omega⟩
  rw [hf, belowT, show 64 - (k + 1) = f by omega]
/-- what the inner below answers -/
def BelowA (w : World) (g : Nat) (s : List Int) (c : Int) (R : Int × Nat × Int) (e : Ending) (w' : World) : Prop :=
  e = .returned (two R.1 R.2.2) ∧ ∃ c', St8 w' g s c' ∧ (R.2.2 = 0 → c' = c + R.2.1) ∧ w.grownBy w' (some g)
theorem grown_trans {w W V : World} {g : Nat} (h1 : w.grownBy W (some g)) (h2 : W.grownBy V (some g)) : w.grownBy V (some g) :=
  ⟨h2.os.trans h1.os, h2.tape.trans h1.tape, h2.output.trans h1.output, Nat.le_trans h1.size h2.size, fun k hk hne => (h2.block k (Nat.lt_of_lt_of_le hk h1.size) hne).trans (h1.block k hk hne)⟩
theorem E8.grown {w w' : World} {g : Nat} (h : E8 w) (hb : w.grownBy w' (some g)) (hg : 2 < g) : E8 w' := by
  obtain ⟨⟨hk, t0, fr0, h0⟩, ⟨⟨t2, fr2, h2⟩⟩⟩ := h
  have b0 := hb.block 0 (Array.getElem?_eq_some_iff.1 h0).1 (by simp; omega)
  have b2 := hb.block 2 (Array.getElem?_eq_some_iff.1 h2).1 (by simp; omega)
  refine ⟨⟨fun i hi => ?_, t0, fr0, b0.trans h0⟩, ⟨⟨t2, fr2, b2.trans h2⟩⟩⟩
  have hc := hk i hi
  have b1 := hb.block 1 (block_lt_of_cell hc) (by simp; omega)
  rw [← hc]
  unfold World.cell?
  rw [b1]
end Go.Proofs.YtmolkbmdfkeniaaDoor.Dr
