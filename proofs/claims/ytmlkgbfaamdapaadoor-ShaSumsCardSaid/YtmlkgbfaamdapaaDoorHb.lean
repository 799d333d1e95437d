import Derived.Test.YtmlkgbfaamdapaaDoorHa
namespace Go.Proofs.YtmlkgbfaamdapaaDoor
open Go.ChangeShapes Go.WideShapes Go.ChangeAt Go.RowKit

/-- a digit's number; -1: it is none -/
def hexV (c : Int) : Int := if 48 ≤ c ∧ c ≤ 57 then c - 48 else if 97 ≤ c ∧ c ≤ 102 then c - 87 else -1
theorem hexV_idx : ∀ n : Nat, n < 256 → firstIdx hexD (n : Int).toNat.toUInt8 = hexV n := by decide +kernel
theorem idx_ext (c : Int) (h0 : 0 ≤ c) (h1 : c < 256) (w : World) : (callFunc 35 #[.string hexD, .int .u8 c]).run Tryd.prog w = .ok (.value (.int .i64 (hexV c))) w := by
  obtain ⟨n, rfl⟩ := Int.eq_ofNat_of_zero_le h0
  rw [run_callFunc_extern (P := Tryd.prog) (e := Extern.BytealgIndexByte.indexByte) Tryd.func35 (by kernel_rfl) (by kernel_rfl) (by kernel_rfl) (by kernel_rfl), run_indexByte_string, hexV_idx n (by omega)]
  rfl
theorem idx_any (c : Int) (h0 : 0 ≤ c) (h1 : c < 256) (w : World) : Calls Tryd.prog 24 #[.string ⟨#[48, 49, 50, 51, 52, 53, 54, 55, 56, 57, 97, 98, 99, 100, 101, 102]⟩, .int .u8 c] w fun e w' => e = .returned (.int .i64 (hexV c)) ∧ w = w' := by
  have hext : ∀ w, (callFunc 35 #[.string ⟨#[48, 49, 50, 51, 52, 53, 54, 55, 56, 57, 97, 98, 99, 100, 101, 102]⟩, .int .u8 c]).run Tryd.prog w = .ok (.value (.int .i64 (hexV c))) w := idx_ext c h0 h1
  clear h0 h1
  go_enter Tryd.func24, Tryd.ntmps24
  go_wp2_with fail
  go_in
  go_wp2_with fail
  go_ret
  exact ⟨rfl, rfl⟩
end Go.Proofs.YtmlkgbfaamdapaaDoor
