import Derived.Test.YtchjijifmjbgoaaDoorKt
namespace Go.Proofs.YtchjijifmjbgoaaDoor.Tn
set_option maxRecDepth 100000
open Go.ChangeShapes Go.WideShapes Go.ChangeAt Go.RowKit Go.Sort Go.Proofs.YtchjijifmjbgoaaDoor.Fx Go.Proofs.YtchjijifmjbgoaaDoor.Rf

theorem byte_lt (b : UInt8) : b.toNat < 256 := b.toNat_lt
theorem wrapB (b : UInt8) : wrap64 (8 + wrap64 (b.toNat : Int)) = ((8 + b.toNat : Nat) : Int) := by
  have h := byte_lt b
  have e : wrap64 (b.toNat : Int) = (b.toNat : Int) := by unfold wrap64; omega
  rw [e]
  unfold wrap64
  omega
theorem wrapC (b : UInt8) : wrap64 (wrap64 (b.toNat : Int)) = ((b.toNat : Nat) : Int) := by
  have h := byte_lt b
  have e : wrap64 (b.toNat : Int) = (b.toNat : Int) := by unfold wrap64; omega
  rw [e, e]
theorem ret_wrapB (b : UInt8) : ∃ L : Nat, Ending.returned (Value.int .i64 (wrap64 (8 + wrap64 (b.toNat : Int)))) = .returned (.int .i64 (L : Int)) := ⟨_, by rw [wrapB]⟩
theorem ret_wrapC (b : UInt8) : ∃ L : Nat, Ending.returned (Value.int .i64 (wrap64 (wrap64 (b.toNat : Int)))) = .returned (.int .i64 (L : Int)) := ⟨_, by rw [wrapC]⟩
set_option maxHeartbeats 4000000 in
theorem len64_any (w : World) (x : Nat) (h : x < 65536) : Calls Tryd.prog 99 #[.int .u64 (x : Int)] w fun e w' => (∃ L : Nat, e = .returned (.int .i64 (L : Int))) ∧ w = w' := by
  have d1 : decide ((4294967296 : Int) ≤ (x : Int)) = false := by simp; omega
  have d2 : decide ((65536 : Int) ≤ (x : Int)) = false := by simp; omega
  by_cases h3 : 256 ≤ x
  · have d3 : decide ((256 : Int) ≤ (x : Int)) = true := by simp; omega
    go_enter Tryd.func99, Tryd.ntmps99
    go_wp2
    go_ret
    exact ⟨ret_wrapB _, rfl⟩
  · have d3 : decide ((256 : Int) ≤ (x : Int)) = false := by simp; omega
    go_enter Tryd.func99, Tryd.ntmps99
    go_wp2
    go_ret
    exact ⟨ret_wrapC _, rfl⟩
set_option maxHeartbeats 4000000 in
theorem len_any (w : World) (x : Nat) (h : x < 65536) : Calls Tryd.prog 86 #[.int .u64 (x : Int)] w fun e w' => (∃ L : Nat, e = .returned (.int .i64 (L : Int))) ∧ w = w' := by
  have HX := Lib.hid (len64_any w x h)
  go_enter Tryd.func86, Tryd.ntmps86
  go_wp2_with fail
  refine HX.out.mono ?_
  rintro e w' ⟨⟨L, rfl⟩, rfl⟩
  go_wp2
  go_ret
  exact ⟨⟨L, rfl⟩, rfl⟩
end Go.Proofs.YtchjijifmjbgoaaDoor.Tn
