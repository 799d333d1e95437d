import Derived.Test.YtmlkgbfaamdapaaDoorHd
namespace Go.Proofs.YtmlkgbfaamdapaaDoor
open Go.ChangeShapes Go.WideShapes Go.ChangeAt Go.RowKit

theorem hexV_digI : ∀ n : Nat, n < 16 → hexV (digI n) = n := by decide +kernel
theorem hexV_none (c : Int) (h : ∀ j : Nat, j < 16 → digI j ≠ c) : hexV c = -1 := by
  unfold hexV
  split
  · rename_i h1
    exfalso
    refine h (c - 48).toNat (by omega) ?_
    unfold digI
    rw [if_pos (by omega)]
    omega
  · split
    · rename_i h1
      exfalso
      refine h (c - 87).toNat (by omega) ?_
      unfold digI
      rw [if_neg (by omega)]
      omega
    · rfl

set_option maxRecDepth 100000 in
theorem digit_any (c : Int) (w : World) : Calls Tryd.prog 25 #[.int .u8 c] w fun e w' => e = .returned (.int .i64 (hexV c)) ∧ w = w' := by
  go_enter Tryd.func25, Tryd.ntmps25
  go_wp2
  go_loop [3] (fun i => ∃ n : Nat, n ≤ 16 ∧ i = .int .i64 n ∧ ∀ j : Nat, j < n → digI j ≠ c) (fun i => 16 - (intOf i).toNat)
  case atStart => exact ⟨0, by omega, rfl, fun j hj => absurd hj (by omega)⟩
  case round =>
    obtain ⟨n, hn, rfl, hno⟩ := hrel
    have HN := Lib.hid hno
    clear hno
    by_cases hlt : n < 16
    · have hdt : decide ((n : Int) < 16) = true := by simp; omega
      have i1 : ∀ w, (Instr.index 9 (.string ⟨#[48, 49, 50, 51, 52, 53, 54, 55, 56, 57, 97, 98, 99, 100, 101, 102]⟩) (.int .i64 (n : Int))).run Tryd.prog w = .ok (.int .u8 (digI n)) w := run_digit .i64 n (by omega) (by omega)
      obtain ⟨x, hx⟩ : ∃ x, digI n = x := ⟨_, rfl⟩
      rw [hx] at i1
      have HX := Lib.hid hx
      clear hx
      by_cases he : x = c
      · have hb : (x == c) = true := by simpa using he
        have HEq := Lib.hid he
        clear he
        go_wp2
        go_ret
        have hv : hexV c = n := by rw [← HEq.out, ← HX.out]; exact hexV_digI n hlt
        exact ⟨by rw [hv]; rfl, rfl⟩
      · have hb : (x == c) = false := by simpa using he
        have HEq := Lib.hid he
        clear he
        go_wp2
        go_round
        case rel =>
          refine ⟨n + 1, by omega, by go_num, fun j hj => ?_⟩
          by_cases hjn : j < n
          · exact HN.out j hjn
          · obtain rfl : j = n := by omega
            rw [HX.out]
            exact HEq.out
        case measure => simp [intOf]; omega
    · obtain rfl : n = 16 := by omega
      rw [show ((16 : Nat) : Int) = 16 from rfl]
      have hdf : decide ((16 : Int) < 16) = false := by decide
      go_wp2
      go_ret
      exact ⟨by rw [hexV_none c HN.out]; rfl, rfl⟩
end Go.Proofs.YtmlkgbfaamdapaaDoor
