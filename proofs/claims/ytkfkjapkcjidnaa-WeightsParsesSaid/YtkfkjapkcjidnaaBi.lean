import Derived.Test.YtkfkjapkcjidnaaBk
-- from Dh
namespace Go.Proofs.Ytkfkjapkcjidnaa.Bp
set_option maxRecDepth 100000
open Go.ChangeShapes Go.WideShapes Go.ChangeAt Go.RowKit Go.Proofs.Ytkfkjapkcjidnaa.Tn
/-! ### Few, Ints, awake -/
set_option maxHeartbeats 4000000 in
theorem ints_same (w : World) (sp sq : Option Addr) (cap caq N : Nat) (l : List Int) (hN : l.length = N) (hl : Nums w sp cap l) (hm : Nums w sq caq l) :
    Calls Try.prog 43 #[.slice sp N cap, .slice sq N caq] w fun e w' => e = .returned (.bool true) ∧ Below w.heap.size w w' := by
  have hNm : N ≤ 9223372036854775807 := by rw [← hN]; exact hl.len
  have HL := Lib.hid hl
  have HM := Lib.hid hm
  have HN := Lib.hid hN
  clear hl hm hN
  go_enter Try.func43, Try.ntmps43
  go_wp2
  go_loopw [5] (fun i wr => ∃ k m : Nat, k ≤ N ∧ i = .int .i64 k ∧ wr = w.drewN m) (fun i _ => N - (intOf i).toNat)
  case atStart => exact ⟨0, 0, by omega, rfl, rfl⟩
  case round =>
    obtain ⟨k, m, hk, rfl, rfl⟩ := hrel
    by_cases hlt : k < N
    · have hdt : decide (k < N) = true := by simp; omega
      obtain ⟨g, o, rfl, hc⟩ := HL.out.at_ k (by rw [HN.out]; exact hlt)
      obtain ⟨g2, o2, rfl, hc2⟩ := HM.out.at_ k (by rw [HN.out]; exact hlt)
      obtain ⟨x, hx⟩ : ∃ x, l.getD k 0 = x := ⟨_, rfl⟩
      rw [hx] at hc hc2
      have hxx : (x != x) = false := by simp
      clear hx
      go_wp2
      go_quiet (fail)
      go_wp2
      go_roundw
      case rel => exact ⟨k + 1, _, by omega, by go_num, rfl⟩
      case measure => simp [intOf]; omega
    · have hdf : decide (k < N) = false := by simp; omega
      go_wp2
      go_ret
      exact ⟨rfl, below_drewN (Below.refl _ _) _⟩
end Go.Proofs.Ytkfkjapkcjidnaa.Bp
