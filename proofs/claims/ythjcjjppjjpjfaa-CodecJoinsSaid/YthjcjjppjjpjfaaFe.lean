import Derived.Test.YthjcjjppjjpjfaaPi
namespace Go.Proofs.Ythjcjjppjjpjfaa
open Go.ChangeShapes Go.WideShapes Go.ChangeAt Go.RowKit

/-- few pieces, none too long -/
def Few (ls : List (List Int)) : Prop := (∀ l ∈ ls, l.length ≤ 700) ∧ ls.length ≤ 20
instance (ls : List (List Int)) : Decidable (Few ls) := by unfold Few; infer_instance
set_option maxRecDepth 100000 in
set_option maxHeartbeats 2000000 in
theorem few_any (w : World) (sp : Option Addr) (n cp : Nat) (a : List (List Int)) (hn : a.length = n) (ha : Pieces w sp cp a) :
    Calls Try.prog 8 #[.slice sp n cp] w fun e w' => e = .returned (.bool (decide (Few a))) ∧ w = w' := by
  have hnl : n ≤ 9223372036854775807 := by rw [← hn]; exact ha.len
  have HN := Lib.hid hn
  have HA := Lib.hid ha
  clear hn ha
  go_enter Try.func8, Try.ntmps8
  go_wp2
  go_loop [3] (fun i => ∃ k : Nat, k ≤ n ∧ i = .int .i64 k ∧ Hid (∀ l ∈ a.take k, l.length ≤ 700)) (fun i => n - (intOf i).toNat)
  case atStart => exact ⟨0, by omega, rfl, Lib.hid (by simp)⟩
  case round =>
    obtain ⟨k, hk, rfl, HAl⟩ := hrel
    by_cases hlt : k < n
    · have hdt : decide (k < n) = true := by simp; omega
      obtain ⟨c, o, s1, c1, rfl, hc1, hb1⟩ := HA.out.at_ k (by rw [HN.out]; exact hlt)
      have HS1 := Lib.hid (take_snocL a k (by rw [HN.out]; exact hlt))
      have hmem : a.getD k [] ∈ a := by
        have : k < a.length := by rw [HN.out]; exact hlt
        simp [this]
      have HMem := Lib.hid hmem
      obtain ⟨x, hx⟩ : ∃ x, a.getD k [] = x := ⟨_, rfl⟩
      rw [hx] at hc1 HS1 hb1 HMem
      have hbl := hb1.len
      obtain ⟨lx, hlx⟩ : ∃ l, x.length = l := ⟨_, rfl⟩
      rw [hlx] at hc1 hbl
      have HLx := Lib.hid hlx
      clear hx hlx hb1 hmem
      by_cases h7 : 700 < lx
      · have hd : decide ((700 : Int) < (lx : Int)) = true := by simp; omega
        have HNe : Hid (decide (Few a) = false) := Lib.hid (decide_eq_false (fun e => by
          have := e.1 x HMem.out
          rw [HLx.out] at this
          omega))
        go_wp2
        go_ret
        exact ⟨by rw [HNe.out]; rfl, rfl⟩
      · have hd : decide ((700 : Int) < (lx : Int)) = false := by simp; omega
        go_wp2
        go_round
        case rel =>
          refine ⟨k + 1, by omega, by go_num, Lib.hid ?_⟩
          rw [HS1.out]
          intro l hl
          rcases List.mem_append.1 hl with h | h
          · exact HAl.out l h
          · obtain rfl : l = x := by simpa using h
            rw [HLx.out]; omega
        case measure => simp [intOf]; omega
    · obtain rfl : k = n := by omega
      have hdf : decide (k < k) = false := by simp
      have hall : ∀ l ∈ a, l.length ≤ 700 := by
        have := HAl.out
        rwa [List.take_of_length_le (by rw [HN.out]; omega)] at this
      by_cases h20 : k ≤ 20
      · have hd : decide ((k : Int) ≤ 20) = true := by simp; omega
        have HE : Hid (decide (Few a) = true) := Lib.hid (decide_eq_true ⟨hall, by rw [HN.out]; exact h20⟩)
        clear hall
        go_wp2
        go_ret
        exact ⟨by rw [HE.out]; rfl, rfl⟩
      · have hd : decide ((k : Int) ≤ 20) = false := by simp; omega
        have HE : Hid (decide (Few a) = false) := Lib.hid (decide_eq_false (fun h => h20 (by have := h.2; rw [HN.out] at this; exact this)))
        clear hall
        go_wp2
        go_ret
        exact ⟨by rw [HE.out]; rfl, rfl⟩
end Go.Proofs.Ythjcjjppjjpjfaa
