import Derived.Test.YtchjijifmjbgoaaDoorGm
namespace Go.Proofs.YtchjijifmjbgoaaDoor.Tn
open Go.ChangeShapes Go.WideShapes Go.ChangeAt Go.RowKit Go.Proofs.YtchjijifmjbgoaaDoor.Fx Go.Proofs.YtchjijifmjbgoaaDoor.Rf

/-! ### the document's answer: what is wrong, and a row times a vector -/
def wB (n : Int) : Bool := decide (isW n)
theorem wB_yes {n : Int} (h : isW n) : wB n = true := by unfold wB; simpa using h
theorem wB_no {n : Int} (h : ¬ isW n) : wB n = false := by unfold wB; simpa using h
set_option maxRecDepth 100000 in
set_option maxHeartbeats 4000000 in
theorem weight_any (w : World) (n : Int) : Calls Tryd.prog 34 #[.int .i64 n] w fun e w' => e = .returned (.bool (wB n)) ∧ w = w' := by
  by_cases h1 : -16777216 ≤ n
  · by_cases h2 : n ≤ 16777216
    · rw [wB_yes ⟨h1, h2⟩]
      have d1 : decide (-16777216 ≤ n) = true := by simpa using h1
      have d2 : decide (n ≤ 16777216) = true := by simpa using h2
      go_enter Tryd.func34, Tryd.ntmps34
      go_wp2
      go_ret
      exact ⟨rfl, rfl⟩
    · rw [wB_no (fun h => h2 h.2)]
      have d1 : decide (-16777216 ≤ n) = true := by simpa using h1
      have d2 : decide (n ≤ 16777216) = false := by simpa using h2
      go_enter Tryd.func34, Tryd.ntmps34
      go_wp2
      go_ret
      exact ⟨rfl, rfl⟩
  · rw [wB_no (fun h => h1 h.1)]
    have d1 : decide (-16777216 ≤ n) = false := by simpa using h1
    go_enter Tryd.func34, Tryd.ntmps34
    go_wp2
    go_ret
    exact ⟨rfl, rfl⟩
set_option maxRecDepth 100000 in
set_option maxHeartbeats 4000000 in
theorem told_any (w : World) (v : Int) : Calls Tryd.prog 42 #[.int .i64 v] w fun e w' => e = .returned (.tuple #[.int .i64 (orNil v), .int .i64 (over v)]) ∧ w = w' := by
  unfold orNil over
  by_cases h : isN v
  · rw [if_pos h, if_pos h]
    have HI := Lib.hid (isB_yes h)
    clear h
    go_enter Tryd.func42, Tryd.ntmps42
    go_wp2_with fail
    refine (is_any _ v).mono ?_
    rintro e w' ⟨rfl, rfl⟩
    rw [HI.out]
    go_wp2
    go_ret2
    exact ⟨rfl, rfl⟩
  · rw [if_neg h, if_neg h]
    have HI := Lib.hid (isB_no h)
    clear h
    go_enter Tryd.func42, Tryd.ntmps42
    go_wp2_with fail
    refine (is_any _ v).mono ?_
    rintro e w' ⟨rfl, rfl⟩
    rw [HI.out]
    go_wp2
    go_ret2
    exact ⟨rfl, rfl⟩
set_option maxRecDepth 100000 in
set_option maxHeartbeats 4000000 in
theorem rcheck_any (w : World) (sp : Option Addr) (cap N : Nat) (l : List Int) (hN : l.length = N) (hl : Nums w sp cap l) :
    Calls Tryd.prog 17 #[.slice sp N cap] w fun e w' => e = .returned (.int .i64 (chkV l)) ∧ w = w' := by
  have hNm : N ≤ 9223372036854775807 := by rw [← hN]; exact hl.len
  have HL := Lib.hid hl
  have HN := Lib.hid hN
  unfold chkV
  rw [hN]
  by_cases hs : N < 1 ∨ 512 < N
  · rw [if_pos hs]
    by_cases h1 : N < 1
    · have d1 : decide ((N : Int) < 1) = true := by simp; omega
      clear hl hN hs h1
      go_enter Tryd.func17, Tryd.ntmps17
      go_wp2
      go_ret
      exact ⟨rfl, rfl⟩
    · have d1 : decide ((N : Int) < 1) = false := by simp; omega
      have d2 : decide ((512 : Int) < (N : Int)) = true := by simp; omega
      clear hl hN hs
      go_enter Tryd.func17, Tryd.ntmps17
      go_wp2
      go_ret
      exact ⟨rfl, rfl⟩
  · rw [if_neg hs]
    have d1 : decide ((N : Int) < 1) = false := by simp; omega
    have d2 : decide ((512 : Int) < (N : Int)) = false := by simp; omega
    by_cases ha : ∀ x ∈ l, isN x
    · rw [if_pos ha]
      have HA := Lib.hid (fun i hi => in_of (p := isN) ha i hi)
      clear hl hN hs ha
      go_enter Tryd.func17, Tryd.ntmps17
      go_wp2
      go_loop [3] (fun i => ∃ k : Nat, k ≤ N ∧ i = .int .i64 k) (fun i => N - (intOf i).toNat)
      case atStart => exact ⟨0, by omega, rfl⟩
      case round =>
        obtain ⟨k, hk, rfl⟩ := hrel
        by_cases hlt : k < N
        · have hdt : decide (k < N) = true := by simp; omega
          obtain ⟨c, o, rfl, hc⟩ := HL.out.at_ k (by rw [HN.out]; exact hlt)
          have HI := Lib.hid (isB_yes (HA.out k (by rw [HN.out]; exact hlt)))
          obtain ⟨x, hx⟩ : ∃ x, l.getD k 0 = x := ⟨_, rfl⟩
          rw [hx] at hc HI
          clear hx
          go_wp2_with fail
          refine (is_any _ x).mono ?_
          rintro e w' ⟨rfl, rfl⟩
          rw [HI.out]
          go_wp2
          go_round
          case rel => exact ⟨k + 1, by omega, by go_num⟩
          case measure => simp [intOf]; omega
        · have hdf : decide (k < N) = false := by simp; omega
          go_wp2
          go_ret
          exact ⟨rfl, rfl⟩
    · rw [if_neg ha]
      obtain ⟨j, hj, hb, hg⟩ := not_in (p := isN) ha
      rw [hN] at hj
      have HB := Lib.hid hb
      have HG := Lib.hid hg
      clear hl hN hs ha hb hg
      go_enter Tryd.func17, Tryd.ntmps17
      go_wp2
      go_loop [3] (fun i => ∃ k : Nat, k ≤ j ∧ i = .int .i64 k) (fun i => N - (intOf i).toNat)
      case atStart => exact ⟨0, by omega, rfl⟩
      case round =>
        obtain ⟨k, hk, rfl⟩ := hrel
        have hlt : k < N := by omega
        have hdt : decide (k < N) = true := by simp; omega
        obtain ⟨c, o, rfl, hc⟩ := HL.out.at_ k (by rw [HN.out]; exact hlt)
        by_cases hkj : k = j
        · subst hkj
          have HI := Lib.hid (isB_no HB.out)
          obtain ⟨x, hx⟩ : ∃ x, l.getD k 0 = x := ⟨_, rfl⟩
          rw [hx] at hc HI
          clear hx
          go_wp2_with fail
          refine (is_any _ x).mono ?_
          rintro e w' ⟨rfl, rfl⟩
          rw [HI.out]
          go_wp2
          go_ret
          exact ⟨rfl, rfl⟩
        · have hk2 : k < j := by omega
          have HI := Lib.hid (isB_yes (HG.out k hk2))
          obtain ⟨x, hx⟩ : ∃ x, l.getD k 0 = x := ⟨_, rfl⟩
          rw [hx] at hc HI
          clear hx hkj
          go_wp2_with fail
          refine (is_any _ x).mono ?_
          rintro e w' ⟨rfl, rfl⟩
          rw [HI.out]
          go_wp2
          go_round
          case rel => exact ⟨k + 1, by omega, by go_num⟩
          case measure => simp [intOf]; omega
end Go.Proofs.YtchjijifmjbgoaaDoor.Tn
