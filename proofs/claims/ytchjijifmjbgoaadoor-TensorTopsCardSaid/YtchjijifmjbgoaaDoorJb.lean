import Derived.Test.YtchjijifmjbgoaaDoorJa
namespace Go.Proofs.YtchjijifmjbgoaaDoor.Tn
open Go.ChangeShapes Go.WideShapes Go.ChangeAt Go.RowKit Go.Proofs.YtchjijifmjbgoaaDoor.Fx Go.Proofs.YtchjijifmjbgoaaDoor.Rf

/-! ### the landed code: what the tables hold; a row times a vector -/
def deB : List Int := [0, 1, 56, 2, 57, 49, 28, 3, 61, 58, 42, 50, 38, 29, 17, 4, 62, 47, 59, 36, 45, 43, 51, 22, 53, 39, 33, 30, 24, 18, 12, 5, 63, 55, 48, 27, 60, 41, 37, 16, 46, 35, 44, 21, 52, 32, 23, 11, 54, 26, 40, 15, 34, 20, 31, 10, 25, 14, 19, 9, 13, 8, 7, 6]
def rowT (l : List Int) : Array Value := (l.map (Value.int .u8)).toArray
structure E0 (w : World) : Prop where
  steps : Fq.Env w
  tz : ∃ (t : TypeId) (fr : Nat × Nat), w.heap[3]? = some (.cells (rowT deB) t fr)
theorem E0.below {w w' : World} (h : E0 w) (hb : Below w.heap.size w w') : E0 w' := by
  obtain ⟨t, fr, h0⟩ := h.tz
  exact ⟨h.steps.below hb, t, fr, (hb.block _ (Array.getElem?_eq_some_iff.1 h0).1).trans h0⟩
set_option maxRecDepth 100000 in
set_option maxHeartbeats 4000000 in
theorem tz64_any (w : World) (he : E0 w) : Calls Tryd.prog 83 #[.int .u64 65536] w fun e w' => e = .returned (.int .i64 16) ∧ w = w' := by
  obtain ⟨t, fr, h0⟩ := he.tz
  have hc : w.cell? ⟨3, 39, none⟩ = some (.int .u8 16) := by rw [cell_of_row _ _ _ _ _ _ h0]; rfl
  have hq : IntKind.u64.wrap (bits BinOp.and IntKind.u64 65536 (IntKind.u64.wrap (-65536)) * 285870213051353865) / 288230376151711744 = 39 := by decide +kernel
  clear h0 he
  go_enter Tryd.func83, Tryd.ntmps83
  go_wp2
  go_ret
  exact ⟨rfl, rfl⟩
set_option maxRecDepth 100000 in
set_option maxHeartbeats 4000000 in
theorem tz_any (w : World) (he : E0 w) : Calls Tryd.prog 69 #[.int .u64 65536] w fun e w' => e = .returned (.int .i64 16) ∧ w = w' := by
  have HE := Lib.hid he
  clear he
  go_enter Tryd.func69, Tryd.ntmps69
  go_wp2_with fail
  refine (tz64_any _ HE.out).mono ?_
  rintro e w' ⟨rfl, rfl⟩
  go_wp2
  go_ret
  exact ⟨rfl, rfl⟩
set_option maxRecDepth 100000 in
set_option maxHeartbeats 4000000 in
theorem inr_any (w : World) (v : Int) : Calls Tryd.prog 68 #[.int .i64 v] w fun e w' => e = .returned (.tuple #[.int .i64 (orNil v), .int .i64 (over v)]) ∧ Below w.heap.size w w' := by
  unfold orNil over
  by_cases h : isN v
  · rw [if_pos h, if_pos h]
    have H := Lib.hid h
    clear h
    go_enter Tryd.func68, Tryd.ntmps68
    go_wp2_with fail
    refine (Fq.chk_ok _ v H.out).mono ?_
    rintro e w' ⟨rfl, hb⟩
    have HB := Lib.hid hb
    clear hb
    go_wp2
    go_ret2
    exact ⟨rfl, HB.out⟩
  · rw [if_neg h, if_neg h]
    have H := Lib.hid h
    clear h
    go_enter Tryd.func68, Tryd.ntmps68
    go_wp2_with fail
    refine (Fq.chk_no _ v H.out).mono ?_
    rintro e w' ⟨rfl, hb⟩
    have HB := Lib.hid hb
    clear hb
    go_wp2
    go_ret2
    exact ⟨rfl, HB.out⟩
/-- sums of products that are far from where an int ends -/
def Far (a b : List Int) : Prop := ∀ k, -2305843009213693952 ≤ dotS (a.take k) (b.take k) ∧ dotS (a.take k) (b.take k) ≤ 2305843009213693952
set_option maxRecDepth 100000 in
set_option maxHeartbeats 4000000 in
theorem scaled_any (w : World) (sp sq : Option Addr) (cap caq N : Nat) (a b : List Int) (hN : a.length = N) (hM : b.length = N) (ha : Nums w sp cap a) (hb : Nums w sq caq b) (hf : Far a b) (he : E0 w) :
    Calls Tryd.prog 41 #[.slice sp N cap, .slice sq N caq] w fun e w' => e = .returned (.tuple #[.int .i64 (orNil (rnd (dotS a b))), .int .i64 (over (rnd (dotS a b)))]) ∧ Below w.heap.size w w' := by
  have hNm : N ≤ 9223372036854775807 := by rw [← hN]; exact ha.len
  have HA := Lib.hid ha
  have HB := Lib.hid hb
  have HN := Lib.hid hN
  have HM := Lib.hid hM
  have HF : Hid (Far a b) := hf
  have HE := Lib.hid he
  clear ha hb hN hM hf he
  go_enter Tryd.func41, Tryd.ntmps41
  go_wp2
  go_loop [6, 11] (fun s i => ∃ k : Nat, k ≤ N ∧ i = .int .i64 k ∧ s = .int .i64 (32768 + dotS (a.take k) (b.take k))) (fun _ i => N - (intOf i).toNat)
  case atStart => exact ⟨0, by omega, rfl, rfl⟩
  case round =>
    obtain ⟨k, hk, rfl, rfl⟩ := hrel
    have hs := HF.out k
    by_cases hlt : k < N
    · have hdt : decide (k < N) = true := by simp; omega
      obtain ⟨g, o, rfl, hc⟩ := HA.out.at_ k (by rw [HN.out]; exact hlt)
      obtain ⟨g2, q, rfl, hc2⟩ := HB.out.at_ k (by rw [HM.out]; exact hlt)
      have hs2 := HF.out (k + 1)
      have hst := dotS_take a b k (by rw [HN.out]; exact hlt) (by rw [HM.out]; exact hlt)
      rw [hst] at hs2
      have HST := Lib.hid hst
      obtain ⟨x, hx⟩ : ∃ x, a.getD k 0 = x := ⟨_, rfl⟩
      obtain ⟨y, hy⟩ : ∃ x, b.getD k 0 = x := ⟨_, rfl⟩
      obtain ⟨S, hS⟩ : ∃ S, dotS (a.take k) (b.take k) = S := ⟨_, rfl⟩
      rw [hx] at hc hs2 HST
      rw [hy] at hc2 hs2 HST
      rw [hS] at hs hs2 HST ⊢
      obtain ⟨a1, a2⟩ := hs
      obtain ⟨b1, b2⟩ := hs2
      have c1 : -4611686018427387904 ≤ x * y := by omega
      have c2 : x * y ≤ 4611686018427387904 := by omega
      clear hx hy hS hst
      go_wp2
      go_round
      case rel => exact ⟨k + 1, by omega, by go_num, by rw [HST.out, ← Int.add_assoc]⟩
      case measure => simp [intOf]; omega
    · obtain rfl : k = N := by omega
      have hdf : decide (k < k) = false := by simp
      have HT : Hid (dotS (a.take k) (b.take k) = dotS a b) := Lib.hid (by rw [List.take_of_length_le (by rw [HN.out]; omega), List.take_of_length_le (by rw [HM.out]; omega)])
      rw [HT.out] at hs ⊢
      obtain ⟨S, hS⟩ : ∃ S, dotS a b = S := ⟨_, rfl⟩
      rw [hS] at hs ⊢
      have HS := Lib.hid hS
      obtain ⟨a1, a2⟩ := hs
      have HR : Hid ((32768 + S) / 65536 = rnd S) := Lib.hid (by unfold rnd; rw [Int.add_comm])
      clear hS HT
      go_wp2_with fail
      refine (tz_any _ HE.out).mono ?_
      rintro e w' ⟨rfl, rfl⟩
      go_wp2_with fail
      rw [HR.out]
      refine (inr_any _ _).mono ?_
      rintro e w' ⟨rfl, hb⟩
      have HBl := Lib.hid hb
      clear hb
      go_wp2
      go_ret2
      exact ⟨by rw [HS.out]; rfl, HBl.out⟩
end Go.Proofs.YtchjijifmjbgoaaDoor.Tn
