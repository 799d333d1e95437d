import Derived.Test.YtpaffncdfldnmaaDoorChecked
import Derived.Test.YtpaffncdfldnmaaDoorS
import Derived.StillTailTactics
import Derived.BigRegion
import Derived.BigQuiet
import Derived.Deep.QuietTactic
namespace Go.Proofs.YtpaffncdfldnmaaDoor
open Go.ChangeShapes Go.WideShapes Go.ChangeAt Go.RowKit

theorem rot32 (x k : Int) (w : World) (h1 : 1 ≤ k) (h2 : k ≤ 31) :
    Calls Tryd.prog 46 #[.int .u32 x, .int .i64 (-k)] w fun e w' => e = .returned (.int .u32 (rotr x k)) ∧ w = w' := by
  have hm : bits .and .u64 (IntKind.u64.wrap (-k)) 31 = 32 - k := by
    obtain ⟨n, rfl⟩ := Int.eq_ofNat_of_zero_le (show 0 ≤ k by omega)
    exact mask_neg n (by omega) (by omega)
  have hp : IntKind.u64.wrap (32 - k) = 32 - k := by simp [IntKind.wrap, IntKind.bits, IntKind.signed]; omega
  have hs : IntKind.u64.wrap (32 - (32 - k)) = k := by simp [IntKind.wrap, IntKind.bits, IntKind.signed]; omega
  have b1 : 0 ≤ 32 - k := by omega
  have b2 : 32 - k ≤ 32 := by omega
  go_enter Tryd.func46, Tryd.ntmps46
  go_wp2
  go_ret
  exact ⟨rfl, rfl⟩
theorem rot31 (x k : Int) (w : World) (h1 : 1 ≤ k) (h2 : k ≤ 31) :
    Calls Tryd.prog 45 #[.int .u32 x, .int .i64 k] w fun e w' => e = .returned (.int .u32 (rotr x k)) ∧ w = w' := by
  go_enter Tryd.func45, Tryd.ntmps45
  go_wp2_with (go_at_call 46; refine (rot32 _ _ _ h1 h2).mono ?_; rintro e w' ⟨rfl, rfl⟩)
  go_ret
  exact ⟨rfl, rfl⟩
theorem rot36 (x k : Int) (w : World) (h1 : 1 ≤ k) (h2 : k ≤ 31) :
    Calls Tryd.prog 49 #[.int .u32 x, .int .i64 k] w fun e w' => e = .returned (.int .u32 (rotr x k)) ∧ w = w' := by
  go_enter Tryd.func49, Tryd.ntmps49
  go_wp2_with (go_at_call 46; refine (rot32 _ _ _ h1 h2).mono ?_; rintro e w' ⟨rfl, rfl⟩)
  go_ret
  exact ⟨rfl, rfl⟩


theorem size66 : (Tryd.prog.info? 84).map (·.size) = some 64 := by kernel_rfl

set_option maxRecDepth 100000 in
set_option maxHeartbeats 4000000 in
theorem spread0 (c o : Nat) (w : World) (l : List Int) (hl : l.length = 64) (hd : ∀ i, i < 64 → w.cell? ⟨c, o + i, none⟩ = some (.int .u8 (l.getD i 0))) (hc : c < w.heap.size) :
    Calls Tryd.prog 47 #[.slice (some ⟨c, o, none⟩) 64 64] w fun e w' => e = .returned (.agg (rowOf 64 (words l))) ∧ Below w.heap.size w w' := by
  have HL := Lib.hid hl
  have HD := Lib.hid hd
  clear hl hd
  go_enter Tryd.func47, Tryd.ntmps47
  go_wp2
  go_loopw [12] (fun i wr => ∃ k : Nat, k ≤ 16 ∧ i = .int .i64 k ∧ Sp w (rowOf 64 (first l k)) wr) (fun i _ => 16 - (intOf i).toNat)
  case atStart => exact ⟨0, by omega, rfl, Sp.start w _ _ (by kernel_rfl) (by kernel_rfl)⟩
  case round =>
    obtain ⟨k, hk, rfl, hsp⟩ := hrel
    by_cases hlt : k < 16
    · have d0 : wr.cell? ⟨c, o + 4 * k, none⟩ = _ := (hsp.below.cell (p := ⟨c, o + (4 * k), none⟩) hc).trans (HD.out (4 * k) (by omega))
      have d1 : wr.cell? ⟨c, o + 4 * k + 1, none⟩ = _ := (hsp.below.cell (p := ⟨c, o + (4 * k + 1), none⟩) hc).trans (HD.out (4 * k + 1) (by omega))
      have d2 : wr.cell? ⟨c, o + 4 * k + 2, none⟩ = _ := (hsp.below.cell (p := ⟨c, o + (4 * k + 2), none⟩) hc).trans (HD.out (4 * k + 2) (by omega))
      have d3 : wr.cell? ⟨c, o + 4 * k + 3, none⟩ = _ := (hsp.below.cell (p := ⟨c, o + (4 * k + 3), none⟩) hc).trans (HD.out (4 * k + 3) (by omega))
      have e4 : 4 * k + 4 - 4 * k = 4 := by omega
      have hfl := first_length l k
      obtain ⟨v0, s0⟩ := hsp.some (by omega) k (by omega)
      have f0 := hsp.free k
      have HF := Lib.hid hfl
      clear hfl
      go_wp2
      go_still_tail 23, (by kernel_rfl)
      change wpList _ _ _ _ _ wr.drew
      go_wp2
      go_roundw
      case rel => exact ⟨k + 1, by omega, by go_num, (hsp.put (by rw [HF.out]; omega) k HF.out.symm _).drew⟩
      case measure => simp [intOf]; omega
    · obtain rfl : k = 16 := by omega
      clear hk hlt
      have hfl := first_length l 16
      have HF := Lib.hid hfl
      clear hfl
      rw [show ((16 : Nat) : Int) = 16 from rfl]
      go_wp2
      go_loopw [7] (fun i wr => ∃ t : Nat, 16 ≤ t ∧ t ≤ 64 ∧ i = .int .i64 t ∧ Sp w (rowOf 64 (ext (first l 16) (t - 16))) wr) (fun i _ => 64 - (intOf i).toNat)
      case atStart => exact ⟨16, by omega, by omega, rfl, hsp⟩
      case round =>
        clear hsp
        obtain ⟨t, hk0, hk, rfl, hsp⟩ := hrel
        by_cases hlt : t < 64
        · have hel := ext_length (first l 16) (t - 16)
          rw [HF.out] at hel
          have hnext : ext (first l 16) (t - 16 + 1) = ext (first l 16) (t - 16) ++ [next (ext (first l 16) (t - 16)) (t - 16)] := rfl
          generalize ext (first l 16) (t - 16) = ws at hsp hel hnext
          have HE := Lib.hid hel
          have HN := Lib.hid hnext
          clear hel hnext
          obtain ⟨x1, h1⟩ : ∃ x, ws.getD (t - 15) 0 = x := ⟨_, rfl⟩
          obtain ⟨x2, h2⟩ : ∃ x, ws.getD (t - 2) 0 = x := ⟨_, rfl⟩
          obtain ⟨x3, h3⟩ : ∃ x, ws.getD (t - 7) 0 = x := ⟨_, rfl⟩
          obtain ⟨x4, h4⟩ : ∃ x, ws.getD (t - 16) 0 = x := ⟨_, rfl⟩
          have c1 := hsp.cell (t - 15) (by rw [HE.out]; omega)
          have c2 := hsp.cell (t - 2) (by rw [HE.out]; omega)
          rw [h1] at c1
          rw [h2] at c2
          have H1 := Lib.hid h1
          have H2 := Lib.hid h2
          have H3 := Lib.hid h3
          have H4 := Lib.hid h4
          clear h1 h2 h3 h4
          go_wp2
          go_quiet (fail)
          clear c1 c2
          have hsp2 := hsp.drewN nq
          clear hsp
          generalize wr.drewN nq = w2 at hsp2
          clear nq wr
          go_wp2_with (go_at_call 49; refine (rot36 _ _ _ (by omega) (by omega)).mono ?_; rintro e w' ⟨rfl, rfl⟩)
          have c3 := hsp2.cell (t - 7) (by rw [HE.out]; omega)
          have c4 := hsp2.cell (t - 16) (by rw [HE.out]; omega)
          obtain ⟨v0, s0⟩ := hsp2.some (by rw [HE.out]; omega) t (by omega)
          have f0 := hsp2.free t
          rw [H3.out] at c3
          rw [H4.out] at c4
          go_region
          go_wp2
          clear c3 c4 s0 f0
          go_roundw
          case rel =>
            refine ⟨t + 1, by omega, by omega, by go_num, ?_⟩
            rw [show t + 1 - 16 = t - 16 + 1 from by omega, HN.out]
            have := (hsp2.put (by rw [HE.out]; omega) t (by rw [HE.out]; omega) (next ws (t - 16))).drew
            unfold next sig0 sig1 at this
            rw [show t - 16 + 14 = t - 2 from by omega, show t - 16 + 9 = t - 7 from by omega, show t - 16 + 1 = t - 15 from by omega, H1.out, H2.out, H3.out, H4.out] at this
            unfold next sig0 sig1
            rw [show t - 16 + 14 = t - 2 from by omega, show t - 16 + 9 = t - 7 from by omega, show t - 16 + 1 = t - 15 from by omega, H1.out, H2.out, H3.out, H4.out]
            exact this
          case measure => simp [intOf]; omega
        · obtain rfl : t = 64 := by omega
          clear hk hk0 hlt
          have hws : ext (first l 16) (64 - 16) = words l := rfl
          rw [hws] at hsp
          have hwl := Lib.hid (words_length l)
          obtain ⟨ws, hW⟩ : ∃ ws, words l = ws := ⟨_, rfl⟩
          rw [hW] at hsp hwl
          have HW := Lib.hid hW
          clear hW
          have hz : (Tryd.prog.info? 84).map (·.size) = some (rowOf 64 ws).size := by rw [rowOf_size _ _ (by rw [hwl.out]; omega)]; exact size66
          have HZ := Lib.hid hz
          have HY := Lib.hid (show (rowOf 64 []).size = (rowOf 64 ws).size by rw [rowOf_size 64 ws (by rw [hwl.out]; omega)]; rfl)
          have HX := Lib.hid (rowOf_one 64 ws)
          clear hz hws
          rw [show ((64 : Nat) : Int) = 64 from rfl]
          go_wp2_with (first
            | (refine wpList_load_row rfl 84 (.tmp 4) rfl (w.heap.size + 1) rfl 84 (rowOf 64 ws) (0, 0) _ hsp.row Tryd.underlying84 rfl HZ.out ?_)
            | (refine wpList_store_row rfl 84 (.tmp 2) (.tmp 97) rfl w.heap.size (rowOf 64 ws) rfl rfl 84 _ hsp.res HZ.out HY.out HX.out ?_))
          refine bodyPost_ret (v := .agg (rowOf 64 ws)) (results_cell_row Tryd.results47 _ _ w.heap.size 84 (rowOf 64 ws) (0, 0) _ rfl (setRow_heap _ _ _ _ _ _ hsp.res) Tryd.underlying84 rfl HZ.out) rfl ⟨?_, below_setRow hsp.below (Nat.le_refl _) _⟩
          rw [HW.out]
end Go.Proofs.YtpaffncdfldnmaaDoor
