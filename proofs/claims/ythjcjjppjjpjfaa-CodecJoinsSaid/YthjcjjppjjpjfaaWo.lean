import Derived.Test.YthjcjjppjjpjfaaKb
namespace Go.Proofs.Ythjcjjppjjpjfaa
open Go.ChangeShapes Go.WideShapes Go.ChangeAt Go.RowKit

theorem pow8 (k : Nat) : (2 : Int) ^ (8 * k) = 256 ^ k := by rw [Int.pow_mul]; rfl
theorem results_cell_row {P : Program} {fn : Func} {p : Tmp} {ty : TypeId} (h : fn.results = #[.cell p ty]) (tmps : Array Value) (w : World) (g : Nat) (t : TypeId) (cs : Array Value) (fr : Nat × Nat) (d : TypeDesc)
    (hp : tmps.getD p undef = .pointer (some ⟨g, 0, none⟩)) (hg : w.heap[g]? = some (.cells cs t fr))
    (hu : P.underlying ty = some d) (hd : (match d with | .struct _ | .array _ _ => true | _ => false) = true) (hi : (P.info? ty).map (·.size) = some cs.size) :
    (results fn tmps).run P w = .ok (.agg cs) w := by
  have hp' : tmps[p]?.getD undef = .pointer (some ⟨g, 0, none⟩) := by simpa using hp
  simp [results, h, hp', asAddr, run_loadVar_row w g t ty cs fr d hg hu hd hi]
set_option maxRecDepth 100000 in
set_option maxHeartbeats 2000000 in
theorem word_of (n : Int) (w : World) : Calls Try.prog 21 #[.int .i64 n] w fun e w' => e = .returned (.agg (rowB (be 8 n))) ∧ Below w.heap.size w w' := by
  obtain ⟨B, hB⟩ : ∃ B, IntKind.u64.wrap n = B := ⟨_, rfl⟩
  have hBm : be 8 B = be 8 n := by
    rw [← be_mod 8 n, ← hB]
    rfl
  have HBm := Lib.hid hBm
  clear hBm
  go_enter Try.func21, Try.ntmps21
  go_wp2
  have HB := Lib.hid hB
  clear hB
  go_loopw [8] (fun i wr => ∃ k : Nat, k ≤ 8 ∧ i = .int .i64 k ∧ Two w 47 (zs 8) (wk B k) 47 wr) (fun i _ => 8 - (intOf i).toNat)
  case atStart => exact ⟨0, by omega, rfl, Two.start w 47 47 _ _ _ _ rfl rfl⟩
  case round =>
    obtain ⟨k, hk, rfl, ht⟩ := hrel
    by_cases hlt : k < 8
    · have hdt : decide ((k : Int) < 8) = true := by simp; omega
      have hs := wk_set B k hlt
      rw [← pow8] at hs
      have HS := Lib.hid hs
      have HL := Lib.hid (wk_length B k hk)
      clear hs
      obtain ⟨L, hL⟩ : ∃ L, wk B k = L := ⟨_, rfl⟩
      rw [hL] at ht HS HL
      clear hL
      have c1 := ht.fl.cell (7 - k) (by rw [HL.out]; omega)
      have f1 := ht.fl.free (7 - k)
      go_wp2
      clear c1 f1
      go_roundw
      case rel => exact ⟨k + 1, by omega, by go_num, by rw [← HS.out]; exact ht.put (7 - k) _⟩
      case measure => simp [intOf]; omega
    · obtain rfl : k = 8 := by omega
      clear hk hlt
      rw [show ((8 : Nat) : Int) = 8 from rfl]
      have hdf : decide ((8 : Int) < 8) = false := by decide
      rw [wk_all, HBm.out] at ht
      have HL := Lib.hid (be_length 8 n)
      obtain ⟨D, hD⟩ : ∃ D, be 8 n = D := ⟨_, rfl⟩
      rw [hD] at ht HL
      have HD := Lib.hid hD
      clear hD
      have HZ := Lib.hid (show (Try.prog.info? 47).map (·.size) = some (rowB D).size by rw [rowB_size, HL.out]; exact size47)
      have HY := Lib.hid (show (rowB (zs 8)).size = (rowB D).size by rw [rowB_size, rowB_size, HL.out]; rfl)
      have HX := Lib.hid (rowB_one D)
      have HR := Lib.hid ht.fl.row
      have HQ := Lib.hid ht.res
      have HBl := Lib.hid ht.fl.below
      clear ht
      go_wp2_with (first
        | (refine wpList_load_row rfl 47 (.tmp 3) rfl (w.heap.size + 1) rfl 47 (rowB D) (0, 0) _ HR.out Try.underlying47 rfl HZ.out ?_)
        | (refine wpList_store_row rfl 47 (.tmp 2) (.tmp 20) rfl w.heap.size (rowB D) rfl rfl 47 _ HQ.out HZ.out HY.out HX.out ?_))
      exact bodyPost_ret (v := .agg (rowB D)) (results_cell_row Try.results21 _ _ w.heap.size 47 (rowB D) (0, 0) _ rfl (setRow_heap _ _ _ _ _ _ HQ.out) Try.underlying47 rfl HZ.out) rfl ⟨by rw [HD.out], below_setRow HBl.out (Nat.le_refl _) _⟩
end Go.Proofs.Ythjcjjppjjpjfaa
