import Derived.Test.YtpaffncdfldnmaaDoorC
import Derived.Test.YtpaffncdfldnmaaDoorV
namespace Go.Proofs.YtpaffncdfldnmaaDoor
open Go.ChangeShapes Go.WideShapes Go.ChangeAt Go.RowKit

theorem size25 : (Tryd.prog.info? 23).map (·.size) = some 32 := by kernel_rfl

set_option maxRecDepth 100000 in
set_option maxHeartbeats 4000000 in
theorem digest_any (p : Nat) (w : World) (s : St) (r : Array Value) (ty : TypeId) (hp : w.heap[p]? = some (.cells (rowSt s.list r) ty (0, 0))) :
    Calls Tryd.prog 37 #[.pointer (some ⟨p, 0, none⟩)] w fun e w' => e = .returned (.agg (rowB s.digest)) ∧ Below w.heap.size w w' := by
  have hpl : p < w.heap.size := (Array.getElem?_eq_some_iff.1 hp).1
  have HP := Lib.hid hp
  clear hp
  go_enter Tryd.func37, Tryd.ntmps37
  go_wp2
  go_loopw [7] (fun i wr => ∃ n : Nat, n ≤ 8 ∧ i = .int .i64 n ∧ Two w 23 (List.replicate 32 0) (dig s.list n) 23 wr) (fun i _ => 8 - (intOf i).toNat)
  case atStart => exact ⟨0, by omega, rfl, Two.start w 23 23 _ _ _ _ (by kernel_rfl) (by kernel_rfl)⟩
  case round =>
    obtain ⟨n, hn, rfl, ht⟩ := hrel
    by_cases hlt : n < 8
    · have hdt : decide ((n : Int) < 8) = true := by simp; omega
      have c1 := (ht.fl.below.cell (p := ⟨p, n, none⟩) hpl).trans ((cell_of_row _ _ _ _ _ _ HP.out).trans (rowSt_get s.list r n (by show _ < 8; omega)))
      have HL := Lib.hid (dig_length s.list n)
      have hs : dig s.list (n + 1) = ((((dig s.list n).set (4 * n) (s.list.getD n 0 / 16777216 % 256)).set (4 * n + 1) (s.list.getD n 0 / 65536 % 256)).set (4 * n + 2) (s.list.getD n 0 / 256 % 256)).set (4 * n + 3) (s.list.getD n 0 % 256) := rfl
      have HS := Lib.hid hs
      clear hs
      generalize dig s.list n = L at ht HL HS
      obtain ⟨x, hx⟩ : ∃ x, s.list.getD n 0 = x := ⟨_, rfl⟩
      rw [hx] at c1
      have HX := Lib.hid hx
      clear hx
      repeat (first | go_values | go_skip | go_guarded | go_step | go_upon)
      go_quiet (fail)
      clear c1
      have ht1 := ht.drewN nq
      clear ht
      generalize wr.drewN nq = w1 at ht1
      clear nq wr
      have c1 := ht1.fl.cell (4 * n) (by rw [HL.out]; omega)
      have f1 := ht1.fl.free (4 * n)
      have ht2 := ht1.put (4 * n) (x / 16777216 % 256)
      have c2 := ht2.fl.cell (4 * n + 1) (by rw [List.length_set, HL.out]; omega)
      have f2 := ht2.fl.free (4 * n + 1)
      have ht3 := ht2.put (4 * n + 1) (x / 65536 % 256)
      have c3 := ht3.fl.cell (4 * n + 2) (by rw [List.length_set, List.length_set, HL.out]; omega)
      have f3 := ht3.fl.free (4 * n + 2)
      have ht4 := ht3.put (4 * n + 2) (x / 256 % 256)
      have c4 := ht4.fl.cell (4 * n + 3) (by rw [List.length_set, List.length_set, List.length_set, HL.out]; omega)
      have f4 := ht4.fl.free (4 * n + 3)
      have ht5 := ht4.put (4 * n + 3) (x % 256)
      have HT := Lib.hid ht5
      clear ht1 ht2 ht3 ht4 ht5
      go_wp2
      clear c1 f1 c2 f2 c3 f3 c4 f4
      go_roundw
      case rel => exact ⟨n + 1, by omega, by go_num, by rw [HS.out, HX.out]; exact HT.out⟩
      case measure => simp [intOf]; omega
    · obtain rfl : n = 8 := by omega
      clear hn hlt
      rw [show ((8 : Nat) : Int) = 8 from rfl]
      have hdf : decide ((8 : Int) < 8) = false := by decide
      have HL := Lib.hid (dig_length s.list 8)
      have hD : dig s.list 8 = s.digest := rfl
      rw [hD] at ht HL
      clear hD
      have HZ := Lib.hid (show (Tryd.prog.info? 23).map (·.size) = some (rowB s.digest).size by rw [rowB_size, HL.out]; exact size25)
      have HY := Lib.hid (show (rowB (List.replicate 32 0)).size = (rowB s.digest).size by rw [rowB_size, rowB_size, HL.out]; rfl)
      have HX := Lib.hid (rowB_one s.digest)
      have HR := Lib.hid ht.fl.row
      have HQ := Lib.hid ht.res
      have HB := Lib.hid ht.fl.below
      clear ht
      go_wp2_with (first
        | (refine wpList_load_row rfl 23 (.tmp 3) rfl (w.heap.size + 1) rfl 23 (rowB s.digest) (0, 0) _ HR.out Tryd.underlying23 rfl HZ.out ?_)
        | (refine wpList_store_row rfl 23 (.tmp 2) (.tmp 40) rfl w.heap.size (rowB s.digest) rfl rfl 23 _ HQ.out HZ.out HY.out HX.out ?_))
      exact bodyPost_ret (v := .agg (rowB s.digest)) (results_cell_row Tryd.results37 _ _ w.heap.size 23 (rowB s.digest) (0, 0) _ rfl (setRow_heap _ _ _ _ _ _ HQ.out) Tryd.underlying23 rfl HZ.out) rfl ⟨rfl, below_setRow HB.out (Nat.le_refl _) _⟩
end Go.Proofs.YtpaffncdfldnmaaDoor
