import Derived.Test.YtmlkgbfaamdapaaDoorHc
namespace Go.Proofs.YtmlkgbfaamdapaaDoor
open Go.ChangeShapes Go.WideShapes Go.ChangeAt Go.RowKit

set_option maxRecDepth 100000 in
set_option maxHeartbeats 2000000 in
theorem unhex_short (w : World) (s : ByteArray) (hs : s.size ≠ 64) (_hm : s.size ≤ 100) :
    Calls Tryd.prog 16 #[.string s] w fun e w' => e = .returned (.tuple #[.agg (rowB (zs 32)), .int .i64 11]) ∧ Below w.heap.size w w' := by
  have hne : ((s.size : Int) != 64) = true := by rw [bne_iff_ne]; omega
  have HZ := Lib.hid rowz32
  have HX := Lib.hid (rowB_one (zs 32))
  have HR : Hid (∀ Y, ((w.alloc (.cells (rowB (zs 32)) 25)).alloc Y).heap[w.heap.size]? = some (.cells (rowB (zs 32)) 25 (0, 0))) := fun Y => heap_alloc2_old _ _ _
  clear hs
  have hz25 : ∀ w, (zeroValue 25).run Tryd.prog w = .ok (.agg (rowB (zs 32))) w := fun _ => by kernel_rfl
  go_enter Tryd.func16, Tryd.ntmps16
  go_wp2_with (first
    | (refine wpList_build25 rfl rfl ?_)
    | (refine wpList_store_row rfl 25 (.tmp 2) (.tmp 11) rfl w.heap.size (rowB (zs 32)) rfl rfl 25 _ (HR.out _) HZ.out rfl HX.out ?_))
  exact bodyPost_ret (v := .tuple #[.agg (rowB (zs 32)), .int .i64 11]) (results_two Tryd.results16 _ _ w.heap.size 25 (rowB (zs 32)) (0, 0) _ _ rfl rfl (setRow_heap _ _ _ _ _ _ (HR.out _)) Tryd.underlying25 rfl HZ.out) rfl ⟨rfl, below_setRow (((Below.refl _ _).alloc (Nat.le_refl _) _).alloc (by simp) _) (Nat.le_refl _) _⟩

/-- what Unhex answers of 64 letters -/
def Unhexed (w : World) (s : ByteArray) (e : Ending) (w' : World) : Prop :=
  (good s 32 → e = .returned (.tuple #[.agg (rowB (un s 32)), .int .i64 0])) ∧ (¬ good s 32 → e = .returned (.tuple #[.agg (rowB (zs 32)), .int .i64 11])) ∧ Below w.heap.size w w'

set_option maxRecDepth 100000 in
set_option maxHeartbeats 2000000 in
theorem unhex_64 (w : World) (s : ByteArray) (hs : s.size = 64) : Calls Tryd.prog 16 #[.string s] w (Unhexed w s) := by
  have hne : ((s.size : Int) != 64) = false := by rw [hs]; decide
  have HS := Lib.hid hs
  have HZ := Lib.hid rowz32
  have HX := Lib.hid (rowB_one (zs 32))
  clear hs
  have hz25 : ∀ w, (zeroValue 25).run Tryd.prog w = .ok (.agg (rowB (zs 32))) w := fun _ => by kernel_rfl
  go_enter Tryd.func16, Tryd.ntmps16
  go_wp2
  go_loopw [12] (fun i wr => ∃ n : Nat, n ≤ 32 ∧ i = .int .i64 n ∧ good s n ∧ Two w 25 (zs 32) (un s n) 25 wr) (fun i _ => 32 - (intOf i).toNat)
  case atStart => exact ⟨0, by omega, rfl, fun i hi => absurd hi (by omega), Two.start w 25 25 _ _ _ _ rfl rfl⟩
  case round =>
    obtain ⟨n, hn, rfl, hgd, ht⟩ := hrel
    have HG : Hid (good s n) := hgd
    clear hgd
    by_cases hlt : n < 32
    · have hdt : decide ((n : Int) < 32) = true := by simp; omega
      have i1 := run_at s .i64 (2 * (n : Int)) (2 * n) (by omega) (by rw [HS.out]; omega)
      have i2 := run_at s .i64 (2 * (n : Int) + 1) (2 * n + 1) (by omega) (by rw [HS.out]; omega)
      obtain ⟨b0, b1⟩ := sv_byte s (2 * n)
      obtain ⟨b2, b3⟩ := sv_byte s (2 * n + 1)
      have hsn : un s (n + 1) = (un s n).set n (16 * hexV (sv s (2 * n)) + hexV (sv s (2 * n + 1))) := rfl
      have HL := Lib.hid (un_length s n)
      have hl1 := hexV_lt (sv s (2 * n))
      have hl2 := hexV_lt (sv s (2 * n + 1))
      obtain ⟨x, hx⟩ : ∃ x, sv s (2 * n) = x := ⟨_, rfl⟩
      obtain ⟨y, hy⟩ : ∃ y, sv s (2 * n + 1) = y := ⟨_, rfl⟩
      rw [hx] at i1 b0 b1 hsn hl1
      rw [hy] at i2 b2 b3 hsn hl2
      obtain ⟨u, hu⟩ : ∃ u, hexV x = u := ⟨_, rfl⟩
      obtain ⟨v, hv⟩ : ∃ v, hexV y = v := ⟨_, rfl⟩
      rw [hu] at hsn hl1
      rw [hv] at hsn hl2
      have HSN := Lib.hid hsn
      have HU := Lib.hid hu
      have HV := Lib.hid hv
      have HXx := Lib.hid hx
      have HYy := Lib.hid hy
      clear hsn hu hv hx hy
      have hum : -1 ≤ u := by rw [← HU.out]; unfold hexV; split <;> (try split) <;> omega
      have hvm : -1 ≤ v := by rw [← HV.out]; unfold hexV; split <;> (try split) <;> omega
      have c24 : ∀ w, Calls Tryd.prog 24 #[.string ⟨#[48, 49, 50, 51, 52, 53, 54, 55, 56, 57, 97, 98, 99, 100, 101, 102]⟩, .int .u8 x] w fun e w' => e = .returned (.int .i64 u) ∧ w = w' := fun w => by rw [← HU.out]; exact idx_any x b0 b1 w
      have c24' : ∀ w, Calls Tryd.prog 24 #[.string ⟨#[48, 49, 50, 51, 52, 53, 54, 55, 56, 57, 97, 98, 99, 100, 101, 102]⟩, .int .u8 y] w fun e w' => e = .returned (.int .i64 v) ∧ w = w' := fun w => by rw [← HV.out]; exact idx_any y b2 b3 w
      have C24 := Lib.hid c24
      have C24' := Lib.hid c24'
      clear c24 c24'
      by_cases hbad : u < 0 ∨ v < 0
      · have hng : ¬ good s 32 := fun h => by
          have := h n hlt
          rw [HXx.out, HYy.out, HU.out, HV.out] at this
          omega
        have HNG := Lib.hid hng
        have HQ := Lib.hid ht.res
        have HBl := Lib.hid ht.fl.below
        clear hng ht hl1 hl2
        by_cases hu0 : u < 0
        · have d1 : decide (u < 0) = true := by simp; omega
          go_wp2_with fail
          refine (C24.out _).mono ?_
          rintro e w' ⟨rfl, rfl⟩
          go_wp2_with fail
          refine (C24'.out _).mono ?_
          rintro e w' ⟨rfl, rfl⟩
          go_wp2_with (first
            | (refine wpList_build25 rfl rfl ?_)
            | (refine wpList_store_row rfl 25 (.tmp 2) (.tmp 32) rfl w.heap.size (rowB (zs 32)) rfl rfl 25 _ HQ.out HZ.out rfl HX.out ?_))
          exact bodyPost_ret (v := .tuple #[.agg (rowB (zs 32)), .int .i64 11]) (results_two Tryd.results16 _ _ w.heap.size 25 (rowB (zs 32)) (0, 0) _ _ rfl rfl (setRow_heap _ _ _ _ _ _ HQ.out) Tryd.underlying25 rfl HZ.out) rfl ⟨fun h => absurd h HNG.out, fun _ => rfl, below_setRow HBl.out (Nat.le_refl _) _⟩
        · have d1 : decide (u < 0) = false := by simp; omega
          have d2 : decide (v < 0) = true := by simp; omega
          go_wp2_with fail
          refine (C24.out _).mono ?_
          rintro e w' ⟨rfl, rfl⟩
          go_wp2_with fail
          refine (C24'.out _).mono ?_
          rintro e w' ⟨rfl, rfl⟩
          go_wp2_with (first
            | (refine wpList_build25 rfl rfl ?_)
            | (refine wpList_store_row rfl 25 (.tmp 2) (.tmp 32) rfl w.heap.size (rowB (zs 32)) rfl rfl 25 _ HQ.out HZ.out rfl HX.out ?_))
          exact bodyPost_ret (v := .tuple #[.agg (rowB (zs 32)), .int .i64 11]) (results_two Tryd.results16 _ _ w.heap.size 25 (rowB (zs 32)) (0, 0) _ _ rfl rfl (setRow_heap _ _ _ _ _ _ HQ.out) Tryd.underlying25 rfl HZ.out) rfl ⟨fun h => absurd h HNG.out, fun _ => rfl, below_setRow HBl.out (Nat.le_refl _) _⟩
      · have hu0 : 0 ≤ u := by omega
        have hv0 : 0 ≤ v := by omega
        have hu16 := hl1 hu0
        have hv16 := hl2 hv0
        have d1 : decide (u < 0) = false := by simp; omega
        have d2 : decide (v < 0) = false := by simp; omega
        have o1 := or16' u v hu0 hu16 hv0 hv16
        clear hl1 hl2 hbad
        have c1 := ht.fl.cell n (by rw [HL.out]; omega)
        have f1 := ht.fl.free n
        have HT := Lib.hid (ht.put n (16 * u + v))
        clear ht
        go_wp2_with fail
        refine (C24.out _).mono ?_
        rintro e w' ⟨rfl, rfl⟩
        go_wp2_with fail
        refine (C24'.out _).mono ?_
        rintro e w' ⟨rfl, rfl⟩
        go_wp2
        clear c1 f1 d1 d2 o1 i1 i2
        go_roundw
        case rel =>
          refine ⟨n + 1, by omega, by go_num, ?_, by rw [HSN.out]; exact HT.out⟩
          intro i hi
          by_cases hin : i < n
          · exact HG.out i hin
          · obtain rfl : i = n := by omega
            rw [HXx.out, HYy.out, HU.out, HV.out]
            exact ⟨hu0, hv0⟩
        case measure => simp [intOf]; omega
    · obtain rfl : n = 32 := by omega
      clear hn hlt
      rw [show ((32 : Nat) : Int) = 32 from rfl]
      have hdf : decide ((32 : Int) < 32) = false := by decide
      have HL := Lib.hid (un_length s 32)
      have HZ1 := Lib.hid (show (Tryd.prog.info? 25).map (·.size) = some (rowB (un s 32)).size by rw [rowB_size, HL.out]; exact size25)
      have HY1 := Lib.hid (show (rowB (zs 32)).size = (rowB (un s 32)).size by rw [rowB_size, rowB_size, HL.out]; rfl)
      have HX1 := Lib.hid (rowB_one (un s 32))
      have HR := Lib.hid ht.fl.row
      have HQ := Lib.hid ht.res
      have HBl := Lib.hid ht.fl.below
      clear ht
      obtain ⟨D, hD⟩ : ∃ D, un s 32 = D := ⟨_, rfl⟩
      rw [hD] at HZ1 HY1 HX1 HR
      have HDd := Lib.hid hD
      clear hD
      go_wp2_with (first
        | (refine wpList_load_row rfl 25 (.tmp 4) rfl (w.heap.size + 1) rfl 25 (rowB D) (0, 0) _ HR.out Tryd.underlying25 rfl HZ1.out ?_)
        | (refine wpList_store_row rfl 25 (.tmp 2) (.tmp 41) rfl w.heap.size (rowB D) rfl rfl 25 _ HQ.out HZ1.out HY1.out HX1.out ?_))
      exact bodyPost_ret (v := .tuple #[.agg (rowB D), .int .i64 0]) (results_two Tryd.results16 _ _ w.heap.size 25 (rowB D) (0, 0) _ _ rfl rfl (setRow_heap _ _ _ _ _ _ HQ.out) Tryd.underlying25 rfl HZ1.out) rfl ⟨fun _ => by rw [HDd.out], fun h => absurd HG.out h, below_setRow HBl.out (Nat.le_refl _) _⟩
end Go.Proofs.YtmlkgbfaamdapaaDoor
