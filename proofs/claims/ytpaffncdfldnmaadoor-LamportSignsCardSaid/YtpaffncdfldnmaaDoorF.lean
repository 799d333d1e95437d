import Derived.Test.YtpaffncdfldnmaaDoorD
import Derived.Test.YtpaffncdfldnmaaDoorX
namespace Go.Proofs.YtpaffncdfldnmaaDoor
open Go.ChangeShapes Go.WideShapes Go.ChangeAt Go.RowKit

theorem size5 : (Tryd.prog.info? 5).map (·.size) = some 1 := by kernel_rfl

theorem take_len (m p c o cap : Nat) (w : World) (s : St) (r : Array Value) (ty : TypeId) (l : List Int) (hm0 : l.length = m) (hlc : l.length ≤ cap) (hm : cap ≤ maxLen) (hd : Lies w c o l) (hdis : c ≠ p ∨ 8 ≤ o)
    (hp : w.heap[p]? = some (.cells (rowSt s.list r) ty (0, 0))) (hk : Kc w) (hp1 : p ≠ 1) :
    Calls Tryd.prog 24 #[.pointer (some ⟨p, 0, none⟩), .slice (some ⟨c, o, none⟩) m cap] w (Rest w p ty r s c o l) := by
  subst hm0
  exact take_some p c o cap w s r ty l hlc hm hd hdis hp hk hp1

set_option maxRecDepth 100000 in
set_option maxHeartbeats 2000000 in
theorem finish64 (p : Nat) (w : World) (s : St) (r : Array Value) (ty : TypeId) (sp : Option Addr) (cap : Nat) (l : List Int) (n : Nat) (hb : Bytes w sp cap l) (hE : ¬ 64 < l.length + 9) (hn : n ≤ 1152921504606846975)
    (hp : w.heap[p]? = some (.cells (rowSt s.list r) ty (0, 0))) (hk : Kc w) (hp1 : p ≠ 1) :
    Calls Tryd.prog 25 #[.pointer (some ⟨p, 0, none⟩), .slice sp l.length cap, .int .i64 n] w fun e w' => e = .returned (.agg (rowB (fin s l n))) ∧ ∃ s' : St, Un w p ty r s'.list w' := by
  have hpl : p < w.heap.size := (Array.getElem?_eq_some_iff.1 hp).1
  have HP := Lib.hid hp
  have HK : Hid (Kc w) := hk
  have HB := Lib.hid hb
  clear hp hk hb
  obtain ⟨m, hm⟩ : ∃ m, l.length = m := ⟨_, rfl⟩
  have HM := Lib.hid hm
  rw [hm] at hE ⊢
  clear hm
  have hd1 : decide ((64 : Int) < (m : Int) + 1 + 8) = false := by simp; omega
  have hz58 : ∀ w, (zeroValue 68).run Tryd.prog w = .ok (.agg (rowB (zs 128))) w := fun _ => by kernel_rfl
  go_enter Tryd.func25, Tryd.ntmps25
  have hc1 : (l.map (Value.int .u8)).length = Nat.min m 128 := by rw [List.length_map, HM.out]; exact (Nat.min_eq_left (by omega)).symm
  have HC := Lib.hid hc1
  have hc2 : 0 + (l.map (Value.int .u8)).length ≤ ((zs 128).map (Value.int .u8)).length := by rw [List.length_map, HM.out, List.length_map]; show 0 + m ≤ 128; omega
  have HC2 := Lib.hid hc2
  clear hc1 hc2
  go_wp2_with (refine wpList_copy_splice rfl (.tmp 16) (.tmp 17) 38 38 rfl 5 Tryd.underlying38 size5 _ _ 128 128 m cap rfl rfl (w.heap.size + 1) 0 ((zs 128).map (Value.int .u8)) 68 (heap_alloc2_new _ _ _) (l.map (Value.int .u8)) HC.out (HB.out.src (fun _ _ h => cell_alloc2 h) _) HC2.out (map_one l) (w.heap.size + 1) _ (Below.refl _ _) (Nat.le_refl _) ?_)
  intro w1 H1 hb1
  have ht := Two.copied (by kernel_rfl) l H1 hb1
  clear H1 hb1 hz58
  have HQ := Lib.hid (pad0_length l (by rw [HM.out]; omega))
  have c1 := ht.fl.cell m (by rw [HQ.out]; omega)
  have f1 := ht.fl.free m
  go_wp2
  clear c1 f1
  have ht1 := ht.put m 128
  rw [← HM.out] at ht1
  change Two w 23 (zs 32) (pad1 l) 68 _ at ht1
  rw [HM.out] at ht1
  have HQ1 := Lib.hid (pad1_length l (by rw [HM.out]; omega))
  clear ht HQ
  generalize w1.setCell _ _ = w2 at ht1 ⊢
  go_loopw [25] (fun i wr => ∃ k : Nat, k ≤ 8 ∧ i = .int .i64 k ∧ Two w 23 (zs 32) (padn (pad1 l) 64 n k) 68 wr) (fun i _ => 8 - (intOf i).toNat)
  case atStart => exact ⟨0, by omega, rfl, ht1⟩
  case round =>
    clear ht1
    obtain ⟨k, hk, rfl, ht⟩ := hrel
    by_cases hlt : k < 8
    · have hdt : decide ((k : Int) < 8) = true := by simp; omega
      have hs : padn (pad1 l) 64 n (k + 1) = (padn (pad1 l) 64 n k).set (64 - 1 - k) ((n : Int) * 8 / 2 ^ (8 * k) % 256) := rfl
      have HS := Lib.hid hs
      have hpl2 := padn_length (pad1 l) 64 n k
      rw [HQ1.out] at hpl2
      have HL := Lib.hid hpl2
      clear hs hpl2
      generalize padn (pad1 l) 64 n k = L at ht HS HL
      have c1 := ht.fl.cell (64 - 1 - k) (by rw [HL.out]; omega)
      have f1 := ht.fl.free (64 - 1 - k)
      go_wp2
      clear c1 f1
      go_roundw
      case rel => exact ⟨k + 1, by omega, by go_num, by rw [HS.out]; exact ht.put (64 - 1 - k) _⟩
      case measure => simp [intOf]; omega
    · obtain rfl : k = 8 := by omega
      clear hk hlt
      rw [show ((8 : Nat) : Int) = 8 from rfl]
      have hdf : decide ((8 : Int) < 8) = false := by decide
      have hE2 : padE l.length = 64 := by unfold padE; rw [HM.out, if_neg hE]
      have hpd : (padn (pad1 l) 64 n 8).take 64 = padded l n := by unfold padded; rw [hE2]
      have hd := ht.fl.lies 64
      rw [hpd] at hd
      have hpd2 := padded_length l n (by rw [HM.out]; omega)
      rw [hE2] at hpd2
      have HD : Hid (Lies wr (w.heap.size + 1) 0 (padded l n)) := hd
      have HL := Lib.hid hpd2
      have HPr := Lib.hid ((ht.fl.below.block p hpl).trans HP.out)
      have HKr : Hid (Kc wr) := Fl.kc ht.fl.below HK.out
      have HBr := Lib.hid ht.fl.below
      have HRr := Lib.hid ht.res
      have hgs : w.heap.size + 1 < wr.heap.size := (Array.getElem?_eq_some_iff.1 ht.fl.row).1
      clear ht hd hpd hpd2 hE2
      go_wp2_with fail
      refine (take_len 64 p (w.heap.size + 1) 0 64 wr s r ty (padded l n) HL.out (by rw [HL.out]; omega) (by unfold maxLen; omega) HD.out (by omega) HPr.out HKr.out hp1).mono ?_
      rintro e w3 ⟨o', cap', rfl, _, _, _, _, hu⟩
      go_wp2_with fail
      refine (digest_any p w3 _ r ty hu.row).mono ?_
      rintro e w4 ⟨rfl, hb4⟩
      have hF : (absorb s (padded l n)).digest = fin s l n := rfl
      rw [hF]
      have HZ := Lib.hid (show (Tryd.prog.info? 23).map (·.size) = some (rowB (fin s l n)).size by rw [rowB_size, fin_length]; exact size25)
      have HY := Lib.hid (show (rowB (zs 32)).size = (rowB (fin s l n)).size by rw [rowB_size, rowB_size, fin_length]; rfl)
      have HX := Lib.hid (rowB_one (fin s l n))
      have hq : w4.heap[w.heap.size]? = some (.cells (rowB (zs 32)) 23 (0, 0)) := by
        rw [hb4.block _ (by have := hu.grown.size; omega), hu.grown.block _ (by omega) (by simp only [ne_eq, Option.some.injEq]; omega)]; exact HRr.out
      have HQ := Lib.hid hq
      have HU := Lib.hid (Un.fin hpl HBr.out hu hb4 (rowB (fin s l n)))
      clear hq hF hb4 hu
      obtain ⟨F, hF⟩ : ∃ F, fin s l n = F := ⟨_, rfl⟩
      rw [hF] at HZ HY HX HU ⊢
      have HF := Lib.hid hF
      clear hF
      go_wp2_with (refine wpList_store_row rfl 23 (.tmp 6) (.tmp 45) rfl w.heap.size (rowB F) rfl rfl 23 _ HQ.out HZ.out HY.out HX.out ?_)
      exact bodyPost_ret (v := .agg (rowB F)) (results_cell_row Tryd.results25 _ _ w.heap.size 23 (rowB F) (0, 0) _ rfl (setRow_heap _ _ _ _ _ _ HQ.out) Tryd.underlying23 rfl HZ.out) rfl ⟨by rw [HF.out], _, HU.out⟩
set_option maxRecDepth 100000 in
set_option maxHeartbeats 2000000 in
theorem finish128 (p : Nat) (w : World) (s : St) (r : Array Value) (ty : TypeId) (sp : Option Addr) (cap : Nat) (l : List Int) (n : Nat) (hb : Bytes w sp cap l) (hl : l.length < 64) (hE : 64 < l.length + 9) (hn : n ≤ 1152921504606846975)
    (hp : w.heap[p]? = some (.cells (rowSt s.list r) ty (0, 0))) (hk : Kc w) (hp1 : p ≠ 1) :
    Calls Tryd.prog 25 #[.pointer (some ⟨p, 0, none⟩), .slice sp l.length cap, .int .i64 n] w fun e w' => e = .returned (.agg (rowB (fin s l n))) ∧ ∃ s' : St, Un w p ty r s'.list w' := by
  have hpl : p < w.heap.size := (Array.getElem?_eq_some_iff.1 hp).1
  have HP := Lib.hid hp
  have HK : Hid (Kc w) := hk
  have HB := Lib.hid hb
  clear hp hk hb
  obtain ⟨m, hm⟩ : ∃ m, l.length = m := ⟨_, rfl⟩
  have HM := Lib.hid hm
  rw [hm] at hl hE ⊢
  clear hm
  have hd1 : decide ((64 : Int) < (m : Int) + 1 + 8) = true := by simp; omega
  have hz58 : ∀ w, (zeroValue 68).run Tryd.prog w = .ok (.agg (rowB (zs 128))) w := fun _ => by kernel_rfl
  go_enter Tryd.func25, Tryd.ntmps25
  have hc1 : (l.map (Value.int .u8)).length = Nat.min m 128 := by rw [List.length_map, HM.out]; exact (Nat.min_eq_left (by omega)).symm
  have HC := Lib.hid hc1
  have hc2 : 0 + (l.map (Value.int .u8)).length ≤ ((zs 128).map (Value.int .u8)).length := by rw [List.length_map, HM.out, List.length_map]; show 0 + m ≤ 128; omega
  have HC2 := Lib.hid hc2
  clear hc1 hc2
  go_wp2_with (refine wpList_copy_splice rfl (.tmp 16) (.tmp 17) 38 38 rfl 5 Tryd.underlying38 size5 _ _ 128 128 m cap rfl rfl (w.heap.size + 1) 0 ((zs 128).map (Value.int .u8)) 68 (heap_alloc2_new _ _ _) (l.map (Value.int .u8)) HC.out (HB.out.src (fun _ _ h => cell_alloc2 h) _) HC2.out (map_one l) (w.heap.size + 1) _ (Below.refl _ _) (Nat.le_refl _) ?_)
  intro w1 H1 hb1
  have ht := Two.copied (by kernel_rfl) l H1 hb1
  clear H1 hb1 hz58
  have HQ := Lib.hid (pad0_length l (by rw [HM.out]; omega))
  have c1 := ht.fl.cell m (by rw [HQ.out]; omega)
  have f1 := ht.fl.free m
  go_wp2
  clear c1 f1
  have ht1 := ht.put m 128
  rw [← HM.out] at ht1
  change Two w 23 (zs 32) (pad1 l) 68 _ at ht1
  rw [HM.out] at ht1
  have HQ1 := Lib.hid (pad1_length l (by rw [HM.out]; omega))
  clear ht HQ
  generalize w1.setCell _ _ = w2 at ht1 ⊢
  go_loopw [25] (fun i wr => ∃ k : Nat, k ≤ 8 ∧ i = .int .i64 k ∧ Two w 23 (zs 32) (padn (pad1 l) 128 n k) 68 wr) (fun i _ => 8 - (intOf i).toNat)
  case atStart => exact ⟨0, by omega, rfl, ht1⟩
  case round =>
    clear ht1
    obtain ⟨k, hk, rfl, ht⟩ := hrel
    by_cases hlt : k < 8
    · have hdt : decide ((k : Int) < 8) = true := by simp; omega
      have hs : padn (pad1 l) 128 n (k + 1) = (padn (pad1 l) 128 n k).set (128 - 1 - k) ((n : Int) * 8 / 2 ^ (8 * k) % 256) := rfl
      have HS := Lib.hid hs
      have hpl2 := padn_length (pad1 l) 128 n k
      rw [HQ1.out] at hpl2
      have HL := Lib.hid hpl2
      clear hs hpl2
      generalize padn (pad1 l) 128 n k = L at ht HS HL
      have c1 := ht.fl.cell (128 - 1 - k) (by rw [HL.out]; omega)
      have f1 := ht.fl.free (128 - 1 - k)
      go_wp2
      clear c1 f1
      go_roundw
      case rel => exact ⟨k + 1, by omega, by go_num, by rw [HS.out]; exact ht.put (128 - 1 - k) _⟩
      case measure => simp [intOf]; omega
    · obtain rfl : k = 8 := by omega
      clear hk hlt
      rw [show ((8 : Nat) : Int) = 8 from rfl]
      have hdf : decide ((8 : Int) < 8) = false := by decide
      have hE2 : padE l.length = 128 := by unfold padE; rw [HM.out, if_pos hE]
      have hpd : (padn (pad1 l) 128 n 8).take 128 = padded l n := by unfold padded; rw [hE2]
      have hd := ht.fl.lies 128
      rw [hpd] at hd
      have hpd2 := padded_length l n (by rw [HM.out]; omega)
      rw [hE2] at hpd2
      have HD : Hid (Lies wr (w.heap.size + 1) 0 (padded l n)) := hd
      have HL := Lib.hid hpd2
      have HPr := Lib.hid ((ht.fl.below.block p hpl).trans HP.out)
      have HKr : Hid (Kc wr) := Fl.kc ht.fl.below HK.out
      have HBr := Lib.hid ht.fl.below
      have HRr := Lib.hid ht.res
      have hgs : w.heap.size + 1 < wr.heap.size := (Array.getElem?_eq_some_iff.1 ht.fl.row).1
      clear ht hd hpd hpd2 hE2
      go_wp2_with fail
      refine (take_len 128 p (w.heap.size + 1) 0 128 wr s r ty (padded l n) HL.out (by rw [HL.out]; omega) (by unfold maxLen; omega) HD.out (by omega) HPr.out HKr.out hp1).mono ?_
      rintro e w3 ⟨o', cap', rfl, _, _, _, _, hu⟩
      go_wp2_with fail
      refine (digest_any p w3 _ r ty hu.row).mono ?_
      rintro e w4 ⟨rfl, hb4⟩
      have hF : (absorb s (padded l n)).digest = fin s l n := rfl
      rw [hF]
      have HZ := Lib.hid (show (Tryd.prog.info? 23).map (·.size) = some (rowB (fin s l n)).size by rw [rowB_size, fin_length]; exact size25)
      have HY := Lib.hid (show (rowB (zs 32)).size = (rowB (fin s l n)).size by rw [rowB_size, rowB_size, fin_length]; rfl)
      have HX := Lib.hid (rowB_one (fin s l n))
      have hq : w4.heap[w.heap.size]? = some (.cells (rowB (zs 32)) 23 (0, 0)) := by
        rw [hb4.block _ (by have := hu.grown.size; omega), hu.grown.block _ (by omega) (by simp only [ne_eq, Option.some.injEq]; omega)]; exact HRr.out
      have HQ := Lib.hid hq
      have HU := Lib.hid (Un.fin hpl HBr.out hu hb4 (rowB (fin s l n)))
      clear hq hF hb4 hu
      obtain ⟨F, hF⟩ : ∃ F, fin s l n = F := ⟨_, rfl⟩
      rw [hF] at HZ HY HX HU ⊢
      have HF := Lib.hid hF
      clear hF
      go_wp2_with (refine wpList_store_row rfl 23 (.tmp 6) (.tmp 45) rfl w.heap.size (rowB F) rfl rfl 23 _ HQ.out HZ.out HY.out HX.out ?_)
      exact bodyPost_ret (v := .agg (rowB F)) (results_cell_row Tryd.results25 _ _ w.heap.size 23 (rowB F) (0, 0) _ rfl (setRow_heap _ _ _ _ _ _ HQ.out) Tryd.underlying23 rfl HZ.out) rfl ⟨by rw [HF.out], _, HU.out⟩

theorem finish_any (p : Nat) (w : World) (s : St) (r : Array Value) (ty : TypeId) (sp : Option Addr) (m cap : Nat) (l : List Int) (hm : l.length = m) (n : Nat) (hb : Bytes w sp cap l) (hl : l.length < 64) (hn : n ≤ 1152921504606846975)
    (hp : w.heap[p]? = some (.cells (rowSt s.list r) ty (0, 0))) (hk : Kc w) (hp1 : p ≠ 1) :
    Calls Tryd.prog 25 #[.pointer (some ⟨p, 0, none⟩), .slice sp m cap, .int .i64 n] w fun e w' => e = .returned (.agg (rowB (fin s l n))) ∧ ∃ s' : St, Un w p ty r s'.list w' := by
  subst hm
  by_cases hE : 64 < l.length + 9
  · exact finish128 p w s r ty sp cap l n hb hl hE hn hp hk hp1
  · exact finish64 p w s r ty sp cap l n hb hE hn hp hk hp1
end Go.Proofs.YtpaffncdfldnmaaDoor
