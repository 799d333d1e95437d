import Derived.Test.YtpaffncdfldnmaaDoorCa
namespace Go.Proofs.YtpaffncdfldnmaaDoor.Cd

section
open Go.ChangeShapes Go.WideShapes Go.ChangeAt Go.RowKit
set_option maxRecDepth 100000 in
set_option maxHeartbeats 2000000 in
theorem word_of (n : Int) (w : World) : Calls Tryd.prog 38 #[.int .i64 n] w fun e w' => e = .returned (.agg (rowB (be 8 n))) ∧ Below w.heap.size w w' := by
  obtain ⟨B, hB⟩ : ∃ B, IntKind.u64.wrap n = B := ⟨_, rfl⟩
  have hBm : be 8 B = be 8 n := by
    rw [← be_mod 8 n, ← hB]
    rfl
  have HBm := Lib.hid hBm
  clear hBm
  go_enter Tryd.func38, Tryd.ntmps38
  go_wp2
  have HB := Lib.hid hB
  clear hB
  go_loopw [8] (fun i wr => ∃ k : Nat, k ≤ 8 ∧ i = .int .i64 k ∧ Two w 71 (zs 8) (wk B k) 71 wr) (fun i _ => 8 - (intOf i).toNat)
  case atStart => exact ⟨0, by omega, rfl, Two.start w 71 71 _ _ _ _ rfl rfl⟩
  case round =>
    obtain ⟨k, hk, rfl, ht⟩ := hrel
    by_cases hlt : k < 8
    · have hdt : decide ((k : Int) < 8) = true := by simp; omega
      have hs := wk_set B k hlt
      rw [← pow8] at hs
      have HS := Lib.hid hs
      have HL := Lib.hid (wk_length B k hk)
      clear hs
      obtain ⟨L, hL⟩ : ∃ L, wk B k = L := ⟨_, rfl⟩
      rw [hL] at ht HS HL
      clear hL
      have c1 := ht.fl.cell (7 - k) (by rw [HL.out]; omega)
      have f1 := ht.fl.free (7 - k)
      go_wp2
      clear c1 f1
      go_roundw
      case rel => exact ⟨k + 1, by omega, by go_num, by rw [← HS.out]; exact ht.put (7 - k) _⟩
      case measure => simp [intOf]; omega
    · obtain rfl : k = 8 := by omega
      clear hk hlt
      rw [show ((8 : Nat) : Int) = 8 from rfl]
      have hdf : decide ((8 : Int) < 8) = false := by decide
      rw [wk_all, HBm.out] at ht
      have HL := Lib.hid (be_length 8 n)
      obtain ⟨D, hD⟩ : ∃ D, be 8 n = D := ⟨_, rfl⟩
      rw [hD] at ht HL
      have HD := Lib.hid hD
      clear hD
      have HZ := Lib.hid (show (Tryd.prog.info? 71).map (·.size) = some (rowB D).size by rw [rowB_size, HL.out]; exact sizeWd)
      have HY := Lib.hid (show (rowB (zs 8)).size = (rowB D).size by rw [rowB_size, rowB_size, HL.out]; rfl)
      have HX := Lib.hid (rowB_one D)
      have HR := Lib.hid ht.fl.row
      have HQ := Lib.hid ht.res
      have HBl := Lib.hid ht.fl.below
      clear ht
      go_wp2_with (first
        | (refine wpList_load_row rfl 71 (.tmp 3) rfl (w.heap.size + 1) rfl 71 (rowB D) (0, 0) _ HR.out Tryd.underlying71 rfl HZ.out ?_)
        | (refine wpList_store_row rfl 71 (.tmp 2) (.tmp 20) rfl w.heap.size (rowB D) rfl rfl 71 _ HQ.out HZ.out HY.out HX.out ?_))
      exact bodyPost_ret (v := .agg (rowB D)) (results_cell_row Tryd.results38 _ _ w.heap.size 71 (rowB D) (0, 0) _ rfl (setRow_heap _ _ _ _ _ _ HQ.out) Tryd.underlying71 rfl HZ.out) rfl ⟨by rw [HD.out], below_setRow HBl.out (Nat.le_refl _) _⟩
end

section
open Go.ChangeShapes Go.WideShapes Go.ChangeAt Go.RowKit

theorem take_snoc (ls : List (List Int)) (k : Nat) (h : k < ls.length) : ls.take (k + 1) = ls.take k ++ [ls.getD k []] := by
  have e : ls.getD k [] = ls[k] := by simp [h]
  rw [e, List.take_succ_eq_append_getElem h]
/-- how many bytes the first k pieces have -/
def jl (ls : List (List Int)) (k : Nat) : Nat := (join (ls.take k)).length
theorem jl_succ (ls : List (List Int)) (k : Nat) (h : k < ls.length) : jl ls (k + 1) = jl ls k + (4 + (ls.getD k []).length) := by
  unfold jl
  rw [take_snoc ls k h, join_snoc]
  simp only [List.length_append, be_length]
  omega
theorem jl_le (ls : List (List Int)) (k : Nat) : jl ls k ≤ (join ls).length := by
  have h : join ls = join (ls.take k) ++ join (ls.drop k) := by rw [← join_append, List.take_append_drop]
  unfold jl
  rw [h, List.length_append]
  omega
/-- how the second loop stands -/
structure Jn (w : World) (ls : List (List Int)) (k : Nat) (v : Value) (wr : World) : Prop where
  own : wr.ownsRow w.heap.size 5 1 v (jl ls k) ((join (ls.take k)).map (Value.int .u8))
  below : Below w.heap.size w wr
theorem run_arr4 (p : Nat) (w : World) : (Instr.sliceAt 71 (.pointer (some ⟨p, 0, none⟩)) (some (.int .i64 4)) none none).run Tryd.prog w = .ok (.slice (some ⟨p, 4, none⟩) 4 4) w := by
  cases hq : Tryd.prog.info? 5 with
  | none => have := size5; simp [hq] at this
  | some i =>
    have hi : i.size = 1 := by have := size5; simpa [hq] using this
    have hadd := add_plain p 0 4
    simp only [Nat.zero_add] at hadd
    simp [Instr.sliceAt, Instr.sureAddr, run_underlying Tryd.underlying71, Instr.sliceBounds, Instr.sliceBound, asIntOf, sizeOf, typeInfo, hq, hi, hadd]
set_option maxRecDepth 100000 in
set_option maxHeartbeats 4000000 in
theorem join_any (w : World) (sp : Option Addr) (cap N : Nat) (ls : List (List Int)) (hN : ls.length = N) (hP : Pieces w sp cap ls) (hs : (join ls).length ≤ 1000000) :
    Calls Tryd.prog 26 #[.slice sp N cap] w fun e w' => ∃ sp' cap', e = .returned (.slice sp' (join ls).length cap') ∧ Bytes w' sp' cap' (join ls) ∧ Below w.heap.size w w' := by
  have hNm : N ≤ 9223372036854775807 := by rw [← hN]; exact hP.len
  have HP := Lib.hid hP
  have HN := Lib.hid hN
  clear hP hN
  go_enter Tryd.func26, Tryd.ntmps26
  go_wp2
  go_loop [3, 12] (fun s i => ∃ k : Nat, k ≤ N ∧ i = .int .i64 k ∧ s = .int .i64 (jl ls k)) (fun _ i => N - (intOf i).toNat)
  case atStart => exact ⟨0, by omega, rfl, rfl⟩
  case round =>
    obtain ⟨k, hk, rfl, rfl⟩ := hrel
    have hle := jl_le ls k
    by_cases hlt : k < N
    · have hdt : decide (k < N) = true := by simp; omega
      obtain ⟨c, o, s2, c2, rfl, hcell, hb⟩ := HP.out.at_ k (by rw [HN.out]; exact hlt)
      have hsu := jl_succ ls k (by rw [HN.out]; exact hlt)
      have hle2 := jl_le ls (k + 1)
      have hbl := hb.len
      obtain ⟨m, hm⟩ : ∃ m, (ls.getD k []).length = m := ⟨_, rfl⟩
      rw [hm] at hcell hsu hbl
      have HSu := Lib.hid hsu
      have hjm : jl ls k + (4 + m) ≤ 1000000 := by rw [← hsu]; omega
      clear hm hsu hb hle2
      obtain ⟨j, hj⟩ : ∃ j, jl ls k = j := ⟨_, rfl⟩
      rw [hj] at hjm HSu hle ⊢
      clear hj
      go_wp2
      go_round
      case rel => exact ⟨k + 1, by omega, by go_num, by rw [HSu.out]; go_num⟩
      case measure => simp [intOf]; omega
    · obtain rfl : k = N := by omega
      have hJ : jl ls k = (join ls).length := by unfold jl; rw [List.take_of_length_le (by rw [HN.out]; omega)]
      rw [hJ]
      have hdf : decide (k < k) = false := by simp
      clear hle hlt hk
      obtain ⟨J, hJ2⟩ : ∃ J, (join ls).length = J := ⟨_, rfl⟩
      rw [hJ2] at hJ hs ⊢
      have HJ := Lib.hid hJ
      have HJ2 := Lib.hid hJ2
      clear hJ hJ2
      go_wp2_with (refine wpList_make0 38 5 1 (.int .u8 0) Tryd.underlying38 info5 (by decide) rfl (.const (.int .i64 0)) (.tmp 22) rfl w.heap.size J rfl rfl hs (Nat.le_refl _) ?_; intro w0 hown0 hg0)
      have hjn : Jn w ls 0 (.slice (some ⟨w.heap.size, 0, none⟩) 0 J) w0 := ⟨hown0, Below.ofGrown hg0 (Nat.le_refl _) (fun _ h => by cases h)⟩
      clear hown0 hg0
      go_loopw [6, 26] (fun v i wr => ∃ j : Nat, j ≤ k ∧ i = .int .i64 j ∧ Jn w ls j v wr) (fun _ i _ => k - (intOf i).toNat)
      case atStart => exact ⟨0, by omega, rfl, hjn⟩
      case round =>
        clear hjn
        obtain ⟨j, hjk, rfl, hj⟩ := hrel
        obtain ⟨sv, cv, rfl, hxl, hsl, hbase⟩ := Sl.all1 hj.own
        have HJn := Lib.hid hj
        have HSl := Lib.hid hsl
        have hle := jl_le ls j
        rw [HJ2.out] at hle
        clear hj hsl hxl
        by_cases hlt : j < k
        · have hdt : decide (j < k) = true := by simp; omega
          obtain ⟨c, o, s2, c2, rfl, hcell, hb⟩ := HP.out.at_ j (by rw [HN.out]; exact hlt)
          have hsu := jl_succ ls j (by rw [HN.out]; exact hlt)
          have hle2 := jl_le ls (j + 1)
          rw [HJ2.out] at hle2
          have hbl := hb.len
          have hts := take_snoc ls j (by rw [HN.out]; exact hlt)
          have hjs : join (ls.take (j + 1)) = join (ls.take j) ++ be 4 ((ls.getD j []).length : Int) ++ ls.getD j [] := by rw [hts, join_snoc]
          clear hts
          obtain ⟨P, hP⟩ : ∃ P, ls.getD j [] = P := ⟨_, rfl⟩
          rw [hP] at hcell hsu hbl hjs hb
          obtain ⟨m, hm⟩ : ∃ m, P.length = m := ⟨_, rfl⟩
          rw [hm] at hcell hsu hbl hjs
          have HSu := Lib.hid hsu
          have HM := Lib.hid hm
          have HJs := Lib.hid hjs
          have HBp := Lib.hid hb
          have hjm : jl ls j + 4 + m ≤ 1000000 := by omega
          have hcl : c < w.heap.size := block_lt_of_cell hcell
          have hcr : wr.cell? ⟨c, o + j, none⟩ = some (.slice s2 m c2) := (HJn.out.below.cell hcl).trans hcell
          have hsz := HJn.out.below.size
          clear hm hsu hb hle2 hP hjs hcell
          obtain ⟨n, hn⟩ : ∃ n, jl ls j = n := ⟨_, rfl⟩
          rw [hn] at hjm HSu hle ⊢
          have HNn := Lib.hid hn
          clear hn
          go_wp2_with fail
          refine (word_of m wr).mono ?_
          rintro e w1 ⟨rfl, hb1⟩
          have HD8 := Lib.hid (be_length 8 (m : Int))
          have HD4 := Lib.hid (be_drop (m : Int))
          obtain ⟨D, hD⟩ : ∃ D, be 8 (m : Int) = D := ⟨_, rfl⟩
          rw [hD] at HD8 HD4 ⊢
          clear hD
          have HZ := Lib.hid (show (Tryd.prog.info? 71).map (·.size) = some (rowB D).size by rw [rowB_size, HD8.out]; exact sizeWd)
          have HY := Lib.hid (show 8 = (rowB D).size by rw [rowB_size, HD8.out])
          have HX := Lib.hid (rowB_one D)
          have hsz1 : w.heap.size ≤ w1.heap.size := Nat.le_trans hsz hb1.size
          have HB1 := Lib.hid hb1
          clear hb1
          go_upto_region 12 with (refine wpList_store_row rfl 71 (.tmp 9) (.tmp 32) rfl w1.heap.size (rowB D) rfl rfl 71 _ (heap_alloc_new _ _) HZ.out HY.out HX.out ?_)
          refine gen_world (Q := fun w => Code.wp _ _ _ _ w) _ (fun W => Below w1.heap.size w1 W ∧ W.heap[w1.heap.size]? = some (.cells (rowB D) 71 (0, 0))) ⟨below_setRow ((Below.refl _ _).alloc (Nat.le_refl _) _) (Nat.le_refl _) _, setRow_heap _ _ _ _ _ _ (heap_alloc_new _ _)⟩ ?_
          rintro W ⟨hbW, hrow⟩
          have hbr : Below wr.heap.size wr W := HB1.out.trans (hbW.mono HB1.out.size)
          have hszW : w.heap.size ≤ W.heap.size := Nat.le_trans hsz1 hbW.size
          have HO := Lib.hid (owns_below HJn.out.own hbr)
          have HBW := Lib.hid (HJn.out.below.trans (hbr.mono hsz))
          have HSrc : Hid (Sl W (some ⟨w1.heap.size, 4, none⟩) 4 ((D.drop 4).map (Value.int .u8))) := by
            refine ⟨by simp [HD8.out], by unfold maxLen; omega, (fun h => by cases h), fun _ => ⟨_, _, rfl, fun i v hv => ?_⟩⟩
            rw [cell_of_row _ _ _ _ _ _ hrow, ← hv]
            simp [rowB]
          rw [HD4.out] at HSrc
          have HB4 := Lib.hid (show ((be 4 (m : Int)).map (Value.int .u8)).length = 4 by rw [List.length_map, be_length])
          rw [HNn.out] at HO
          have hcW : W.cell? ⟨c, o + j, none⟩ = some (.slice s2 m c2) := (hbr.cell (by have := HJn.out.below.size; simp only; omega)).trans hcr
          have HCW := Lib.hid hcW
          have hr4 := run_arr4 w1.heap.size
          clear hbW hrow hbr hcr hcW HB1 HZ HY HX HD8
          go_upto_region 13 with (refine wpList_append_sl 38 5 1 (.int .u8 0) Tryd.underlying38 info5 rfl (by decide) rfl (.tmp 33) (.tmp 34) rfl w.heap.size (.slice sv n cv) n 4 _ _ rfl HO.out (some ⟨w1.heap.size, 4, none⟩) 4 rfl HB4.out HSrc.out (map_one _) (by omega) hszW ?_; intro v2 w2 hown2 hg2)
          have hb2 : Below w.heap.size W w2 := Below.ofGrown hg2 hszW (fun g e => (HO.out.lt g e).1)
          obtain ⟨s3, c3, rfl, hl3, hsl3, hbs3⟩ := Sl.all1 hown2
          have HO2 := Lib.hid hown2
          have HBW2 := Lib.hid (HBW.out.trans hb2)
          have hsz2 : w.heap.size ≤ w2.heap.size := HBW2.out.size
          have HPb := Lib.hid (HBp.out.below HBW2.out)
          have HMm := Lib.hid (show (P.map (Value.int .u8)).length = m by rw [List.length_map, HM.out])
          clear hg2 hb2 hown2 hsl3 hl3 hr4
          go_wp2_with (refine wpList_append_sl 38 5 1 (.int .u8 0) Tryd.underlying38 info5 rfl (by decide) rfl (.tmp 36) (.tmp 37) rfl w.heap.size (.slice s3 (n + 4) c3) (n + 4) m _ _ rfl HO2.out s2 c2 rfl HMm.out HPb.out.sl (map_one _) (by omega) hsz2 ?_; intro v4 w4 hown4 hg4)
          have HB4' := Lib.hid (HBW2.out.trans (Below.ofGrown hg4 hsz2 (fun g e => (HO2.out.lt g e).1)))
          have HO4 := Lib.hid hown4
          clear hg4 hown4
          go_roundw
          case rel =>
            refine ⟨j + 1, by omega, by go_num, ?_, HB4'.out⟩
            have := HO4.out
            rw [← List.map_append, ← List.map_append, ← HJs.out] at this
            rw [HSu.out, ← Nat.add_assoc]
            exact this
          case measure => simp [intOf]; omega
        · obtain rfl : j = k := by omega
          have hdf2 : decide (j < j) = false := by simp
          rw [HJ.out]
          have HSl2 := HSl
          rw [List.take_of_length_le (by rw [HN.out]; omega)] at HSl2
          have HR := Lib.hid (rng_join (ls := ls) (fun l hl => by
            obtain ⟨i, hi, rfl⟩ := List.getElem_of_mem hl
            obtain ⟨_, _, _, _, _, _, h⟩ := HP.out.at_ i hi
            have := h.rng
            simpa [hi] using this))
          clear hlt hle
          go_wp2
          go_ret
          exact ⟨sv, cv, by rw [HJ2.out]; rfl, ⟨HSl2.out, HR.out⟩, HJn.out.below⟩
end

section
open Go.ChangeShapes Go.WideShapes Go.ChangeAt Go.RowKit
structure Nn (w : World) (l : List Int) (k : Nat) (v : Value) (wr : World) : Prop where
  own : wr.ownsRow w.heap.size 5 1 v (8 * k) ((nums (l.take k)).map (Value.int .u8))
  below : Below w.heap.size w wr
theorem run_arr0 (p : Nat) (w : World) : (Instr.sliceAt 71 (.pointer (some ⟨p, 0, none⟩)) none none none).run Tryd.prog w = .ok (.slice (some ⟨p, 0, none⟩) 8 8) w := by
  cases hq : Tryd.prog.info? 5 with
  | none => have := size5; simp [hq] at this
  | some i =>
    have hadd := add_plain p 0 0
    simp only [Nat.zero_add] at hadd
    simp [Instr.sliceAt, Instr.sureAddr, run_underlying Tryd.underlying71, Instr.sliceBounds, sizeOf, typeInfo, hq, hadd]
set_option maxRecDepth 100000 in
set_option maxHeartbeats 4000000 in
theorem numbers_any (w : World) (sp : Option Addr) (cap N : Nat) (l : List Int) (hN : l.length = N) (hP : Nums w sp cap l) (hs : N ≤ 1000) :
    Calls Tryd.prog 27 #[.slice sp N cap] w fun e w' => ∃ sp' cap', e = .returned (.slice sp' (8 * N) cap') ∧ Bytes w' sp' cap' (nums l) ∧ Below w.heap.size w w' := by
  have HP : Hid (Nums w sp cap l) := hP
  have HN := Lib.hid hN
  clear hP hN
  obtain ⟨M, hM⟩ : ∃ M, 8 * N = M := ⟨_, rfl⟩
  have he8 : (8 : Int) * (N : Int) = (M : Int) := by omega
  have hMl : M ≤ 1000000 := by omega
  rw [hM]
  have HMm := Lib.hid hM
  clear hM
  go_enter Tryd.func27, Tryd.ntmps27
  go_wp2_with (refine wpList_make0 38 5 1 (.int .u8 0) Tryd.underlying38 info5 (by decide) rfl (.const (.int .i64 0)) (.tmp 9) rfl w.heap.size M rfl rfl hMl (Nat.le_refl _) ?_; intro w0 hown0 hg0)
  have hjn : Nn w l 0 (.slice (some ⟨w.heap.size, 0, none⟩) 0 M) w0 := ⟨hown0, Below.ofGrown hg0 (Nat.le_refl _) (fun _ h => by cases h)⟩
  clear hown0 hg0 he8
  go_loopw [3, 13] (fun v i wr => ∃ j : Nat, j ≤ N ∧ i = .int .i64 j ∧ Nn w l j v wr) (fun _ i _ => N - (intOf i).toNat)
  case atStart => exact ⟨0, by omega, rfl, hjn⟩
  case round =>
    clear hjn
    obtain ⟨j, hjk, rfl, hj⟩ := hrel
    obtain ⟨sv, cv, rfl, hxl, hsl, hbase⟩ := Sl.all1 hj.own
    have HJn := Lib.hid hj
    have HSl := Lib.hid hsl
    clear hj hsl hxl
    by_cases hlt : j < N
    · have hdt : decide (j < N) = true := by simp; omega
      obtain ⟨c, o, rfl, hcell⟩ := HP.out.at_ j (by rw [HN.out]; exact hlt)
      have hts := take_snocI l j (by rw [HN.out]; exact hlt)
      have hjs : nums (l.take (j + 1)) = nums (l.take j) ++ be 8 (l.getD j 0) := by rw [hts, nums_snoc]
      clear hts
      obtain ⟨P, hP⟩ : ∃ P, l.getD j 0 = P := ⟨_, rfl⟩
      rw [hP] at hcell hjs
      have HJs := Lib.hid hjs
      have hcl : c < w.heap.size := block_lt_of_cell hcell
      have hcr : wr.cell? ⟨c, o + j, none⟩ = some (.int .i64 P) := (HJn.out.below.cell hcl).trans hcell
      have hsz := HJn.out.below.size
      clear hP hjs hcell
      obtain ⟨n, hn⟩ : ∃ n, 8 * j = n := ⟨_, rfl⟩
      rw [hn] 
      have hnb : n + 8 ≤ 1000000 := by omega
      have HNn := Lib.hid hn
      clear hn
      go_wp2_with fail
      refine (word_of P wr).mono ?_
      rintro e w1 ⟨rfl, hb1⟩
      have HD8 := Lib.hid (be_length 8 P)
      obtain ⟨D, hD⟩ : ∃ D, be 8 P = D := ⟨_, rfl⟩
      rw [hD] at HD8 HJs ⊢
      clear hD
      have HZ := Lib.hid (show (Tryd.prog.info? 71).map (·.size) = some (rowB D).size by rw [rowB_size, HD8.out]; exact sizeWd)
      have HY := Lib.hid (show 8 = (rowB D).size by rw [rowB_size, HD8.out])
      have HX := Lib.hid (rowB_one D)
      have hsz1 : w.heap.size ≤ w1.heap.size := Nat.le_trans hsz hb1.size
      have HB1 := Lib.hid hb1
      clear hb1
      go_upto_region 6 with (refine wpList_store_row rfl 71 (.tmp 6) (.tmp 18) rfl w1.heap.size (rowB D) rfl rfl 71 _ (heap_alloc_new _ _) HZ.out HY.out HX.out ?_)
      refine gen_world (Q := fun w => Code.wp _ _ _ _ w) _ (fun W => Below w1.heap.size w1 W ∧ W.heap[w1.heap.size]? = some (.cells (rowB D) 71 (0, 0))) ⟨below_setRow ((Below.refl _ _).alloc (Nat.le_refl _) _) (Nat.le_refl _) _, setRow_heap _ _ _ _ _ _ (heap_alloc_new _ _)⟩ ?_
      rintro W ⟨hbW, hrow⟩
      have hbr : Below wr.heap.size wr W := HB1.out.trans (hbW.mono HB1.out.size)
      have hszW : w.heap.size ≤ W.heap.size := Nat.le_trans hsz1 hbW.size
      have HO := Lib.hid (owns_below HJn.out.own hbr)
      have HBW := Lib.hid (HJn.out.below.trans (hbr.mono hsz))
      have HSrc : Hid (Sl W (some ⟨w1.heap.size, 0, none⟩) 8 (D.map (Value.int .u8))) := by
        refine ⟨by simp [HD8.out], by unfold maxLen; omega, (fun h => by cases h), fun _ => ⟨_, _, rfl, fun i v hv => ?_⟩⟩
        rw [cell_of_row _ _ _ _ _ _ hrow, ← hv]
        simp [rowB]
      have HB4 := Lib.hid (show (D.map (Value.int .u8)).length = 8 by rw [List.length_map, HD8.out])
      rw [HNn.out] at HO
      have hr4 := run_arr0 w1.heap.size
      clear hbW hrow hbr hcr HB1 HZ HY HX HD8
      go_wp2_with (refine wpList_append_sl 38 5 1 (.int .u8 0) Tryd.underlying38 info5 rfl (by decide) rfl (.tmp 19) (.tmp 20) rfl w.heap.size (.slice sv n cv) n 8 _ _ rfl HO.out (some ⟨w1.heap.size, 0, none⟩) 8 rfl HB4.out HSrc.out (map_one _) hnb hszW ?_; intro v2 w2 hown2 hg2)
      have HB4' := Lib.hid (HBW.out.trans (Below.ofGrown hg2 hszW (fun g e => (HO.out.lt g e).1)))
      have HO4 := Lib.hid hown2
      clear hg2 hown2 hr4
      go_roundw
      case rel =>
        refine ⟨j + 1, by omega, by go_num, ?_, HB4'.out⟩
        have := HO4.out
        rw [← List.map_append, ← HJs.out, ← HNn.out] at this
        exact this
      case measure => simp [intOf]; omega
    · obtain rfl : j = N := by omega
      have hdf2 : decide (j < j) = false := by simp
      have HSl2 := HSl
      rw [List.take_of_length_le (by rw [HN.out]; omega)] at HSl2
      clear hlt
      go_wp2
      go_ret
      exact ⟨sv, cv, by rw [← HMm.out]; rfl, ⟨HSl2.out, rng_nums l⟩, HJn.out.below⟩
end

end Go.Proofs.YtpaffncdfldnmaaDoor.Cd
