import Derived.Test.YthnlagplkeklmaaNb
namespace Go.Proofs.Ythnlagplkeklmaa.Cd
/-! ### Numbers once more: its answer is a row of bytes of its own (its block is one of bytes) -/
section
open Go.ChangeShapes Go.WideShapes Go.ChangeAt Go.RowKit
set_option maxRecDepth 100000 in
set_option maxHeartbeats 4000000 in
theorem numbersO_any (w : World) (sp : Option Addr) (cap N : Nat) (l : List Int) (hN : l.length = N) (hP : Nums w sp cap l) (hs : N ≤ 1000) :
    Calls Try.prog 31 #[.slice sp N cap] w fun e w' => ∃ v, e = .returned v ∧ w'.ownsRow w.heap.size 5 1 v (8 * N) ((nums l).map (Value.int .u8)) ∧ Below w.heap.size w w' := by
  have HP : Hid (Nums w sp cap l) := hP
  have HN := Lib.hid hN
  clear hP hN
  obtain ⟨M, hM⟩ : ∃ M, 8 * N = M := ⟨_, rfl⟩
  have he8 : (8 : Int) * (N : Int) = (M : Int) := by omega
  have hMl : M ≤ 1000000 := by omega
  rw [hM]
  have HMm := Lib.hid hM
  clear hM
  go_enter Try.func31, Try.ntmps31
  go_wp2_with (refine wpList_make0 24 5 1 (.int .u8 0) Try.underlying24 info5 (by decide) rfl (.const (.int .i64 0)) (.tmp 9) rfl w.heap.size M rfl rfl hMl (Nat.le_refl _) ?_; intro w0 hown0 hg0)
  have hjn : Nn w l 0 (.slice (some ⟨w.heap.size, 0, none⟩) 0 M) w0 := ⟨hown0, Below.ofGrown hg0 (Nat.le_refl _) (fun _ h => by cases h)⟩
  clear hown0 hg0 he8
  go_loopw [3, 13] (fun v i wr => ∃ j : Nat, j ≤ N ∧ i = .int .i64 j ∧ Nn w l j v wr) (fun _ i _ => N - (intOf i).toNat)
  case atStart => exact ⟨0, by omega, rfl, hjn⟩
  case round =>
    clear hjn
    obtain ⟨j, hjk, rfl, hj⟩ := hrel
    obtain ⟨sv, cv, rfl, hxl, hsl, hbase⟩ := Sl.all1 hj.own
    have HJn := Lib.hid hj
    have HSl := Lib.hid hsl
    clear hj hsl hxl
    by_cases hlt : j < N
    · have hdt : decide (j < N) = true := by simp; omega
      obtain ⟨c, o, rfl, hcell⟩ := HP.out.at_ j (by rw [HN.out]; exact hlt)
      have hts := take_snocI l j (by rw [HN.out]; exact hlt)
      have hjs : nums (l.take (j + 1)) = nums (l.take j) ++ be 8 (l.getD j 0) := by rw [hts, nums_snoc]
      clear hts
      obtain ⟨P, hP⟩ : ∃ P, l.getD j 0 = P := ⟨_, rfl⟩
      rw [hP] at hcell hjs
      have HJs := Lib.hid hjs
      have hcl : c < w.heap.size := block_lt_of_cell hcell
      have hcr : wr.cell? ⟨c, o + j, none⟩ = some (.int .i64 P) := (HJn.out.below.cell hcl).trans hcell
      have hsz := HJn.out.below.size
      clear hP hjs hcell
      obtain ⟨n, hn⟩ : ∃ n, 8 * j = n := ⟨_, rfl⟩
      rw [hn] 
      have hnb : n + 8 ≤ 1000000 := by omega
      have HNn := Lib.hid hn
      clear hn
      go_wp2_with fail
      refine (word_of P wr).mono ?_
      rintro e w1 ⟨rfl, hb1⟩
      have HD8 := Lib.hid (be_length 8 P)
      obtain ⟨D, hD⟩ : ∃ D, be 8 P = D := ⟨_, rfl⟩
      rw [hD] at HD8 HJs ⊢
      clear hD
      have HZ := Lib.hid (show (Try.prog.info? 110).map (·.size) = some (rowB D).size by rw [rowB_size, HD8.out]; exact sizeWd)
      have HY := Lib.hid (show 8 = (rowB D).size by rw [rowB_size, HD8.out])
      have HX := Lib.hid (rowB_one D)
      have hsz1 : w.heap.size ≤ w1.heap.size := Nat.le_trans hsz hb1.size
      have HB1 := Lib.hid hb1
      clear hb1
      go_upto_region 6 with (refine wpList_store_row rfl 110 (.tmp 6) (.tmp 18) rfl w1.heap.size (rowB D) rfl rfl 110 _ (heap_alloc_new _ _) HZ.out HY.out HX.out ?_)
      refine gen_world (Q := fun w => Code.wp _ _ _ _ w) _ (fun W => Below w1.heap.size w1 W ∧ W.heap[w1.heap.size]? = some (.cells (rowB D) 110 (0, 0))) ⟨below_setRow ((Below.refl _ _).alloc (Nat.le_refl _) _) (Nat.le_refl _) _, setRow_heap _ _ _ _ _ _ (heap_alloc_new _ _)⟩ ?_
      rintro W ⟨hbW, hrow⟩
      have hbr : Below wr.heap.size wr W := HB1.out.trans (hbW.mono HB1.out.size)
      have hszW : w.heap.size ≤ W.heap.size := Nat.le_trans hsz1 hbW.size
      have HO := Lib.hid (owns_below HJn.out.own hbr)
      have HBW := Lib.hid (HJn.out.below.trans (hbr.mono hsz))
      have HSrc : Hid (Sl W (some ⟨w1.heap.size, 0, none⟩) 8 (D.map (Value.int .u8))) := by
        refine ⟨by simp [HD8.out], by unfold maxLen; omega, (fun h => by cases h), fun _ => ⟨_, _, rfl, fun i v hv => ?_⟩⟩
        rw [cell_of_row _ _ _ _ _ _ hrow, ← hv]
        simp [rowB]
      have HB4 := Lib.hid (show (D.map (Value.int .u8)).length = 8 by rw [List.length_map, HD8.out])
      rw [HNn.out] at HO
      have hr4 := run_arr0 w1.heap.size
      clear hbW hrow hbr hcr HB1 HZ HY HX HD8
      go_wp2_with (refine wpList_append_sl 24 5 1 (.int .u8 0) Try.underlying24 info5 rfl (by decide) rfl (.tmp 19) (.tmp 20) rfl w.heap.size (.slice sv n cv) n 8 _ _ rfl HO.out (some ⟨w1.heap.size, 0, none⟩) 8 rfl HB4.out HSrc.out (map_one _) hnb hszW ?_; intro v2 w2 hown2 hg2)
      have HB4' := Lib.hid (HBW.out.trans (Below.ofGrown hg2 hszW (fun g e => (HO.out.lt g e).1)))
      have HO4 := Lib.hid hown2
      clear hg2 hown2 hr4
      go_roundw
      case rel =>
        refine ⟨j + 1, by omega, by go_num, ?_, HB4'.out⟩
        have := HO4.out
        rw [← List.map_append, ← HJs.out, ← HNn.out] at this
        exact this
      case measure => simp [intOf]; omega
    · obtain rfl : j = N := by omega
      have hdf2 : decide (j < j) = false := by simp
      have hown := HJn.out.own
      rw [List.take_of_length_le (by rw [HN.out]; omega)] at hown
      have HOw := Lib.hid hown
      clear hlt hown
      go_wp2
      go_ret
      exact ⟨_, rfl, by rw [← HMm.out]; exact HOw.out, HJn.out.below⟩
end
end Go.Proofs.Ythnlagplkeklmaa.Cd
