import Derived.Test.YtpaffncdfldnmaaDoorSr
namespace Go.Proofs.YtpaffncdfldnmaaDoor
open Go.ChangeShapes Go.WideShapes Go.ChangeAt Go.RowKit
set_option maxRecDepth 100000

/-- what the reference's block does -/
def BlockSpec : Prop := ∀ (w : World) (s : St) (_ : StW s) (c o cap : Nat) (b : List Int) (_ : b.length = 64) (_ : Lies w c o b) (_ : rng b) (_ : 64 ≤ cap),
    Calls Tryd.prog 32 #[.agg (rowN s.list), .slice (some ⟨c, o, none⟩) 64 cap] w fun e w' => e = .returned (.agg (rowN (s.turn b).list)) ∧ Below w.heap.size w w'
theorem start_in : StW start := by unfold StW allW W32; decide
theorem blocks_in : ∀ (j : Nat) (s : St) (l : List Int), StW s → StW (blocks j s l)
  | 0, _, _, h => h
  | j + 1, _, _, _ => blocks_in j _ _ (turn_in _ _)
theorem zero25 (w : World) : (zeroValue 23).run Tryd.prog w = .ok (.agg (rowB (zs 32))) w := by kernel_rfl
theorem startZ : (Tryd.prog.info? 56).map (·.size) = some (rowN start.list).size := by rw [rowN_size]; exact size48
theorem wpList_start {ops : Array Oper} {rest : List Oper} {o : Oper} {a : Act} {W : World} {Q : Exit → Act → World → Prop} (sl : List Int) (hsl : start.list = sl) (hg : o.guard = none)
    (ho : o.op = .build 56 #[(0, .const (.int .i64 1779033703)), (1, .const (.int .i64 3144134277)), (2, .const (.int .i64 1013904242)), (3, .const (.int .i64 2773480762)), (4, .const (.int .i64 1359893119)), (5, .const (.int .i64 2600822924)), (6, .const (.int .i64 528734635)), (7, .const (.int .i64 1541459225))])
    (h : wpList Tryd.prog ops Q rest (a.put o.dst (.agg (rowN sl))) W) : wpList Tryd.prog ops Q (o :: rest) a W := by
  subst hsl
  exact wpList_build48 hg _ _ _ _ _ _ _ _ ho 1779033703 3144134277 1013904242 2773480762 1359893119 2600822924 528734635 1541459225 rfl rfl rfl rfl rfl rfl rfl rfl h
theorem exec_call2' {a : Act} {o : Oper} {W : World} (f : FuncId) (x y : Operand) (ats : Array TypeId) (u v : Value) (ho : o.op = .call { callee := .value (.func f), args := #[x, y], argTypes := ats }) (hx : a.eval x = u) (hy : a.eval y = v)
    (hf : (callFunc f #[u, v]).run Tryd.prog W = .ok (.enter f #[u, v]) W) : (execOp a.eval o).run Tryd.prog W = .ok (.enter f #[u, v]) W :=
  exec_call f #[x, y] ats #[u, v] ho (by simp [hx, hy]) hf
theorem exec_byte {a : Act} {o : Oper} {W : World} (x : Operand) (ho : o.op = .convert 3 5 x) (z : Int) (hx : a.eval x = .int .i64 z) (h1 : 0 ≤ z) (h2 : z < 256) : (execOp a.eval o).run Tryd.prog W = .ok (.value (.int .u8 z)) W := by
  have e : IntKind.u8.wrap z = z := by simp [IntKind.wrap, IntKind.bits, IntKind.signed]; omega
  have hc : (convert 3 5 (.int .i64 z)).run Tryd.prog W = .ok (.int .u8 z) W := by simp [go_sem, e]
  unfold execOp
  simp [ho, hx, hc]
set_option maxRecDepth 100000 in
set_option maxHeartbeats 8000000 in
theorem ref_sum (hblk : BlockSpec) (w : World) (sp : Option Addr) (m cap : Nat) (l : List Int) (hm : l.length = m) (hb : Bytes w sp cap l) (hz : sp = none → cap = 0) (hr : rng l) (hn : m ≤ 90000) :
    Calls Tryd.prog 17 #[.slice sp m cap] w fun e w' => e = .returned (.agg (rowB (sum l))) ∧ Below w.heap.size w w' := by
  have HBk := Lib.hid hblk
  have HM := Lib.hid hm
  have HB := Lib.hid hb
  have HR : Hid (rng (full l m)) := Lib.hid (rng_full l m hr)
  have HSum := Lib.hid (sum_full l)
  rw [hm] at HSum
  clear hblk hm hb hr
  have hz25 := zero25
  have hz48 := zero48
  have HZ := Lib.hid startZ
  have HY := Lib.hid (show (rowN (zs 8)).size = (rowN start.list).size by rw [rowN_size, rowN_size]; rfl)
  have HX := Lib.hid (rowN_one start.list)
  obtain ⟨sl, hsl⟩ : ∃ x, start.list = x := ⟨_, rfl⟩
  rw [hsl] at HZ HY HX
  have HSl := Lib.hid hsl
  clear hsl
  go_enter Tryd.func17, Tryd.ntmps17
  go_upto_region 2 with (first
    | (refine wpList_start sl HSl.out rfl rfl ?_)
    | (refine wpList_store_row rfl 56 (.tmp 3) (.tmp 8) rfl (w.heap.size + 1) (rowN sl) rfl rfl 56 _ (heap_alloc2_new _ _ _) HZ.out HY.out HX.out ?_))
  clear hz25 hz48
  refine gen_world (Q := fun w => Code.wp _ _ _ _ w) _ (fun W => Below w.heap.size w W ∧ W.heap[w.heap.size]? = some (.cells (rowB (zs 32)) 23 (0, 0)) ∧ W.heap[w.heap.size + 1]? = some (.cells (rowN start.list) 56 (0, 0))) ⟨below_setRow (((Below.refl _ _).alloc (Nat.le_refl _) _).alloc (by simp) _) (by omega) _, ?_, ?_⟩ ?_
  · rw [setRow_other _ _ _ _ (by omega)]; exact heap_alloc2_old _ _ _
  · rw [HSl.out]; exact setRow_heap _ _ _ _ _ _ (heap_alloc2_new _ _ _)
  rintro w1 ⟨hb1, hr1, hs1⟩
  have HB1 := Lib.hid hb1
  have HR1 := Lib.hid hr1
  have HS1 := Lib.hid hs1
  clear hb1 hr1 hs1
  go_wp2_with fail
  refine (filled_any w1 sp m cap l HM.out (HB.out.below HB1.out) hz (by omega)).mono ?_
  rintro e w2 ⟨s4, c4, rfl, ho⟩
  have hFl := full_length l m
  rw [HM.out] at hFl
  have hFw := full_whole l m
  obtain ⟨F, hF⟩ : ∃ F, full l m = F := ⟨_, rfl⟩
  obtain ⟨L, hL⟩ : ∃ L, m + 9 + zn m = L := ⟨_, rfl⟩
  have hzn : zn m ≤ 63 := by unfold zn; omega
  have hL1 : L ≤ 100000 := by omega
  have hL2 : 9 ≤ L := by omega
  rw [hF] at ho HR hFl hFw HSum
  rw [hL] at ho hFl ⊢
  rw [hFl] at hFw
  obtain ⟨sp', cap', he, _, hby, _, hbase⟩ := own_bytes ho.own
  cases he
  obtain ⟨c, o, rfl, hli⟩ := hby.lies (by omega)
  have hLc : L ≤ c4 := by have := hby.le; omega
  have hcb : w.heap.size + 1 < c := Nat.lt_of_lt_of_le (lt_of_row HS1.out) (hbase c o rfl)
  have hb2 := ho.below
  have hsu : Su w start c o F w2 := ⟨HB1.out.trans (hb2.mono HB1.out.size), (hb2.block _ (lt_of_row HR1.out)).trans HR1.out, (hb2.block _ (lt_of_row HS1.out)).trans HS1.out, hli, by omega, hcb⟩
  have HFl := Lib.hid hFl
  obtain ⟨q, hq⟩ : ∃ q, L = 64 * q := ⟨L / 64, by omega⟩
  have hq1 : L ≤ 64 * q := by omega
  have hq2 : 64 * q ≤ L := by omega
  have HAb : Hid (absorb start F = blocks q start F) := Lib.hid (by unfold absorb; rw [hFl, hq, Nat.mul_div_cancel_left _ (by omega)])
  clear ho hFl hFw hF hL hzn hby hbase hli hb2 HB1 HR1 HS1 hq hn hz
  go_wp2
  go_loopw [5] (fun i wr => ∃ k j : Nat, k ≤ 64 * j ∧ 64 * j ≤ k ∧ j ≤ q ∧ i = .int .i64 k ∧ Su w (blocks j start F) c o F wr) (fun i _ => L - (intOf i).toNat)
  case atStart => exact ⟨0, 0, by omega, by omega, by omega, rfl, hsu⟩
  case round =>
    clear hsu
    obtain ⟨k, j, hk1, hk2, hjq, rfl, hsu⟩ := hrel
    by_cases hlt : k < L
    · have hdt : decide (k < L) = true := by simp; omega
      have HSn := Lib.hid (blocks_succ j start F)
      have hkk : 64 * j = k := by omega
      rw [hkk] at HSn
      clear hkk
      have hk64 : k + 64 ≤ L := by omega
      have hin := blocks_in j start F start_in
      obtain ⟨s, hs⟩ : ∃ s, blocks j start F = s := ⟨_, rfl⟩
      rw [hs] at hsu HSn hin
      clear hs
      have HIn : Hid (StW s) := Lib.hid hin
      have HZs := Lib.hid (show (Tryd.prog.info? 56).map (·.size) = some (rowN s.list).size by rw [rowN_size]; exact size48)
      have HZt := Lib.hid (show (Tryd.prog.info? 56).map (·.size) = some (rowN (s.turn ((F.drop k).take 64)).list).size by rw [rowN_size]; exact size48)
      have HYt := Lib.hid (show (rowN s.list).size = (rowN (s.turn ((F.drop k).take 64)).list).size by rw [rowN_size, rowN_size]; rfl)
      have HXt := Lib.hid (rowN_one (s.turn ((F.drop k).take 64)).list)
      have HCl := Lib.hid (show ((F.drop k).take 64).length = 64 by rw [List.length_take, List.length_drop, HFl.out]; omega)
      have HCr : Hid (rng ((F.drop k).take 64)) := Lib.hid (fun x hx => HR.out x (List.mem_of_mem_drop (List.mem_of_mem_take hx)))
      have CB : ∀ W, Su w s c o F W → Calls Tryd.prog 32 #[.agg (rowN s.list), .slice (some ⟨c, o + k, none⟩) 64 (c4 - k)] W fun e W' => e = .returned (.agg (rowN (s.turn ((F.drop k).take 64)).list)) ∧ Su w s c o F W' := fun W h => (HBk.out W s HIn.out c (o + k) (c4 - k) _ HCl.out ((h.lies.drop k).take 64) HCr.out (by omega)).mono (fun e W' h' => ⟨h'.1, h.next h'.2⟩)
      have CBh := Lib.hid CB
      have RC := Lib.hid (run_chunk c o L c4 k hk64 hLc)
      obtain ⟨t, ht⟩ : ∃ t, s.turn ((F.drop k).take 64) = t := ⟨_, rfl⟩
      rw [ht] at HSn HZt HYt HXt CBh
      have HSu := Lib.hid hsu
      clear CB ht hin hsu
      go_upto_region 6 with fail
      refine wp_region_quiet_tailR (C := fun W => Su w s c o F W) 7 (by kernel_rfl) (by kernel_rfl) HSu.out.drew ?_
      simp only [List.take_succ_cons, List.take_zero, List.drop_succ_cons, List.drop_zero]
      refine q_val (.agg (rowN s.list)) rfl (fun W hW => exec_load_row 56 (.tmp 3) rfl (w.heap.size + 1) rfl 56 (rowN s.list) (0, 0) _ hW.st Tryd.underlying56 rfl HZs.out) ?_
      simp only [Act.put, List.setIfInBounds_toArray, List.set_cons_succ, List.set_cons_zero]
      refine q_val _ rfl (fun _ _ => rfl) ?_
      simp only [Act.put, List.setIfInBounds_toArray, List.set_cons_succ, List.set_cons_zero]
      refine q_val _ rfl (fun _ _ => rfl) ?_
      simp only [Act.put, List.setIfInBounds_toArray, List.set_cons_succ, List.set_cons_zero]
      refine q_val _ rfl (fun _ _ => rfl) ?_
      simp only [Act.put, List.setIfInBounds_toArray, List.set_cons_succ, List.set_cons_zero]
      refine q_val (.int .i64 ((k + 64 : Nat) : Int)) rfl (fun W hW => exec_bin .add (.tmp 20) (.const (.int .i64 64)) rfl rfl (k : Int) 64 _ rfl rfl (run_add _ _ _ (by omega) (by omega) (by omega))) ?_
      simp only [Act.put, List.setIfInBounds_toArray, List.set_cons_succ, List.set_cons_zero]
      refine q_val (.slice (some ⟨c, o + k, none⟩) 64 (c4 - k)) rfl (fun W hW => exec_cut2 (.tmp 18) (.tmp 19) (.tmp 21) rfl _ (RC.out W)) ?_
      simp only [Act.put, List.setIfInBounds_toArray, List.set_cons_succ, List.set_cons_zero]
      refine q_call 32 #[.agg (rowN s.list), .slice (some ⟨c, o + k, none⟩) 64 (c4 - k)] (.agg (rowN t.list)) rfl (fun _ _ => exec_call2' 32 (.tmp 17) (.tmp 22) #[56, 38] _ _ rfl rfl rfl (cf22 _ _)) (fun W hW => CBh.out W hW) ?_
      simp only [Act.put, List.setIfInBounds_toArray, List.set_cons_succ, List.set_cons_zero]
      refine wpQuiet_nil ?_
      intro w5 h5
      have HSt5 := Lib.hid h5.st
      have HN5 := Lib.hid (h5.store t)
      clear h5
      go_wp2_with (refine wpList_store_row rfl 56 (.tmp 3) (.tmp 23) rfl (w.heap.size + 1) (rowN t.list) rfl rfl 56 _ HSt5.out HZt.out HYt.out HXt.out ?_)
      go_roundw
      case rel => exact ⟨k + 64, j + 1, by omega, by omega, by omega, by go_num, by rw [HSn.out]; exact HN5.out⟩
      case measure => simp [intOf]; omega
    · have hdf : decide (k < L) = false := by simp; omega
      obtain rfl : j = q := by omega
      rw [← HAb.out] at hsu
      have hSin : StW (absorb start F) := by rw [HAb.out]; exact blocks_in _ _ _ start_in
      obtain ⟨S, hS⟩ : ∃ S, absorb start F = S := ⟨_, rfl⟩
      rw [hS] at hsu HSum hSin
      have HIn : Hid (StW S) := Lib.hid hSin
      have HSu := Lib.hid hsu
      have hgq : w.heap.size + 1 < wr.heap.size := lt_of_row hsu.st
      have hz25 := zero25
      clear hS hsu hSin
      go_upto_region 8 with fail
      clear hz25
      refine gen_world (Q := fun w => Code.wp _ _ _ _ w) _ (Sv w S wr.heap.size (zs 32)) ?_ ?_
      · have hba : Below wr.heap.size wr (wr.alloc (.cells (rowB (zs 32)) 23)) := (Below.refl _ _).alloc (Nat.le_refl _) _
        have hn := HSu.out.next hba
        exact ⟨hn.below, hn.res, hn.st, hgq, heap_alloc_new _ _⟩
      generalize wr.heap.size = gq at hgq ⊢
      intro w6 hsv
      go_wp2
      go_loopw [7] (fun i wr => ∃ k : Nat, k ≤ 32 ∧ i = .int .i64 k ∧ Sv w S gq (digs S.list k) wr) (fun i _ => 32 - (intOf i).toNat)
      case atStart => exact ⟨0, by omega, rfl, hsv⟩
      case round =>
        clear hsv
        obtain ⟨k, hk, rfl, hsv⟩ := hrel
        by_cases hlt : k < 32
        · have hdt : decide ((k : Int) < 32) = true := by simp; omega
          have HDs := Lib.hid (digs_set S.list k hlt)
          have HDl := Lib.hid (digs_length S.list k)
          have X := allW_get HIn.out (k / 4) (by show k / 4 < 8; omega)
          have kS : ∀ W, Sv w S gq (digs S.list k) W → W.cell? ⟨w.heap.size + 1, k / 4, none⟩ = some (.int .i64 (S.list.getD (k / 4) 0)) := fun W h => h.scell (k / 4) (by omega)
          have hdb : dbyte S.list k = S.list.getD (k / 4) 0 / 2 ^ (24 - 8 * (k % 4)) % 256 := rfl
          obtain ⟨x, hx⟩ : ∃ x, S.list.getD (k / 4) 0 = x := ⟨_, rfl⟩
          obtain ⟨e, he⟩ : ∃ e, 24 - 8 * (k % 4) = e := ⟨_, rfl⟩
          rw [hx] at X kS hdb
          rw [he] at hdb
          obtain ⟨p1, p2⟩ := pow_le e (by omega)
          have pw : ∀ W, Sv w S gq (digs S.list k) W → Calls Tryd.prog 23 #[.int .i64 (e : Int)] W fun x W' => x = .returned (.int .i64 (2 ^ e)) ∧ Sv w S gq (digs S.list k) W' := fun W h => (power_any e (by omega) W).mono (fun x W' h' => ⟨h'.1, by rw [← h'.2]; exact h⟩)
          obtain ⟨P, hP⟩ : ∃ P : Int, 2 ^ e = P := ⟨_, rfl⟩
          rw [hP] at pw p1 p2 hdb
          obtain ⟨x1, x2⟩ := X
          have hq0 : 0 ≤ x / P := Int.ediv_nonneg x1 (by omega)
          obtain ⟨Q, hQ⟩ : ∃ Q, x / P = Q := ⟨_, rfl⟩
          rw [hQ] at hdb hq0
          obtain ⟨Z, hZ⟩ : ∃ Z, Q % 256 = Z := ⟨_, rfl⟩
          have hZ1 : 0 ≤ Z := by omega
          have hZ2 : Z < 256 := by omega
          have HQ := Lib.hid hQ
          have HZ3 := Lib.hid hZ
          have HDb : Hid (dbyte S.list k = Z) := Lib.hid (by rw [hdb, hZ])
          have KS := Lib.hid kS
          have PW := Lib.hid pw
          have HSv := Lib.hid hsv
          have HE1 : Hid ((24 : Int) - ((8 * (k % 4) : Nat) : Int) = (e : Int)) := Lib.hid (by omega)
          obtain ⟨D, hD⟩ : ∃ D, digs S.list k = D := ⟨_, rfl⟩
          rw [hD] at HDs HDl KS PW HSv
          clear kS pw hx he hP hQ hZ hdb hsv hD
          go_upto_region 11 with fail
          refine wp_region_quiet_tailR (C := fun W => Sv w S gq D W) 14 (by kernel_rfl) (by kernel_rfl) HSv.out.drew ?_
          simp only [List.take_succ_cons, List.take_zero, List.drop_succ_cons, List.drop_zero]
          refine q_val _ rfl (fun _ _ => rfl) ?_
          simp only [Act.put, List.setIfInBounds_toArray, List.set_cons_succ, List.set_cons_zero]
          refine q_val _ rfl (fun _ _ => rfl) ?_
          simp only [Act.put, List.setIfInBounds_toArray, List.set_cons_succ, List.set_cons_zero]
          refine q_val (.int .i64 ((k / 4 : Nat) : Int)) rfl (fun W hW => exec_bin .quo (.tmp 29) (.const (.int .i64 4)) rfl rfl (k : Int) 4 _ rfl rfl (by have h := run_quo (k : Int) 4 (by omega) (by omega) (by omega) W; rwa [show (k : Int) / 4 = ((k / 4 : Nat) : Int) by omega] at h)) ?_
          simp only [Act.put, List.setIfInBounds_toArray, List.set_cons_succ, List.set_cons_zero]
          refine q_val (.pointer (some ⟨w.heap.size + 1, k / 4, none⟩)) rfl (fun W hW => exec_idx 56 3 8 Tryd.underlying56 size3 (.tmp 3) (.tmp 30) rfl (w.heap.size + 1) (k / 4) rfl rfl (by omega)) ?_
          simp only [Act.put, List.setIfInBounds_toArray, List.set_cons_succ, List.set_cons_zero]
          refine q_val (.int .i64 x) rfl (fun W hW => exec_load_int (.tmp 31) rfl (w.heap.size + 1) (k / 4) x rfl (KS.out W hW)) ?_
          simp only [Act.put, List.setIfInBounds_toArray, List.set_cons_succ, List.set_cons_zero]
          refine q_val _ rfl (fun _ _ => rfl) ?_
          simp only [Act.put, List.setIfInBounds_toArray, List.set_cons_succ, List.set_cons_zero]
          refine q_val (.int .i64 ((k % 4 : Nat) : Int)) rfl (fun W hW => exec_bin .rem (.tmp 33) (.const (.int .i64 4)) rfl rfl (k : Int) 4 _ rfl rfl (run_rem _ _ _ (by omega) (by omega) (by omega) (by omega))) ?_
          simp only [Act.put, List.setIfInBounds_toArray, List.set_cons_succ, List.set_cons_zero]
          refine q_val (.int .i64 ((8 * (k % 4) : Nat) : Int)) rfl (fun W hW => exec_bin .mul (.const (.int .i64 8)) (.tmp 34) rfl rfl 8 ((k % 4 : Nat) : Int) _ rfl rfl (run_mul _ _ _ (by omega) (by omega) (by omega))) ?_
          simp only [Act.put, List.setIfInBounds_toArray, List.set_cons_succ, List.set_cons_zero]
          refine q_val (.int .i64 (e : Int)) rfl (fun W hW => exec_bin .sub (.const (.int .i64 24)) (.tmp 35) rfl rfl 24 ((8 * (k % 4) : Nat) : Int) _ rfl rfl (run_sub _ _ _ HE1.out (by omega) (by have := HE1.out; omega))) ?_
          simp only [Act.put, List.setIfInBounds_toArray, List.set_cons_succ, List.set_cons_zero]
          refine q_call 23 #[.int .i64 (e : Int)] (.int .i64 P) rfl (fun _ _ => exec_call1 23 (.tmp 36) #[3] _ rfl rfl (cf23 _ _)) (fun W hW => PW.out W hW) ?_
          simp only [Act.put, List.setIfInBounds_toArray, List.set_cons_succ, List.set_cons_zero]
          refine q_val (.int .i64 Q) rfl (fun W hW => exec_bin .quo (.tmp 32) (.tmp 37) rfl rfl x P Q rfl rfl (by have h := run_quo x P x1 (by omega) (by omega) W; rwa [HQ.out] at h)) ?_
          simp only [Act.put, List.setIfInBounds_toArray, List.set_cons_succ, List.set_cons_zero]
          refine q_val (.int .i64 Z) rfl (fun W hW => exec_bin .rem (.tmp 38) (.const (.int .i64 256)) rfl rfl Q 256 Z rfl rfl (run_rem _ _ _ HZ3.out hq0 (by omega) (by omega))) ?_
          simp only [Act.put, List.setIfInBounds_toArray, List.set_cons_succ, List.set_cons_zero]
          refine q_val (.int .u8 Z) rfl (fun W hW => exec_byte (.tmp 39) rfl Z rfl hZ1 hZ2) ?_
          simp only [Act.put, List.setIfInBounds_toArray, List.set_cons_succ, List.set_cons_zero]
          refine q_val (.pointer (some ⟨gq, k, none⟩)) rfl (fun W hW => exec_idx 23 5 32 Tryd.underlying23 size5 (.tmp 6) (.tmp 28) rfl gq k rfl rfl hlt) ?_
          simp only [Act.put, List.setIfInBounds_toArray, List.set_cons_succ, List.set_cons_zero]
          refine wpQuiet_nil ?_
          intro w7 h7
          have c1 := h7.cell k (by rw [HDl.out]; exact hlt)
          have f1 := h7.free k
          have HN7 := Lib.hid (h7.put k Z)
          clear h7
          go_wp2
          clear c1 f1
          go_roundw
          case rel => exact ⟨k + 1, by omega, by go_num, by rw [← HDs.out, HDb.out]; exact HN7.out⟩
          case measure => simp [intOf]; omega
        · obtain rfl : k = 32 := by omega
          clear hk hlt
          rw [show ((32 : Nat) : Int) = 32 from rfl]
          have hdf2 : decide ((32 : Int) < 32) = false := by decide
          rw [digs_all] at hsv
          have HFin : Hid (dig S.list 8 = sum l) := Lib.hid (by rw [HSum.out]; rfl)
          rw [HFin.out] at hsv
          have HLn := Lib.hid (sum_length l)
          obtain ⟨D, hD⟩ : ∃ D, sum l = D := ⟨_, rfl⟩
          rw [hD] at hsv HLn
          have HD := Lib.hid hD
          have HZd := Lib.hid (show (Tryd.prog.info? 23).map (·.size) = some (rowB D).size by rw [rowB_size, HLn.out]; exact size25)
          have HYd := Lib.hid (show (rowB (zs 32)).size = (rowB D).size by rw [rowB_size, rowB_size, HLn.out]; rfl)
          have HXd := Lib.hid (rowB_one D)
          have HRd := Lib.hid hsv.row
          have HQd := Lib.hid hsv.res
          have HBd := Lib.hid hsv.below
          clear hD hsv
          go_wp2_with (first
            | (refine wpList_load_row rfl 23 (.tmp 6) rfl gq rfl 23 (rowB D) (0, 0) _ HRd.out Tryd.underlying23 rfl HZd.out ?_)
            | (refine wpList_store_row rfl 23 (.tmp 2) (.tmp 42) rfl w.heap.size (rowB D) rfl rfl 23 _ HQd.out HZd.out HYd.out HXd.out ?_))
          exact bodyPost_ret (v := .agg (rowB D)) (results_cell_row Tryd.results17 _ _ w.heap.size 23 (rowB D) (0, 0) _ rfl (setRow_heap _ _ _ _ _ _ HQd.out) Tryd.underlying23 rfl HZd.out) rfl ⟨by rw [HD.out], below_setRow HBd.out (Nat.le_refl _) _⟩
end Go.Proofs.YtpaffncdfldnmaaDoor
