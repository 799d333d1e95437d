import Derived.Test.YtighmhoekbnagaaDoorRa
namespace Go.Proofs.YtighmhoekbnagaaDoor
open Go.ChangeShapes Go.WideShapes Go.ChangeAt Go.RowKit

/-- the boxes of Node's parameters and of its result -/
def NrS (w : World) (a b : List Int) (W : World) : Prop := Below w.heap.size w W ∧ W.heap[w.heap.size]? = some (.cells (rowB a) 24 (0, 0)) ∧ W.heap[w.heap.size + 1]? = some (.cells (rowB b) 24 (0, 0)) ∧ W.heap[w.heap.size + 2]? = some (.cells (rowB (zs 32)) 24 (0, 0))
theorem NrS.made (w : World) (a b : List Int) : NrS w a b (((w.alloc (.cells (rowB a) 24)).alloc (.cells (rowB b) 24)).alloc (.cells (rowB (zs 32)) 24)) := by
  refine ⟨(((Below.refl _ _).alloc (Nat.le_refl _) _).alloc (by simp) _).alloc (by simp; omega) _, ?_, ?_, ?_⟩
  · rw [Below.heap_alloc _ _ _ (by simp; omega), Below.heap_alloc _ _ _ (by simp)]
    exact heap_alloc_new _ _
  · have := heap_alloc_new (w.alloc (.cells (rowB a) 24)) (.cells (rowB b) 24)
    simp only [World.size_alloc] at this
    rw [Below.heap_alloc _ _ _ (by simp)]
    exact this
  · have := heap_alloc_new ((w.alloc (.cells (rowB a) 24)).alloc (.cells (rowB b) 24)) (.cells (rowB (zs 32)) 24)
    simp only [World.size_alloc] at this
    exact this
theorem NrS.later {w W W' : World} {a b : List Int} (h : NrS w a b W) (hb : Below W.heap.size W W') : NrS w a b W' :=
  ⟨h.1.trans (hb.mono h.1.size), (hb.block _ (Array.getElem?_eq_some_iff.1 h.2.1).1).trans h.2.1, (hb.block _ (Array.getElem?_eq_some_iff.1 h.2.2.1).1).trans h.2.2.1, (hb.block _ (Array.getElem?_eq_some_iff.1 h.2.2.2).1).trans h.2.2.2⟩
set_option maxRecDepth 100000 in
set_option maxHeartbeats 4000000 in
theorem refNode_any (hblk : BlockSpec) (w : World) (a b : List Int) (ha : a.length = 32) (hb : b.length = 32) (ra : rng a) (rb : rng b) :
    Calls Tryd.prog 16 #[.agg (rowB a), .agg (rowB b)] w fun e w' => e = .returned (.agg (rowB (nodeD a b))) ∧ Below w.heap.size w w' := by
  have HBk := Lib.hid hblk
  have HL := Lib.hid (fun W => nodeBytes_any W a b ha hb)
  have HR : Hid (rng (1 :: (a ++ b))) := fun x hx => by
    rcases List.mem_cons.1 hx with rfl | hx
    · omega
    · rcases List.mem_append.1 hx with hx | hx
      · exact ra x hx
      · exact rb x hx
  have HN : Hid ((1 :: (a ++ b)).length = 65) := by rw [Hid, List.length_cons, List.length_append, ha, hb]
  have HZa := Lib.hid (row_dig ha)
  have HZb := Lib.hid (row_dig hb)
  clear ra rb hblk ha hb
  go_enter Tryd.func16, Tryd.ntmps16
  go_upto_region 1 with fail
  simp only [Nat.add_assoc, Nat.reduceAdd]
  refine gen_world (Q := fun w => Code.wp _ _ _ _ w) _ (NrS w a b) (NrS.made w a b) ?_
  intro w1 h1
  have H1 := Lib.hid h1
  clear h1
  go_wp2_with (first
      | (refine wpList_load_row rfl 24 (.tmp 2) rfl w.heap.size rfl 24 (rowB a) (0, 0) _ H1.out.2.1 Tryd.underlying24 rfl HZa.out ?_)
      | (refine wpList_load_row rfl 24 (.tmp 3) rfl (w.heap.size + 1) rfl 24 (rowB b) (0, 0) _ H1.out.2.2.1 Tryd.underlying24 rfl HZb.out ?_))
  refine (HL.out w1).mono ?_
  rintro e w2 ⟨sp', cap', rfl, hb2, hw2⟩
  have H2 := Lib.hid (H1.out.later hw2)
  have HB2 := Lib.hid hb2
  clear hw2 hb2
  go_wp2_with fail
  refine (ref_sum HBk.out w2 sp' 65 cap' (1 :: (a ++ b)) HN.out HB2.out.by_ HB2.out.nul HR.out (by omega)).mono ?_
  rintro e w3 ⟨rfl, hw3⟩
  have H3 := Lib.hid (H2.out.later hw3)
  clear hw3
  have h32 := nodeD_length a b
  obtain ⟨F, hF⟩ : ∃ F, nodeD a b = F := ⟨_, rfl⟩
  rw [show sum (1 :: (a ++ b)) = F from hF]
  rw [hF] at h32
  have HZ := Lib.hid (row_dig h32)
  have HY := Lib.hid (row_dig0 h32)
  have HX := Lib.hid (rowB_one F)
  have HF := Lib.hid hF
  clear hF h32
  go_wp2_with (refine wpList_store_row rfl 24 (.tmp 4) (.tmp 8) rfl (w.heap.size + 2) (rowB F) rfl rfl 24 _ H3.out.2.2.2 HZ.out HY.out HX.out ?_)
  exact bodyPost_ret (v := .agg (rowB F)) (results_cell_row Tryd.results16 _ _ (w.heap.size + 2) 24 (rowB F) (0, 0) _ rfl (setRow_heap _ _ _ _ _ _ H3.out.2.2.2) Tryd.underlying24 rfl HZ.out) rfl ⟨by rw [HF.out], below_setRow H3.out.1 (by omega) _⟩
set_option maxRecDepth 100000 in
theorem half_any (n : Nat) (w : World) (h2 : 2 ≤ n) (hn : n ≤ 256) :
    Calls Tryd.prog 35 #[.int .i64 n] w fun e w' => ∃ k h : Nat, e = .returned (.int .i64 k) ∧ 2 ^ h = k ∧ k < n ∧ n ≤ 2 * k ∧ Below w.heap.size w w' := by
  go_enter Tryd.func35, Tryd.ntmps35
  go_wp2
  go_loopw [3] (fun v wr => ∃ k : Nat, (∃ h, 2 ^ h = k) ∧ k < n ∧ v = .int .i64 k ∧ wr = w) (fun v _ => n - (intOf v).toNat)
  case atStart => exact ⟨1, ⟨0, rfl⟩, by omega, rfl, rfl⟩
  case round =>
    obtain ⟨k, hp, hk, rfl, rfl⟩ := hrel
    have HPw := Lib.hid hp
    have hk0 : 0 < k := by obtain ⟨h, rfl⟩ := hp; exact pow_pos2 h
    clear hp
    by_cases hlt : (k : Int) < (n : Int) - (k : Int)
    · have hdt : decide ((k : Int) < (n : Int) - (k : Int)) = true := by simpa using hlt
      go_wp2
      go_roundw
      case rel => exact ⟨k * 2, by obtain ⟨h, hh⟩ := HPw.out; exact ⟨h + 1, by rw [Nat.pow_succ, hh]⟩, by omega, by go_num, trivial⟩
      case measure => simp [intOf]; omega
    · have hdt : decide ((k : Int) < (n : Int) - (k : Int)) = false := by simpa using hlt
      go_wp2
      go_ret
      obtain ⟨h, hh⟩ := HPw.out
      exact ⟨k, rfl, ⟨h, hh⟩, by omega, by omega, Below.refl _ _⟩
theorem cfRefRoot (vs : Array Value) (W : World) : (callFunc 14 vs).run Tryd.prog W = .ok (.enter 14 vs) W := cf Tryd.func14 (by kernel_rfl) (by kernel_rfl) vs W
theorem cfRefNode (vs : Array Value) (W : World) : (callFunc 16 vs).run Tryd.prog W = .ok (.enter 16 vs) W := cf Tryd.func16 (by kernel_rfl) (by kernel_rfl) vs W
theorem cfRefLeaf (vs : Array Value) (W : World) : (callFunc 12 vs).run Tryd.prog W = .ok (.enter 12 vs) W := cf Tryd.func12 (by kernel_rfl) (by kernel_rfl) vs W
theorem cfLeaf (vs : Array Value) (W : World) : (callFunc 11 vs).run Tryd.prog W = .ok (.enter 11 vs) W := cf Tryd.func11 (by kernel_rfl) (by kernel_rfl) vs W
/-- what the reference takes: few leaves, of few bytes -/
structure Smal (ls : List (List Int)) : Prop where
  many : ls.length ≤ 256
  long : ∀ l ∈ ls, l.length ≤ 100
  rng : ∀ l ∈ ls, rng l
theorem Smal.take {ls : List (List Int)} (h : Smal ls) (k : Nat) : Smal (ls.take k) := ⟨by rw [List.length_take]; have := h.many; omega, fun l hl => h.long l (List.mem_of_mem_take hl), fun l hl => h.rng l (List.mem_of_mem_take hl)⟩
theorem Smal.drop {ls : List (List Int)} (h : Smal ls) (k : Nat) : Smal (ls.drop k) := ⟨by rw [List.length_drop]; have := h.many; omega, fun l hl => h.long l (List.mem_of_mem_drop hl), fun l hl => h.rng l (List.mem_of_mem_drop hl)⟩
theorem rng_root (ls : List (List Int)) : rng (rootD ls) := by
  unfold rootD
  split
  · exact rng_sum _
  · exact rt_all (P := rng) nodeD (fun a b => rng_sum _) (fun x hx => by cases hx) _ _ (fun d hd => by
      obtain ⟨l, _, rfl⟩ := List.mem_map.1 hd
      exact rng_sum _)
set_option maxRecDepth 100000 in
set_option maxHeartbeats 4000000 in
theorem refRoot_none (hblk : BlockSpec) (w : World) (sp : Option Addr) (cap : Nat) : Calls Tryd.prog 14 #[.slice sp 0 cap] w fun e w' => e = .returned (.agg (rowB (rootD []))) ∧ Below w.heap.size w w' := by
  have HBk := Lib.hid hblk
  clear hblk
  go_enter Tryd.func14, Tryd.ntmps14
  go_upto_region 1 with fail
  refine gen_world (Q := fun w => Code.wp _ _ _ _ w) _ (Res w) (Res.new w _ (by kernel_rfl)) ?_
  intro w1 hr1
  have HR1 := Lib.hid hr1
  clear hr1
  go_wp2_with fail
  refine (ref_sum HBk.out _ _ 1 1 [2] rfl (Byt.lit w1 2 (0, 0)).by_ (Byt.lit w1 2 (0, 0)).nul (fun x hx => by rcases List.mem_singleton.1 hx with rfl; omega) (by omega)).mono ?_
  rintro e w3 ⟨rfl, hw3⟩
  have HR3 := Lib.hid (HR1.out.later (((Below.refl _ w1).alloc (Nat.le_refl _) _).trans (hw3.mono (by simp))))
  clear hw3
  have h32 := rootD_length []
  obtain ⟨F, hF⟩ : ∃ F, rootD [] = F := ⟨_, rfl⟩
  rw [show sum [2] = F from (rootD_nil.symm.trans hF : noneD = F)]
  rw [hF] at h32
  have HZ := Lib.hid (row_dig h32)
  have HY := Lib.hid (row_dig0 h32)
  have HX := Lib.hid (rowB_one F)
  have HF := Lib.hid hF
  clear hF h32
  go_wp2_with (refine wpList_store_row rfl 24 (.tmp 2) (.tmp 8) rfl w.heap.size (rowB F) rfl rfl 24 _ HR3.out.res HZ.out HY.out HX.out ?_)
  exact bodyPost_ret (v := .agg (rowB F)) (results_cell_row Tryd.results14 _ _ w.heap.size 24 (rowB F) (0, 0) _ rfl (setRow_heap _ _ _ _ _ _ HR3.out.res) Tryd.underlying24 rfl HZ.out) rfl ⟨by rw [HF.out], below_setRow HR3.out.below (Nat.le_refl _) _⟩
set_option maxRecDepth 100000 in
set_option maxHeartbeats 4000000 in
theorem refRoot_one (hblk : BlockSpec) (w : World) (sp : Option Addr) (cap : Nat) (l : List Int) (hP : Pcs w sp cap [l]) (hs : Smal [l]) :
    Calls Tryd.prog 14 #[.slice sp 1 cap] w fun e w' => e = .returned (.agg (rowB (rootD [l]))) ∧ Below w.heap.size w w' := by
  have HBk := Lib.hid hblk
  obtain ⟨c, o, s2, c2, rfl, hcell, hb⟩ := hP.at_ 0 (by simp)
  have hr : ∀ W, Res w W → W.cell? ⟨c, o, none⟩ = some (.slice s2 l.length c2) ∧ Byt W s2 c2 l := fun W h => ⟨(h.below.cell (block_lt_of_cell hcell)).trans hcell, hb.below h.below⟩
  have HR := Lib.hid hr
  have HL := Lib.hid (hs.long l (by simp))
  have HG := Lib.hid (hs.rng l (by simp))
  clear hP hcell hb hs hr hblk
  rw [rootD_one]
  go_enter Tryd.func14, Tryd.ntmps14
  go_upto_region 1 with fail
  refine gen_world (Q := fun w => Code.wp _ _ _ _ w) _ (Res w) (Res.new w _ (by kernel_rfl)) ?_
  intro w1 hr1
  obtain ⟨hc1, hb1⟩ := HR.out w1 hr1
  have HR1 := Lib.hid hr1
  have HB1 := Lib.hid hb1
  clear hr1 hb1
  obtain ⟨m, hm⟩ : ∃ m, l.length = m := ⟨_, rfl⟩
  rw [hm] at hc1
  have HM := Lib.hid hm
  clear hm
  go_wp2_with fail
  refine (refLeaf_any HBk.out w1 s2 m c2 l HM.out HB1.out (by rw [← HM.out]; exact HL.out) HG.out).mono ?_
  rintro e w3 ⟨rfl, hw3⟩
  have HR3 := Lib.hid (HR1.out.later hw3)
  clear hw3 hc1
  have h32 := leafD_length l
  obtain ⟨F, hF⟩ : ∃ F, leafD l = F := ⟨_, rfl⟩
  rw [hF]
  rw [hF] at h32
  have HZ := Lib.hid (row_dig h32)
  have HY := Lib.hid (row_dig0 h32)
  have HX := Lib.hid (rowB_one F)
  have HF := Lib.hid hF
  clear hF h32
  go_wp2_with (refine wpList_store_row rfl 24 (.tmp 2) (.tmp 15) rfl w.heap.size (rowB F) rfl rfl 24 _ HR3.out.res HZ.out HY.out HX.out ?_)
  exact bodyPost_ret (v := .agg (rowB F)) (results_cell_row Tryd.results14 _ _ w.heap.size 24 (rowB F) (0, 0) _ rfl (setRow_heap _ _ _ _ _ _ HR3.out.res) Tryd.underlying24 rfl HZ.out) rfl ⟨by rw [HF.out], below_setRow HR3.out.below (Nat.le_refl _) _⟩
set_option maxRecDepth 100000 in
set_option maxHeartbeats 4000000 in
theorem refRoot_many (hblk : BlockSpec) (w : World) (sp : Option Addr) (n cap : Nat) (ls : List (List Int)) (hn : ls.length = n) (hP : Pcs w sp cap ls) (hm : Smal ls) (h2 : 2 ≤ n)
    (ih : ∀ (w : World) (sp : Option Addr) (n' cap : Nat) (ls : List (List Int)), n' < n → ls.length = n' → Pcs w sp cap ls → Smal ls → Calls Tryd.prog 14 #[.slice sp n' cap] w fun e w' => e = .returned (.agg (rowB (rootD ls))) ∧ Below w.heap.size w w') :
    Calls Tryd.prog 14 #[.slice sp n cap] w fun e w' => e = .returned (.agg (rowB (rootD ls))) ∧ Below w.heap.size w w' := by
  have hn256 : n ≤ 256 := by rw [← hn]; exact hm.many
  have hcap : n ≤ cap := by rw [← hn]; exact hP.le
  have HP := Lib.hid hP
  have HM := Lib.hid hm
  have HI := Lib.hid ih
  have HN := Lib.hid hn
  have HBk := Lib.hid hblk
  clear hP hm ih hn hblk
  have d0 : ((n : Int) == 0) = false := by rw [beq_eq_false_iff_ne]; omega
  have d1 : ((n : Int) == 1) = false := by rw [beq_eq_false_iff_ne]; omega
  go_enter Tryd.func14, Tryd.ntmps14
  go_upto_region 1 with fail
  refine gen_world (Q := fun w => Code.wp _ _ _ _ w) _ (Res w) (Res.new w _ (by kernel_rfl)) ?_
  intro w0 hr0
  have HR0 := Lib.hid hr0
  clear hr0
  go_upto_region 6 with (go_at_call 35; refine (half_any _ _ h2 hn256).mono ?_; rintro e w1 ⟨k, h, rfl, hh, hk, hk2, hb1⟩; have HR1 := Lib.hid (HR0.out.later hb1); have HH := Lib.hid hh; clear hb1 hh)
  have hsp := rootD_split ls h (by rw [HN.out, HH.out]; exact hk) (by rw [HN.out, Nat.pow_succ, HH.out]; omega)
  have hp0 : 0 < k := by rw [← HH.out]; exact pow_pos2 h
  rw [HH.out] at hsp
  have hl1 : (ls.take k).length = k := by rw [List.length_take, HN.out]; omega
  have hl2 : (ls.drop k).length = n - k := by rw [List.length_drop, HN.out]
  have hP1 := HP.out.first k
  have hP2 := HP.out.cut k (by rw [HN.out]; omega)
  have hm1 := HM.out.take k
  have hm2 := HM.out.drop k
  obtain ⟨A, hA⟩ : ∃ A, ls.take k = A := ⟨_, rfl⟩
  obtain ⟨B, hB⟩ : ∃ B, ls.drop k = B := ⟨_, rfl⟩
  rw [hA, hB] at hsp
  rw [hA] at hl1 hP1 hm1
  rw [hB] at hl2 hP2 hm2
  have HI1 := Lib.hid (fun W (hb : Below w.heap.size w W) => HI.out W sp k cap A hk hl1 (hP1.below hb) hm1)
  have HI2 := Lib.hid (fun W (hb : Below w.heap.size w W) => HI.out W (cutA sp cap k) (n - k) (cap - k) B (by omega) hl2 (hP2.below hb) hm2)
  have HNd := Lib.hid (fun W => refNode_any HBk.out W (rootD A) (rootD B) (rootD_length A) (rootD_length B) (rng_root A) (rng_root B))
  have HC1 := Lib.hid (run_head 22 28 Tryd.underlying22 size28 sp n cap k (by omega))
  have HC2 := Lib.hid (run_cut 22 28 Tryd.underlying22 size28 sp n cap k (by omega))
  have hr32 := nodeD_length (rootD A) (rootD B)
  clear hP1 hP2 hm1 hm2 hA hB hl1 hl2
  obtain ⟨R1, hR1⟩ : ∃ R, rootD A = R := ⟨_, rfl⟩
  obtain ⟨R2, hR2⟩ : ∃ R, rootD B = R := ⟨_, rfl⟩
  rw [hR1, hR2] at HNd hr32 hsp
  rw [hR1] at HI1
  rw [hR2] at HI2
  clear hR1 hR2
  obtain ⟨F, hF⟩ : ∃ F, nodeD R1 R2 = F := ⟨_, rfl⟩
  rw [hF] at HNd hr32 hsp
  have HF := Lib.hid hsp
  clear hF hsp HH
  have HZ := Lib.hid (row_dig hr32)
  have HY := Lib.hid (row_dig0 hr32)
  have HX := Lib.hid (rowB_one F)
  clear hr32
  refine wp_region_quiet_tail (C := fun W => Below w1.heap.size w1 W) 9 (by kernel_rfl) (by kernel_rfl) ⟨rfl, rfl, rfl, Nat.le_refl _, fun _ _ => rfl⟩ ?_
  have hw : ∀ W, Below w1.heap.size w1 W → Below w.heap.size w W := fun W h => HR1.out.below.trans (h.mono HR1.out.below.size)
  simp only [List.take_succ_cons, List.take_zero, List.drop_succ_cons, List.drop_zero]
  refine q_val _ rfl (fun _ _ => rfl) ?_
  simp only [Act.put, List.setIfInBounds_toArray, List.set_cons_succ, List.set_cons_zero]
  refine q_val _ rfl (fun _ _ => rfl) ?_
  simp only [Act.put, List.setIfInBounds_toArray, List.set_cons_succ, List.set_cons_zero]
  refine q_val (.slice sp k cap) rfl (fun W _ => exec_cut 22 28 (.tmp 19) none (some (.tmp 20)) rfl Tryd.underlying22 _ (HC1.out W)) ?_
  simp only [Act.put, List.setIfInBounds_toArray, List.set_cons_succ, List.set_cons_zero]
  refine q_call 14 #[.slice sp k cap] (.agg (rowB R1)) rfl (fun _ _ => exec_call1 14 (.tmp 21) #[22] (.slice sp k cap) rfl rfl (cfRefRoot _ _)) (fun W hW => (HI1.out W (hw W hW)).mono fun e W' h => ⟨h.1, hW.trans (h.2.mono hW.size)⟩) ?_
  simp only [Act.put, List.setIfInBounds_toArray, List.set_cons_succ, List.set_cons_zero]
  refine q_val _ rfl (fun _ _ => rfl) ?_
  simp only [Act.put, List.setIfInBounds_toArray, List.set_cons_succ, List.set_cons_zero]
  refine q_val _ rfl (fun _ _ => rfl) ?_
  simp only [Act.put, List.setIfInBounds_toArray, List.set_cons_succ, List.set_cons_zero]
  refine q_val (.slice (cutA sp cap k) (n - k) (cap - k)) rfl (fun W _ => exec_cut 22 28 (.tmp 23) (some (.tmp 24)) none rfl Tryd.underlying22 _ (HC2.out W)) ?_
  simp only [Act.put, List.setIfInBounds_toArray, List.set_cons_succ, List.set_cons_zero]
  refine q_call 14 #[.slice (cutA sp cap k) (n - k) (cap - k)] (.agg (rowB R2)) rfl (fun _ _ => exec_call1 14 (.tmp 25) #[22] (.slice (cutA sp cap k) (n - k) (cap - k)) rfl rfl (cfRefRoot _ _)) (fun W hW => (HI2.out W (hw W hW)).mono fun e W' h => ⟨h.1, hW.trans (h.2.mono hW.size)⟩) ?_
  simp only [Act.put, List.setIfInBounds_toArray, List.set_cons_succ, List.set_cons_zero]
  refine q_call 16 #[.agg (rowB R1), .agg (rowB R2)] (.agg (rowB F)) rfl (fun _ _ => exec_call2 16 (.tmp 22) (.tmp 26) #[24, 24] _ _ rfl rfl rfl (cfRefNode _ _)) (fun W hW => (HNd.out W).mono fun e W' h => ⟨h.1, hW.trans (h.2.mono hW.size)⟩) ?_
  simp only [Act.put, List.setIfInBounds_toArray, List.set_cons_succ, List.set_cons_zero]
  refine wpQuiet_nil ?_
  intro w2 hw2
  have HR2 := Lib.hid (HR1.out.later hw2)
  clear hw2 hw
  go_wp2_with (refine wpList_store_row rfl 24 (.tmp 2) (.tmp 27) rfl w.heap.size (rowB F) rfl rfl 24 _ HR2.out.res HZ.out HY.out HX.out ?_)
  exact bodyPost_ret (v := .agg (rowB F)) (results_cell_row Tryd.results14 _ _ w.heap.size 24 (rowB F) (0, 0) _ rfl (setRow_heap _ _ _ _ _ _ HR2.out.res) Tryd.underlying24 rfl HZ.out) rfl ⟨by rw [HF.out], below_setRow HR2.out.below (Nat.le_refl _) _⟩
theorem refRoot_upto (hblk : BlockSpec) : ∀ (m : Nat) (w : World) (sp : Option Addr) (n cap : Nat) (ls : List (List Int)), n < m → ls.length = n → Pcs w sp cap ls → Smal ls →
    Calls Tryd.prog 14 #[.slice sp n cap] w fun e w' => e = .returned (.agg (rowB (rootD ls))) ∧ Below w.heap.size w w'
  | 0, _, _, _, _, _, h, _, _, _ => absurd h (by omega)
  | m + 1, w, sp, n, cap, ls, h, hn, hP, hm => by
    by_cases h0 : n = 0
    · subst h0
      obtain rfl := List.eq_nil_of_length_eq_zero hn
      exact refRoot_none hblk w sp cap
    · by_cases h1 : n = 1
      · subst h1
        obtain ⟨l, rfl⟩ := List.length_eq_one_iff.1 hn
        exact refRoot_one hblk w sp cap l hP hm
      · exact refRoot_many hblk w sp n cap ls hn hP hm (by omega) (fun w sp n' cap ls h' hn hP hm => refRoot_upto hblk m w sp n' cap ls (by omega) hn hP hm)
theorem refRoot_any (hblk : BlockSpec) (w : World) (sp : Option Addr) (n cap : Nat) (ls : List (List Int)) (hn : ls.length = n) (hP : Pcs w sp cap ls) (hm : Smal ls) :
    Calls Tryd.prog 14 #[.slice sp n cap] w fun e w' => e = .returned (.agg (rowB (rootD ls))) ∧ Below w.heap.size w w' := refRoot_upto hblk (n + 1) w sp n cap ls (by omega) hn hP hm
end Go.Proofs.YtighmhoekbnagaaDoor
