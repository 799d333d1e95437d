import Derived.Test.YtighmhoekbnagaaDoorKd
namespace Go.Proofs.YtighmhoekbnagaaDoor
open Go.ChangeShapes Go.WideShapes Go.ChangeAt Go.RowKit

/-- leaves that are not too many, or too long -/
structure Mild (ls : List (List Int)) : Prop where
  many : ls.length ≤ 256
  long : ∀ l ∈ ls, l.length ≤ 1000000
theorem Mild.take {ls : List (List Int)} (h : Mild ls) (k : Nat) : Mild (ls.take k) := ⟨by rw [List.length_take]; have := h.many; omega, fun l hl => h.long l (List.mem_of_mem_take hl)⟩
theorem Mild.drop {ls : List (List Int)} (h : Mild ls) (k : Nat) : Mild (ls.drop k) := ⟨by rw [List.length_drop]; have := h.many; omega, fun l hl => h.long l (List.mem_of_mem_drop hl)⟩
set_option maxRecDepth 100000 in
set_option maxHeartbeats 4000000 in
theorem root_one (w : World) (sp : Option Addr) (cap : Nat) (l : List Int) (hP : Pcs w sp cap [l]) (he : Env w) (hs : l.length ≤ 1000000) :
    Calls Tryd.prog 13 #[.slice sp 1 cap] w fun e w' => e = .returned (.agg (rowB (rootD [l]))) ∧ Below w.heap.size w w' := by
  have HE := Lib.hid he
  have HP := Lib.hid hP
  have HS := Lib.hid hs
  obtain ⟨c, o, s2, c2, rfl, hcell, hb⟩ := hP.at_ 0 (by simp)
  have hr : ∀ W, Res w W → W.cell? ⟨c, o, none⟩ = some (.slice s2 l.length c2) ∧ Byt W s2 c2 l := fun W h => ⟨(h.below.cell (block_lt_of_cell hcell)).trans hcell, hb.below h.below⟩
  have HR := Lib.hid hr
  clear hP he hcell hb hs hr
  rw [rootD_one]
  go_enter Tryd.func13, Tryd.ntmps13
  go_upto_region 1 with fail
  refine gen_world (Q := fun w => Code.wp _ _ _ _ w) _ (Res w) (Res.new w _ (by kernel_rfl)) ?_
  intro w1 hr1
  obtain ⟨hc1, hb1⟩ := HR.out w1 hr1
  have HR1 := Lib.hid hr1
  have HB1 := Lib.hid hb1
  clear hr1 hb1
  obtain ⟨m, hm⟩ : ∃ m, l.length = m := ⟨_, rfl⟩
  rw [hm] at hc1
  have HM := Lib.hid hm
  clear hm
  go_wp2_with fail
  refine (leaf_any w1 s2 m c2 l HM.out HB1.out (HE.out.below HR1.out.below) (by rw [← HM.out]; exact HS.out)).mono ?_
  rintro e w2 ⟨rfl, hb2⟩
  have HR2 := Lib.hid (HR1.out.later hb2)
  clear hb2 hc1
  have HZ := Lib.hid (row_dig (leafD_length l))
  have HY := Lib.hid (show (rowB (zs 32)).size = (rowB (leafD l)).size by rw [← row_dig0 (leafD_length l)]; rfl)
  have HX := Lib.hid (rowB_one (leafD l))
  obtain ⟨F, hF⟩ : ∃ F, leafD l = F := ⟨_, rfl⟩
  rw [hF] at HZ HY HX ⊢
  have HF := Lib.hid hF
  clear hF
  go_wp2_with (refine wpList_store_row rfl 24 (.tmp 2) (.tmp 14) rfl w.heap.size (rowB F) rfl rfl 24 _ HR2.out.res HZ.out HY.out HX.out ?_)
  exact bodyPost_ret (v := .agg (rowB F)) (results_cell_row Tryd.results13 _ _ w.heap.size 24 (rowB F) (0, 0) _ rfl (setRow_heap _ _ _ _ _ _ HR2.out.res) Tryd.underlying24 rfl HZ.out) rfl ⟨by rw [HF.out], below_setRow HR2.out.below (Nat.le_refl _) _⟩
set_option maxRecDepth 100000 in
set_option maxHeartbeats 4000000 in
theorem root_many (w : World) (sp : Option Addr) (n cap : Nat) (ls : List (List Int)) (hn : ls.length = n) (hP : Pcs w sp cap ls) (he : Env w) (hm : Mild ls) (h2 : 2 ≤ n)
    (ih : ∀ (w : World) (sp : Option Addr) (n' cap : Nat) (ls : List (List Int)), n' < n → ls.length = n' → Pcs w sp cap ls → Env w → Mild ls → Calls Tryd.prog 13 #[.slice sp n' cap] w fun e w' => e = .returned (.agg (rowB (rootD ls))) ∧ Below w.heap.size w w') :
    Calls Tryd.prog 13 #[.slice sp n cap] w fun e w' => e = .returned (.agg (rowB (rootD ls))) ∧ Below w.heap.size w w' := by
  have hn256 : n ≤ 256 := by rw [← hn]; exact hm.many
  obtain ⟨s1, s2, s3, _⟩ := fp_spec n h2 hn256
  have hcap : n ≤ cap := by rw [← hn]; exact hP.le
  have hsp := rootD_split ls (fp n) (by rw [hn]; exact s1) (by rw [hn]; exact s2)
  have hl1 : (ls.take (2 ^ fp n)).length = 2 ^ fp n := by rw [List.length_take, hn]; omega
  have hl2 : (ls.drop (2 ^ fp n)).length = n - 2 ^ fp n := by rw [List.length_drop, hn]
  have hp0 := pow_pos2 (fp n)
  have HFi := Lib.hid (fun w => first_any n w h2 hn256)
  have hP1 := hP.first (2 ^ fp n)
  have hP2 := hP.cut (2 ^ fp n) (by rw [hn]; omega)
  have hm1 := hm.take (2 ^ fp n)
  have hm2 := hm.drop (2 ^ fp n)
  obtain ⟨k, hk⟩ : ∃ k, 2 ^ fp n = k := ⟨_, rfl⟩
  rw [hk] at s1 hsp hl1 hl2 hp0 HFi hP1 hP2 hm1 hm2
  clear hk s2 s3
  rw [hsp]
  obtain ⟨A, hA⟩ : ∃ A, ls.take k = A := ⟨_, rfl⟩
  obtain ⟨B, hB⟩ : ∃ B, ls.drop k = B := ⟨_, rfl⟩
  rw [hA, hB]
  rw [hA] at hl1 hP1 hm1
  rw [hB] at hl2 hP2 hm2
  have HE := Lib.hid he
  have HI1 := Lib.hid (fun W (hb : Below w.heap.size w W) => ih W sp k cap A s1 hl1 (hP1.below hb) (he.below hb) hm1)
  have HI2 := Lib.hid (fun W (hb : Below w.heap.size w W) => ih W (cutA sp cap k) (n - k) (cap - k) B (by omega) hl2 (hP2.below hb) (he.below hb) hm2)
  have HN := Lib.hid (fun W (hb : Below w.heap.size w W) => node_any W (rootD A) (rootD B) (rootD_length A) (rootD_length B) (he.below hb))
  have HC1 := Lib.hid (run_head 22 28 Tryd.underlying22 size28 sp n cap k (by omega))
  have HC2 := Lib.hid (run_cut 22 28 Tryd.underlying22 size28 sp n cap k (by omega))
  have hr32 := nodeD_length (rootD A) (rootD B)
  clear ih hP hP1 hP2 hm hm1 hm2 hA hB hl1 hl2 hsp he
  obtain ⟨R1, hR1⟩ : ∃ R, rootD A = R := ⟨_, rfl⟩
  obtain ⟨R2, hR2⟩ : ∃ R, rootD B = R := ⟨_, rfl⟩
  rw [hR1, hR2] at HN hr32 ⊢
  rw [hR1] at HI1
  rw [hR2] at HI2
  clear hR1 hR2
  obtain ⟨F, hF⟩ : ∃ F, nodeD R1 R2 = F := ⟨_, rfl⟩
  rw [hF] at HN hr32 ⊢
  clear hF
  have HZ := Lib.hid (row_dig hr32)
  have HY := Lib.hid (show (rowB (zs 32)).size = (rowB F).size by rw [← row_dig0 hr32]; rfl)
  have HX := Lib.hid (rowB_one F)
  clear hr32
  have d0 : ((n : Int) == 0) = false := by rw [beq_eq_false_iff_ne]; omega
  have d1 : ((n : Int) == 1) = false := by rw [beq_eq_false_iff_ne]; omega
  have hnn : n - k ≤ n := by omega
  go_enter Tryd.func13, Tryd.ntmps13
  go_upto_region 1 with fail
  refine gen_world (Q := fun w => Code.wp _ _ _ _ w) _ (Res w) (Res.new w _ (by kernel_rfl)) ?_
  intro w1 hr1
  have HR1 := Lib.hid hr1
  clear hr1
  go_upto_region 7 with (go_at_call 34; refine (HFi.out _).mono ?_; rintro e w' ⟨rfl, rfl⟩)
  refine wp_region_quiet_tail (C := fun W => Below w1.heap.size w1 W) 9 (by kernel_rfl) (by kernel_rfl) ⟨rfl, rfl, rfl, Nat.le_refl _, fun _ _ => rfl⟩ ?_
  have hw : ∀ W, Below w1.heap.size w1 W → Below w.heap.size w W := fun W h => HR1.out.below.trans (h.mono HR1.out.below.size)
  simp only [List.take_succ_cons, List.take_zero, List.drop_succ_cons, List.drop_zero]
  refine q_val _ rfl (fun _ _ => rfl) ?_
  simp only [Act.put, List.setIfInBounds_toArray, List.set_cons_succ, List.set_cons_zero]
  refine q_val _ rfl (fun _ _ => rfl) ?_
  simp only [Act.put, List.setIfInBounds_toArray, List.set_cons_succ, List.set_cons_zero]
  refine q_val (.slice sp k cap) rfl (fun W _ => exec_cut 22 28 (.tmp 18) none (some (.tmp 19)) rfl Tryd.underlying22 _ (HC1.out W)) ?_
  simp only [Act.put, List.setIfInBounds_toArray, List.set_cons_succ, List.set_cons_zero]
  refine q_call 13 #[.slice sp k cap] (.agg (rowB R1)) rfl (fun _ _ => exec_call1 13 (.tmp 20) #[22] (.slice sp k cap) rfl rfl (cfRoot _ _)) (fun W hW => (HI1.out W (hw W hW)).mono fun e W' h => ⟨h.1, hW.trans (h.2.mono hW.size)⟩) ?_
  simp only [Act.put, List.setIfInBounds_toArray, List.set_cons_succ, List.set_cons_zero]
  refine q_val _ rfl (fun _ _ => rfl) ?_
  simp only [Act.put, List.setIfInBounds_toArray, List.set_cons_succ, List.set_cons_zero]
  refine q_val _ rfl (fun _ _ => rfl) ?_
  simp only [Act.put, List.setIfInBounds_toArray, List.set_cons_succ, List.set_cons_zero]
  refine q_val (.slice (cutA sp cap k) (n - k) (cap - k)) rfl (fun W _ => exec_cut 22 28 (.tmp 22) (some (.tmp 23)) none rfl Tryd.underlying22 _ (HC2.out W)) ?_
  simp only [Act.put, List.setIfInBounds_toArray, List.set_cons_succ, List.set_cons_zero]
  refine q_call 13 #[.slice (cutA sp cap k) (n - k) (cap - k)] (.agg (rowB R2)) rfl (fun _ _ => exec_call1 13 (.tmp 24) #[22] (.slice (cutA sp cap k) (n - k) (cap - k)) rfl rfl (cfRoot _ _)) (fun W hW => (HI2.out W (hw W hW)).mono fun e W' h => ⟨h.1, hW.trans (h.2.mono hW.size)⟩) ?_
  simp only [Act.put, List.setIfInBounds_toArray, List.set_cons_succ, List.set_cons_zero]
  refine q_call 15 #[.agg (rowB R1), .agg (rowB R2)] (.agg (rowB F)) rfl (fun _ _ => exec_call2 15 (.tmp 21) (.tmp 25) #[24, 24] _ _ rfl rfl rfl (cfNode _ _)) (fun W hW => (HN.out W (hw W hW)).mono fun e W' h => ⟨h.1, hW.trans (h.2.mono hW.size)⟩) ?_
  simp only [Act.put, List.setIfInBounds_toArray, List.set_cons_succ, List.set_cons_zero]
  refine wpQuiet_nil ?_
  intro w2 hw2
  have HR2 := Lib.hid (HR1.out.later hw2)
  clear hw2 hw
  go_wp2_with (refine wpList_store_row rfl 24 (.tmp 2) (.tmp 26) rfl w.heap.size (rowB F) rfl rfl 24 _ HR2.out.res HZ.out HY.out HX.out ?_)
  exact bodyPost_ret (v := .agg (rowB F)) (results_cell_row Tryd.results13 _ _ w.heap.size 24 (rowB F) (0, 0) _ rfl (setRow_heap _ _ _ _ _ _ HR2.out.res) Tryd.underlying24 rfl HZ.out) rfl ⟨rfl, below_setRow HR2.out.below (Nat.le_refl _) _⟩
theorem root_upto : ∀ (m : Nat) (w : World) (sp : Option Addr) (n cap : Nat) (ls : List (List Int)), n < m → ls.length = n → Pcs w sp cap ls → Env w → Mild ls →
    Calls Tryd.prog 13 #[.slice sp n cap] w fun e w' => e = .returned (.agg (rowB (rootD ls))) ∧ Below w.heap.size w w'
  | 0, _, _, _, _, _, h, _, _, _, _ => absurd h (by omega)
  | m + 1, w, sp, n, cap, ls, hnm, hn, hP, he, hm => by
    by_cases h2 : 2 ≤ n
    · exact root_many w sp n cap ls hn hP he hm h2 (fun w' sp' n' cap' ls' h => root_upto m w' sp' n' cap' ls' (by omega))
    · by_cases h1 : n = 1
      · subst h1
        obtain ⟨l, rfl⟩ := List.length_eq_one_iff.1 hn
        exact root_one w sp cap l hP he (hm.long l (by simp))
      · obtain rfl : n = 0 := by omega
        obtain rfl : ls = [] := List.eq_nil_of_length_eq_zero hn
        exact root_none w sp cap he
theorem root_any (w : World) (sp : Option Addr) (n cap : Nat) (ls : List (List Int)) (hn : ls.length = n) (hP : Pcs w sp cap ls) (he : Env w) (hm : Mild ls) :
    Calls Tryd.prog 13 #[.slice sp n cap] w fun e w' => e = .returned (.agg (rowB (rootD ls))) ∧ Below w.heap.size w w' := root_upto (n + 1) w sp n cap ls (by omega) hn hP he hm
end Go.Proofs.YtighmhoekbnagaaDoor
