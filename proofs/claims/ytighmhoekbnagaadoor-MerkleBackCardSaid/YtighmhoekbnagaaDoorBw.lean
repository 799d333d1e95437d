import Derived.Test.YtighmhoekbnagaaDoorTj
namespace Go.Proofs.YtighmhoekbnagaaDoor
open Go.ChangeShapes Go.WideShapes Go.ChangeAt Go.RowKit

theorem proofD_set (ls : List (List Int)) (i : Nat) (l : List Int) (hl : ls.length ≤ 256) : proofD i (ls.set i l) = proofD i ls := by
  rw [proofD_pf i (ls.set i l) 63 (by rw [List.length_set]; omega), proofD_pf i ls 63 (by omega), List.map_set, pf_set]
theorem fold_set (ls : List (List Int)) (i : Nat) (l : List Int) (hi : i < ls.length) (hl : ls.length ≤ 256) : fd nodeD 63 ls.length i (leafD l) (proofD i ls) = rootD (ls.set i l) := by
  have h := fd_pf nodeD 63 i (ls.map leafD) (leafD l) (by simpa using hi) (by rw [List.length_map]; omega)
  rw [List.length_map] at h
  rw [proofD_pf i ls 63 (by omega), h, rootD_rt (ls.set i l) (fun e => by have := congrArg List.length e; simp at this; rw [this] at hi; simp at hi) 63 (by rw [List.length_set]; omega), List.map_set]
theorem fold_same (ls : List (List Int)) (i : Nat) (hi : i < ls.length) (hl : ls.length ≤ 256) : fd nodeD 63 ls.length i (leafD (ls.getD i [])) (proofD i ls) = rootD ls := by
  rw [fold_set ls i _ hi hl]
  congr 1
  apply List.ext_getElem?
  intro j
  rw [List.getElem?_set]
  split
  · subst_vars; simp [hi]
  · rfl
theorem cfTRoot (vs : Array Value) (W : World) : (callFunc 24 vs).run Tryd.prog W = .ok (.enter 24 vs) W := cf Tryd.func24 (by kernel_rfl) (by kernel_rfl) vs W
theorem exec_pcB {a : Act} {o : Oper} {W : World} (x y : Operand) (ho : o.op = .indexAddr 22 x y) (c k n cap i : Nat) (hx : a.eval x = .slice (some ⟨c, k, none⟩) n cap) (hy : a.eval y = .int .i64 (i : Int)) (hi : i < n) : (execOp a.eval o).run Tryd.prog W = .ok (.value (.pointer (some ⟨c, k + i, none⟩))) W := by
  have hadd := add_plain c k i
  cases hq : Tryd.prog.info? 28 with
  | none => have := size28; simp [hq] at this
  | some j =>
    have hj : j.size = 1 := by have := size28; simpa [hq] using this
    unfold execOp
    simp [ho, hx, hy, Instr.indexAt, asIntOf, run_underlying Tryd.underlying22, sizeOf, typeInfo, hq, hj, hi, hadd]
set_option maxRecDepth 100000 in
set_option maxHeartbeats 4000000 in
theorem back_few (w : World) (i : Int) (sp s1 : Option Addr) (n cap n1 c1 : Nat) (ls : List (List Int)) (hn : ls.length = n) (hP : Pcs w sp cap ls) (he : Env w) (hf : few ls = false) :
    Calls Tryd.prog 5 #[.slice sp n cap, .int .i64 i, .slice s1 n1 c1] w fun e w' => e = .returned (.bool true) ∧ Below w.heap.size w w' := by
  have HE := Lib.hid he
  have HF := Lib.hid (few_any w sp n cap ls hn hP)
  rw [hf] at HF
  clear hn hP he hf
  go_enter Tryd.func5, Tryd.ntmps5
  go_wp2_with (first
    | (go_at_call 9; refine HF.out.mono ?_; rintro e w' ⟨rfl, q, rfl⟩; have H2 := Lib.hid (below_drewN (Below.refl w.heap.size w) q))
    | (go_at_call 10; refine (awake_any _ (HE.out.below H2.out)).mono ?_; rintro e w' ⟨rfl, hb⟩; have H3 := Lib.hid (H2.out.trans (hb.mono H2.out.size))))
  go_ret
  exact ⟨rfl, H3.out⟩
set_option maxRecDepth 100000 in
set_option maxHeartbeats 4000000 in
theorem back_leaf (w : World) (i : Int) (sp s1 : Option Addr) (n cap n1 c1 : Nat) (ls : List (List Int)) (hn : ls.length = n) (hP : Pcs w sp cap ls) (he : Env w) (hf : few ls = true) (h100 : 100 < n1) :
    Calls Tryd.prog 5 #[.slice sp n cap, .int .i64 i, .slice s1 n1 c1] w fun e w' => e = .returned (.bool true) ∧ Below w.heap.size w w' := by
  have HE := Lib.hid he
  have HF := Lib.hid (few_any w sp n cap ls hn hP)
  rw [hf] at HF
  have hd1 : decide ((100 : Int) < (n1 : Int)) = true := decide_eq_true (by omega)
  clear hn hP he hf
  go_enter Tryd.func5, Tryd.ntmps5
  go_wp2_with (first
    | (go_at_call 9; refine HF.out.mono ?_; rintro e w' ⟨rfl, q, rfl⟩; have H2 := Lib.hid (below_drewN (Below.refl w.heap.size w) q))
    | (go_at_call 10; refine (awake_any _ (HE.out.below H2.out)).mono ?_; rintro e w' ⟨rfl, hb⟩; have H3 := Lib.hid (H2.out.trans (hb.mono H2.out.size))))
  go_ret
  exact ⟨rfl, H3.out⟩
set_option maxRecDepth 100000 in
set_option maxHeartbeats 4000000 in
theorem back_neg (w : World) (i : Int) (sp s1 : Option Addr) (n cap n1 c1 : Nat) (ls : List (List Int)) (hn : ls.length = n) (hP : Pcs w sp cap ls) (he : Env w) (hf : few ls = true) (h100 : n1 ≤ 100) (hi : i < 0) :
    Calls Tryd.prog 5 #[.slice sp n cap, .int .i64 i, .slice s1 n1 c1] w fun e w' => e = .returned (.bool true) ∧ Below w.heap.size w w' := by
  have HE := Lib.hid he
  have HF := Lib.hid (few_any w sp n cap ls hn hP)
  rw [hf] at HF
  have hd1 : decide ((100 : Int) < (n1 : Int)) = false := decide_eq_false (by omega)
  have hd3 : decide (i < 0) = true := decide_eq_true (by omega)
  clear hn hP he hf
  go_enter Tryd.func5, Tryd.ntmps5
  go_wp2_with (first
    | (go_at_call 9; refine HF.out.mono ?_; rintro e w' ⟨rfl, q, rfl⟩; have H2 := Lib.hid (below_drewN (Below.refl w.heap.size w) q))
    | (go_at_call 10; refine (awake_any _ (HE.out.below H2.out)).mono ?_; rintro e w' ⟨rfl, hb⟩; have H3 := Lib.hid (H2.out.trans (hb.mono H2.out.size))))
  go_ret
  exact ⟨rfl, H3.out⟩
set_option maxRecDepth 100000 in
set_option maxHeartbeats 4000000 in
theorem back_high (w : World) (i : Int) (sp s1 : Option Addr) (n cap n1 c1 : Nat) (ls : List (List Int)) (hn : ls.length = n) (hP : Pcs w sp cap ls) (he : Env w) (hf : few ls = true) (h100 : n1 ≤ 100) (hi0 : 0 ≤ i) (hi : n ≤ i) :
    Calls Tryd.prog 5 #[.slice sp n cap, .int .i64 i, .slice s1 n1 c1] w fun e w' => e = .returned (.bool true) ∧ Below w.heap.size w w' := by
  have HE := Lib.hid he
  have HF := Lib.hid (few_any w sp n cap ls hn hP)
  rw [hf] at HF
  have hd1 : decide ((100 : Int) < (n1 : Int)) = false := decide_eq_false (by omega)
  have hd3 : decide (i < 0) = false := decide_eq_false (by omega)
  have hd4 : decide ((n : Int) ≤ i) = true := decide_eq_true (by omega)
  clear hn hP he hf
  go_enter Tryd.func5, Tryd.ntmps5
  go_wp2_with (first
    | (go_at_call 9; refine HF.out.mono ?_; rintro e w' ⟨rfl, q, rfl⟩; have H2 := Lib.hid (below_drewN (Below.refl w.heap.size w) q))
    | (go_at_call 10; refine (awake_any _ (HE.out.below H2.out)).mono ?_; rintro e w' ⟨rfl, hb⟩; have H3 := Lib.hid (H2.out.trans (hb.mono H2.out.size))))
  go_ret
  exact ⟨rfl, H3.out⟩
set_option maxRecDepth 100000 in
set_option maxHeartbeats 4000000 in
theorem back_main (w : World) (i : Nat) (sp s1 : Option Addr) (n cap n1 c1 : Nat) (ls : List (List Int)) (hn : ls.length = n) (hP : Pcs w sp cap ls) (he : Env w) (hf : few ls = true) (h100 : n1 ≤ 100) (hi : i < n) (l : List Int) (hl1 : l.length = n1) (hb1 : Byt w s1 c1 l) :
    Calls Tryd.prog 5 #[.slice sp n cap, .int .i64 i, .slice s1 n1 c1] w fun e w' => e = .returned (.bool true) ∧ Below w.heap.size w w' := by
  have HE := Lib.hid he
  have HF := Lib.hid (few_any w sp n cap ls hn hP)
  rw [hf] at HF
  have hd1 : decide ((100 : Int) < (n1 : Int)) = false := decide_eq_false (by omega)
  have hd3 : decide ((i : Int) < 0) = false := decide_eq_false (by omega)
  have hd4 : decide ((n : Int) ≤ (i : Int)) = false := decide_eq_false (by omega)
  have hd4' : decide (n ≤ i) = false := decide_eq_false (by omega)
  have hn20 : n ≤ 20 := by rw [← hn]; exact (few_yes hf).2
  have hlong := (few_yes hf).1
  have hmild : Mild ls := few_mild hf
  have hPl : (proofD i ls).length = dp 63 n i := by rw [proofD_pf i ls 63 (by omega), pf_length, List.length_map, hn]
  have hP32 := proofD_all i ls (by omega) (by omega)
  have hfs := fold_same ls i (by omega) (by omega)
  have hft := fold_set ls i l (by omega) (by omega)
  have hps := proofD_set ls i l (by omega)
  rw [hn] at hfs hft
  have HPv := Lib.hid (fun W (hb : Below w.heap.size w W) => prove_yes i W sp n cap ls hn (hP.below hb) (he.below hb) hmild hi)
  have HRt := Lib.hid (fun W (hb : Below w.heap.size w W) => root_any W sp n cap ls hn (hP.below hb) (he.below hb) hmild)
  have HNw := Lib.hid (fun W (hb : Below w.heap.size w W) => newT_any W sp n cap ls hn (hP.below hb) (he.below hb) hmild (fun l hl => Nat.le_trans (hlong l hl) (by omega)))
  obtain ⟨cl, ol, sl, kl, hsp, hcl, hbl⟩ := hP.at_ i (by omega)
  have HSp := Lib.hid hsp
  obtain ⟨l0, hl0⟩ : ∃ L, ls.getD i [] = L := ⟨_, rfl⟩
  have hl100 : l0.length ≤ 100 := by rw [← hl0]; exact hlong _ (getD_mem ls i (by omega))
  rw [hl0] at hcl hbl hfs
  obtain ⟨m0, hm0⟩ : ∃ m, l0.length = m := ⟨_, rfl⟩
  rw [hm0] at hcl hl100
  obtain ⟨L, hL⟩ : ∃ L, (proofD i ls).length = L := ⟨_, rfl⟩
  rw [hL] at hPl HPv
  obtain ⟨P, hPe⟩ : ∃ P, proofD i ls = P := ⟨_, rfl⟩
  rw [hPe] at hfs hft hps HPv hL hP32
  have HF1 := Lib.hid (fun W (hb : Below w.heap.size w W) (s : Option Addr) (c : Nat) (hd : Digs W s c P) => fold_any i n W sl s m0 L kl c l0 P hi (by omega) hm0 (hbl.below hb) (by omega) hL hd (he.below hb) hPl)
  have HF2 := Lib.hid (fun W (hb : Below w.heap.size w W) (s : Option Addr) (c : Nat) (hd : Digs W s c P) => fold_any i n W s1 s n1 L c1 c l P hi (by omega) hl1 (hb1.below hb) (by omega) hL hd (he.below hb) hPl)
  rw [hfs] at HF1
  rw [hft] at HF2
  have HDgs := Lib.hid (fun W (s s' : Option Addr) (c c' : Nat) (hd : Digs W s c P) (hd' : Digs W s' c' P) => digests_any W s s' L L c c' P P hL hL hd hd')
  rw [show decide (P = P) = true by simp] at HDgs
  have HSt := Lib.hid (fun W (hb : Below w.heap.size w W) t Lb Rb Rc H vs rb (hT : TreeP W ls t Lb Rb Rc H vs rb) (h2 : ∀ b, Wrt Lb H rb b → 2 ≤ b) => set_any W ls t Lb Rb Rc H vs rb i s1 n1 c1 l hT (by omega) (he.below hb) h2 hl1 (hb1.below hb) (by omega))
  have HTr1 := Lib.hid (fun W t Lb Rb Rc H vs rb (hT : TreeP W ls t Lb Rb Rc H vs rb) => troot_any W ls t Lb Rb Rc H vs rb hT (by omega))
  have HTr2 := Lib.hid (fun W t Lb Rb Rc H vs rb (hT : TreeP W (ls.set i l) t Lb Rb Rc H vs rb) => troot_any W (ls.set i l) t Lb Rb Rc H vs rb hT (by rw [List.length_set]; omega))
  have HTp := Lib.hid (fun W t Lb Rb Rc H vs rb (hT : TreeP W (ls.set i l) t Lb Rb Rc H vs rb) => tprove_any i W (ls.set i l) t Lb Rb Rc H vs rb hT (by rw [List.length_set]; omega))
  rw [hps, hL] at HTp
  have hR32 := rootD_length ls
  have hF32 := rootD_length (ls.set i l)
  obtain ⟨R, hR⟩ : ∃ F, rootD ls = F := ⟨_, rfl⟩
  obtain ⟨F, hFF⟩ : ∃ F, rootD (ls.set i l) = F := ⟨_, rfl⟩
  rw [hR] at hR32 HF1 HRt HTr1
  rw [hFF] at hF32 HF2 HTr2
  have ZR := Lib.hid (row_dig hR32)
  have YR := Lib.hid (row_dig0 hR32)
  have XR := Lib.hid (rowB_one R)
  have ZF := Lib.hid (row_dig hF32)
  have YF := Lib.hid (row_dig0 hF32)
  have XF := Lib.hid (rowB_one F)
  have HCl := Lib.hid (fun W (hB : Below w.heap.size w W) => ((hB.cell (block_lt_of_cell hcl)).trans hcl : W.cell? ⟨cl, ol + i, none⟩ = some (.slice sl m0 kl)))
  have eR : ∀ W : World, (binOp .neq 24 (.agg (rowB R)) (.agg (rowB R))).run Tryd.prog W = .ok (.bool false) W := fun W => by
    rw [run_neq_row (P := Tryd.prog) 24 5 32 .u8 Tryd.underlying24 Tryd.underlying5 size5 R R hR32 hR32 W]
    simp
  have h2w := he.two
  clear hn hP he hf hlong hmild hPl hfs hft hps hsp hl0 hcl hbl hl100 hm0 hL hPe hR hFF hb1 hl1 hP32
  go_enter Tryd.func5, Tryd.ntmps5
  go_upto_region 4 with (first
    | (go_at_call 9; refine HF.out.mono ?_; rintro e w' ⟨rfl, q, rfl⟩; have H2 := Lib.hid (below_drewN (Below.refl w.heap.size w) q))
    | (go_at_call 17; refine (HPv.out _ H2.out).mono ?_; rintro e w3 ⟨sp1, cp1, rfl, hd, hb⟩; have HD := Lib.hid hd; have H3 := Lib.hid (H2.out.trans (hb.mono H2.out.size)); clear hd hb))
  have hc1 := HCl.out w3 H3.out
  go_upto_region 5 with (first
    | (refine wpList_val rfl (.pointer (some ⟨cl, ol + i, none⟩)) (exec_pcB (.tmp 45) (.tmp 46) rfl cl ol n cap i (congrArg (fun s => Value.slice s n cap) HSp.out) rfl hi) ?_)
    | (go_at_call 20; refine (HF1.out _ H3.out sp1 cp1 HD.out).mono ?_; rintro e w4 ⟨rfl, hb⟩; have H4 := Lib.hid (H3.out.trans (hb.mono H3.out.size)); have HD := Lib.hid (HD.out.below hb); clear hb)
    | (refine wpList_store_row rfl 24 (.tmp 9) (.tmp 51) rfl w4.heap.size (rowB R) rfl rfl 24 _ (heap_alloc_new _ _) ZR.out YR.out XR.out ?_))
  refine gen_world (Q := fun w => Code.wp _ _ _ _ w) _ (fun W => Below w.heap.size w W ∧ Dg W w4.heap.size R ∧ Below w4.heap.size w4 W) ⟨H4.out.trans (below_setRow ((Below.refl _ _).alloc H4.out.size _) H4.out.size _), Dg.made _ _ _, below_setRow ((Below.refl _ _).alloc (Nat.le_refl _) _) (Nat.le_refl _) _⟩ ?_
  rintro w5 ⟨h5, hdg, hb5⟩
  obtain ⟨g, hg⟩ : ∃ g, w4.heap.size = g := ⟨_, rfl⟩
  have HD := Lib.hid (HD.out.below hb5)
  rw [hg] at hdg ⊢
  have H5 := Lib.hid h5
  have HG := Lib.hid hdg
  clear hg h5 hdg hb5 H4 hc1
  go_upto_region 6 with (first
    | (go_at_call 20; refine (HF2.out _ H5.out sp1 cp1 HD.out).mono ?_; rintro e w6 ⟨rfl, hb⟩; have H6 := Lib.hid (H5.out.trans (hb.mono H5.out.size)); have HD := Lib.hid (HD.out.below hb); have HG := Lib.hid (HG.out.below hb); clear hb)
    | (refine wpList_store_row rfl 24 (.tmp 11) (.tmp 60) rfl w6.heap.size (rowB F) rfl rfl 24 _ (heap_alloc_new _ _) ZF.out YF.out XF.out ?_))
  refine gen_world (Q := fun w => Code.wp _ _ _ _ w) _ (fun W => Below w.heap.size w W ∧ Dg W w6.heap.size F ∧ Below w6.heap.size w6 W) ⟨H6.out.trans (below_setRow ((Below.refl _ _).alloc H6.out.size _) H6.out.size _), Dg.made _ _ _, below_setRow ((Below.refl _ _).alloc (Nat.le_refl _) _) (Nat.le_refl _) _⟩ ?_
  rintro w7 ⟨h7, hdg, hb7⟩
  obtain ⟨g2, hg2⟩ : ∃ g, w6.heap.size = g := ⟨_, rfl⟩
  have HD := Lib.hid (HD.out.below hb7)
  have HG := Lib.hid (HG.out.below hb7)
  rw [hg2] at hdg ⊢
  have H7 := Lib.hid h7
  have HG2 := Lib.hid hdg
  clear hg2 h7 hdg hb7 H6
  have hnil : ∀ (W : World) (t : Nat), (binOp .eql 46 (.pointer (some ⟨t, 0, none⟩)) (.pointer none)).run Tryd.prog W = .ok (.bool false) W := fun _ _ => rfl
  go_wp2_with fail
  refine (HNw.out w7 H7.out).mono ?_
  rintro e w8 ⟨Rb, Rc, H, vs, rb, rfl, hT, hpast, hb8⟩
  obtain ⟨t, ht⟩ : ∃ t, w7.heap.size + 1 = t := ⟨_, rfl⟩
  rw [ht] at hT ⊢
  have HT := Lib.hid hT
  have HB := Lib.hid hb8
  clear hT hb8 ht
  have hwr : ∀ b, Wrt w7.heap.size H rb b → w7.heap.size ≤ b := fun b hs => by
    rcases hs with rfl | ⟨h, hh, rfl⟩
    · exact Nat.le_refl _
    · exact hpast h hh
  have h2' : 2 ≤ w7.heap.size := by have := H7.out.size; omega
  have HWr := Lib.hid hwr
  have HW2 := Lib.hid (fun b (hs : Wrt w7.heap.size H rb b) => Nat.le_trans h2' (hwr b hs))
  clear hwr h2'
  go_wp2_with fail
  refine (HTr1.out w8 _ _ _ _ _ _ _ HT.out).mono ?_
  rintro e w9 ⟨rfl, hb9⟩
  have HT := Lib.hid (HT.out.below hb9)
  have HB := Lib.hid (HB.out.trans (hb9.mono HB.out.size))
  clear hb9
  go_wp2_with fail
  refine (HRt.out w9 (H7.out.trans (HB.out.mono H7.out.size))).mono ?_
  rintro e u1 ⟨rfl, hb9⟩
  have HT := Lib.hid (HT.out.below hb9)
  have HB := Lib.hid (HB.out.trans (hb9.mono HB.out.size))
  clear hb9
  go_wp2_with fail
  refine (HSt.out u1 (H7.out.trans (HB.out.mono H7.out.size)) _ _ _ _ _ _ _ HT.out HW2.out).mono ?_
  rintro e u2 ⟨rfl, vs', hT', hch⟩
  have HB := Lib.hid (HB.out.trans (hch.below w7.heap.size HB.out.size HWr.out))
  have HT := Lib.hid hT'
  clear hT' hch HTr1 HNw HSt HWr HW2
  go_wp2_with fail
  refine (HTp.out u2 _ _ _ _ _ _ _ HT.out).mono ?_
  rintro e v3 ⟨sp2, cp2, rfl, hd2, hb9⟩
  have HD2 := Lib.hid hd2
  have HT := Lib.hid (HT.out.below hb9)
  have HB := Lib.hid (HB.out.trans (hb9.mono HB.out.size))
  clear hb9 hd2 HTp
  go_upto_region 10 with fail
  have hB7 : ∀ W, Below v3.heap.size v3 W → Below w7.heap.size w7 W := fun W h => HB.out.trans (h.mono HB.out.size)
  have hw : ∀ W, Below v3.heap.size v3 W → Below w.heap.size w W := fun W h => H7.out.trans ((hB7 W h).mono H7.out.size)
  have HDg := Lib.hid (fun W (h : Below v3.heap.size v3 W) => HG.out.below (hB7 W h))
  have HDh := Lib.hid (fun W (h : Below v3.heap.size v3 W) => HG2.out.below (hB7 W h))
  have HTr := Lib.hid (fun W (h : Below v3.heap.size v3 W) => HTr2.out W _ _ _ _ _ _ _ (HT.out.below h))
  have HDd := Lib.hid (fun W (h : Below v3.heap.size v3 W) => HDgs.out W sp1 sp2 cp1 cp2 (HD.out.below (hB7 W h)) (HD2.out.below h))
  clear hB7 HG HG2 HTr2 HT HDgs HD HD2 HB
  refine wp_region_spec (C := fun W => Below v3.heap.size v3 W) (Le := fun w w' => Below w.heap.size w w') 34 (fun ix _ v => v = ([.int .i64 0, .bool true, .bool true, .int .i64 0, .bool true, .bool true, .bool true, .int .i64 0, .bool true, .bool true, .bool true, .int .i64 0, .bool true, .bool true, .bool true, .agg (rowB R), .slice sp n cap, .agg (rowB R), .bool true, .bool true, .bool true, .agg (rowB F), .pointer (some ⟨t, 0, none⟩), .agg (rowB F), .bool true, .bool true, .bool true, .slice sp1 L cp1, .slice sp2 L cp2, .bool true, .bool true, .bool true, .bool true, .bool true] : List Value).getD ix undef) (by kernel_rfl) (by kernel_rfl) ⟨rfl, rfl, rfl, Nat.le_refl _, fun _ _ => rfl⟩ (fun _ _ _ _ _ h => h) (fun ix v => v = ([.int .i64 0, .bool true, .bool true, .int .i64 0, .bool true, .bool true, .bool true, .int .i64 0, .bool true, .bool true, .bool true, .int .i64 0, .bool true, .bool true, .bool true, .agg (rowB R), .slice sp n cap, .agg (rowB R), .bool true, .bool true, .bool true, .agg (rowB F), .pointer (some ⟨t, 0, none⟩), .agg (rowB F), .bool true, .bool true, .bool true, .slice sp1 L cp1, .slice sp2 L cp2, .bool true, .bool true, .bool true, .bool true, .bool true] : List Value).getD ix undef) (fun _ _ _ h => h) (fun ix => ([.int .i64 0, .bool true, .bool true, .int .i64 0, .bool true, .bool true, .bool true, .int .i64 0, .bool true, .bool true, .bool true, .int .i64 0, .bool true, .bool true, .bool true, .agg (rowB R), .slice sp n cap, .agg (rowB R), .bool true, .bool true, .bool true, .agg (rowB F), .pointer (some ⟨t, 0, none⟩), .agg (rowB F), .bool true, .bool true, .bool true, .slice sp1 L cp1, .slice sp2 L cp2, .bool true, .bool true, .bool true, .bool true, .bool true] : List Value).getD ix undef) (fun _ => rfl) ?_ ?_
  · intro u hu
    have h0 : u 0 = .int .i64 0 := hu 0
    have h1 : u 1 = .bool true := hu 1
    have h2 : u 2 = .bool true := hu 2
    have h3 : u 3 = .int .i64 0 := hu 3
    have h4 : u 4 = .bool true := hu 4
    have h5 : u 5 = .bool true := hu 5
    have h6 : u 6 = .bool true := hu 6
    have h7 : u 7 = .int .i64 0 := hu 7
    have h8 : u 8 = .bool true := hu 8
    have h9 : u 9 = .bool true := hu 9
    have h10 : u 10 = .bool true := hu 10
    have h11 : u 11 = .int .i64 0 := hu 11
    have h12 : u 12 = .bool true := hu 12
    have h13 : u 13 = .bool true := hu 13
    have h14 : u 14 = .bool true := hu 14
    have h15 : u 15 = .agg (rowB R) := hu 15
    have h16 : u 16 = .slice sp n cap := hu 16
    have h17 : u 17 = .agg (rowB R) := hu 17
    have h18 : u 18 = .bool true := hu 18
    have h19 : u 19 = .bool true := hu 19
    have h20 : u 20 = .bool true := hu 20
    have h21 : u 21 = .agg (rowB F) := hu 21
    have h22 : u 22 = .pointer (some ⟨t, 0, none⟩) := hu 22
    have h23 : u 23 = .agg (rowB F) := hu 23
    have h24 : u 24 = .bool true := hu 24
    have h25 : u 25 = .bool true := hu 25
    have h26 : u 26 = .bool true := hu 26
    have h27 : u 27 = .slice sp1 L cp1 := hu 27
    have h28 : u 28 = .slice sp2 L cp2 := hu 28
    have h29 : u 29 = .bool true := hu 29
    have h30 : u 30 = .bool true := hu 30
    have h31 : u 31 = .bool true := hu 31
    have h32 : u 32 = .bool true := hu 32
    have h33 : u 33 = .bool true := hu 33
    clear hu
    simp only [List.take_succ_cons, List.take_zero]
    refine spec_cons (fun W hC hd => ⟨by rfl, ?_⟩) ?_
    · exact gives_val _ W (rfl) ⟨hC, Below.refl _ _, rfl⟩
    simp only [Act.put, List.setIfInBounds_toArray, List.set_cons_succ, List.set_cons_zero, Nat.reduceAdd]
    rw [h0]
    refine spec_cons (fun W hC hd => ⟨by rfl, ?_⟩) ?_
    · exact gives_val _ W (rfl) ⟨hC, Below.refl _ _, rfl⟩
    simp only [Act.put, List.setIfInBounds_toArray, List.set_cons_succ, List.set_cons_zero, Nat.reduceAdd]
    rw [h1]
    refine spec_cons (fun W hC hd => ⟨by rfl, ?_⟩) ?_
    · exact gives_val _ W (rfl) ⟨hC, Below.refl _ _, rfl⟩
    simp only [Act.put, List.setIfInBounds_toArray, List.set_cons_succ, List.set_cons_zero, Nat.reduceAdd]
    rw [h2]
    refine spec_cons (fun W hC hd => ⟨by rfl, ?_⟩) ?_
    · exact gives_val _ W (rfl) ⟨hC, Below.refl _ _, rfl⟩
    simp only [Act.put, List.setIfInBounds_toArray, List.set_cons_succ, List.set_cons_zero, Nat.reduceAdd]
    rw [h3]
    refine spec_cons (fun W hC hd => ⟨by rfl, ?_⟩) ?_
    · exact gives_val _ W (rfl) ⟨hC, Below.refl _ _, rfl⟩
    simp only [Act.put, List.setIfInBounds_toArray, List.set_cons_succ, List.set_cons_zero, Nat.reduceAdd]
    rw [h4]
    refine spec_cons (fun W hC hd => ⟨by rfl, ?_⟩) ?_
    · exact gives_val _ W (rfl) ⟨hC, Below.refl _ _, rfl⟩
    simp only [Act.put, List.setIfInBounds_toArray, List.set_cons_succ, List.set_cons_zero, Nat.reduceAdd]
    rw [h5]
    refine spec_cons (fun W hC hd => ⟨by rfl, ?_⟩) ?_
    · exact gives_val _ W (rfl) ⟨hC, Below.refl _ _, rfl⟩
    simp only [Act.put, List.setIfInBounds_toArray, List.set_cons_succ, List.set_cons_zero, Nat.reduceAdd]
    rw [h6]
    refine spec_cons (fun W hC hd => ⟨by rfl, ?_⟩) ?_
    · exact gives_val _ W (rfl) ⟨hC, Below.refl _ _, rfl⟩
    simp only [Act.put, List.setIfInBounds_toArray, List.set_cons_succ, List.set_cons_zero, Nat.reduceAdd]
    rw [h7]
    refine spec_cons (fun W hC hd => ⟨by rfl, ?_⟩) ?_
    · exact gives_val _ W (rfl) ⟨hC, Below.refl _ _, rfl⟩
    simp only [Act.put, List.setIfInBounds_toArray, List.set_cons_succ, List.set_cons_zero, Nat.reduceAdd]
    rw [h8]
    refine spec_cons (fun W hC hd => ⟨by rfl, ?_⟩) ?_
    · exact gives_val _ W (rfl) ⟨hC, Below.refl _ _, rfl⟩
    simp only [Act.put, List.setIfInBounds_toArray, List.set_cons_succ, List.set_cons_zero, Nat.reduceAdd]
    rw [h9]
    refine spec_cons (fun W hC hd => ⟨by rfl, ?_⟩) ?_
    · exact gives_val _ W (rfl) ⟨hC, Below.refl _ _, rfl⟩
    simp only [Act.put, List.setIfInBounds_toArray, List.set_cons_succ, List.set_cons_zero, Nat.reduceAdd]
    rw [h10]
    refine spec_cons (fun W hC hd => ⟨by rfl, ?_⟩) ?_
    · exact gives_val _ W (rfl) ⟨hC, Below.refl _ _, rfl⟩
    simp only [Act.put, List.setIfInBounds_toArray, List.set_cons_succ, List.set_cons_zero, Nat.reduceAdd]
    rw [h11]
    refine spec_cons (fun W hC hd => ⟨by rfl, ?_⟩) ?_
    · exact gives_val _ W (rfl) ⟨hC, Below.refl _ _, rfl⟩
    simp only [Act.put, List.setIfInBounds_toArray, List.set_cons_succ, List.set_cons_zero, Nat.reduceAdd]
    rw [h12]
    refine spec_cons (fun W hC hd => ⟨by rfl, ?_⟩) ?_
    · exact gives_val _ W (rfl) ⟨hC, Below.refl _ _, rfl⟩
    simp only [Act.put, List.setIfInBounds_toArray, List.set_cons_succ, List.set_cons_zero, Nat.reduceAdd]
    rw [h13]
    refine spec_cons (fun W hC hd => ⟨by rfl, ?_⟩) ?_
    · exact gives_val _ W (rfl) ⟨hC, Below.refl _ _, rfl⟩
    simp only [Act.put, List.setIfInBounds_toArray, List.set_cons_succ, List.set_cons_zero, Nat.reduceAdd]
    rw [h14]
    refine spec_cons (fun W hC hd => ⟨by rfl, ?_⟩) ?_
    · exact gives_val _ W (exec_load_row 24 (.tmp 9) rfl g rfl 24 (rowB R) (0, 0) _ ((HDg.out W hC)) Tryd.underlying24 rfl ZR.out) ⟨hC, Below.refl _ _, rfl⟩
    simp only [Act.put, List.setIfInBounds_toArray, List.set_cons_succ, List.set_cons_zero, Nat.reduceAdd]
    rw [h15]
    refine spec_cons (fun W hC hd => ⟨by rfl, ?_⟩) ?_
    · exact gives_val _ W (rfl) ⟨hC, Below.refl _ _, rfl⟩
    simp only [Act.put, List.setIfInBounds_toArray, List.set_cons_succ, List.set_cons_zero, Nat.reduceAdd]
    rw [h16]
    refine spec_cons (fun W hC hd => ⟨by rfl, ?_⟩) ?_
    · exact gives_call _ _ (exec_call1 13 (.tmp 102) #[22] _ rfl rfl (cfRoot _ _)) (((fun W hC => HRt.out W (hw W hC)) W hC).mono fun e W' h => ⟨_, h.1, hC.trans (h.2.mono hC.size), h.2, rfl⟩)
    simp only [Act.put, List.setIfInBounds_toArray, List.set_cons_succ, List.set_cons_zero, Nat.reduceAdd]
    rw [h17]
    refine spec_cons (fun W hC hd => ⟨by rfl, ?_⟩) ?_
    · exact gives_val _ W (exec_eqD (.tmp 101) (.tmp 103) rfl R R rfl rfl hR32 hR32) ⟨hC, Below.refl _ _, by simp⟩
    simp only [Act.put, List.setIfInBounds_toArray, List.set_cons_succ, List.set_cons_zero, Nat.reduceAdd]
    rw [h18]
    refine spec_cons (fun W hC hd => ⟨by rfl, ?_⟩) ?_
    · exact gives_val _ W (rfl) ⟨hC, Below.refl _ _, rfl⟩
    simp only [Act.put, List.setIfInBounds_toArray, List.set_cons_succ, List.set_cons_zero, Nat.reduceAdd]
    rw [h19]
    refine spec_cons (fun W hC hd => ⟨by rfl, ?_⟩) ?_
    · exact gives_val _ W (rfl) ⟨hC, Below.refl _ _, rfl⟩
    simp only [Act.put, List.setIfInBounds_toArray, List.set_cons_succ, List.set_cons_zero, Nat.reduceAdd]
    rw [h20]
    refine spec_cons (fun W hC hd => ⟨by rfl, ?_⟩) ?_
    · exact gives_val _ W (exec_load_row 24 (.tmp 11) rfl g2 rfl 24 (rowB F) (0, 0) _ ((HDh.out W hC)) Tryd.underlying24 rfl ZF.out) ⟨hC, Below.refl _ _, rfl⟩
    simp only [Act.put, List.setIfInBounds_toArray, List.set_cons_succ, List.set_cons_zero, Nat.reduceAdd]
    rw [h21]
    refine spec_cons (fun W hC hd => ⟨by rfl, ?_⟩) ?_
    · exact gives_val _ W (rfl) ⟨hC, Below.refl _ _, rfl⟩
    simp only [Act.put, List.setIfInBounds_toArray, List.set_cons_succ, List.set_cons_zero, Nat.reduceAdd]
    rw [h22]
    refine spec_cons (fun W hC hd => ⟨by rfl, ?_⟩) ?_
    · exact gives_call _ _ (exec_call1 24 (.tmp 108) #[46] _ rfl rfl (cfTRoot _ _)) (((fun W hC => HTr.out W hC) W hC).mono fun e W' h => ⟨_, h.1, hC.trans (h.2.mono hC.size), h.2, rfl⟩)
    simp only [Act.put, List.setIfInBounds_toArray, List.set_cons_succ, List.set_cons_zero, Nat.reduceAdd]
    rw [h23]
    refine spec_cons (fun W hC hd => ⟨by rfl, ?_⟩) ?_
    · exact gives_val _ W (exec_eqD (.tmp 107) (.tmp 109) rfl F F rfl rfl hF32 hF32) ⟨hC, Below.refl _ _, by simp⟩
    simp only [Act.put, List.setIfInBounds_toArray, List.set_cons_succ, List.set_cons_zero, Nat.reduceAdd]
    rw [h24]
    refine spec_cons (fun W hC hd => ⟨by rfl, ?_⟩) ?_
    · exact gives_val _ W (rfl) ⟨hC, Below.refl _ _, rfl⟩
    simp only [Act.put, List.setIfInBounds_toArray, List.set_cons_succ, List.set_cons_zero, Nat.reduceAdd]
    rw [h25]
    refine spec_cons (fun W hC hd => ⟨by rfl, ?_⟩) ?_
    · exact gives_val _ W (rfl) ⟨hC, Below.refl _ _, rfl⟩
    simp only [Act.put, List.setIfInBounds_toArray, List.set_cons_succ, List.set_cons_zero, Nat.reduceAdd]
    rw [h26]
    refine spec_cons (fun W hC hd => ⟨by rfl, ?_⟩) ?_
    · exact gives_val _ W (rfl) ⟨hC, Below.refl _ _, rfl⟩
    simp only [Act.put, List.setIfInBounds_toArray, List.set_cons_succ, List.set_cons_zero, Nat.reduceAdd]
    rw [h27]
    refine spec_cons (fun W hC hd => ⟨by rfl, ?_⟩) ?_
    · exact gives_val _ W (rfl) ⟨hC, Below.refl _ _, rfl⟩
    simp only [Act.put, List.setIfInBounds_toArray, List.set_cons_succ, List.set_cons_zero, Nat.reduceAdd]
    rw [h28]
    refine spec_cons (fun W hC hd => ⟨by rfl, ?_⟩) ?_
    · exact gives_call _ _ (exec_call2 18 (.tmp 113) (.tmp 114) #[33, 33] _ _ rfl rfl rfl (cfDigests _ _)) ((HDd.out W hC).mono fun e W' h => ⟨_, h.below.1, hC.trans (h.below.2.mono hC.size), h.below.2, rfl⟩)
    simp only [Act.put, List.setIfInBounds_toArray, List.set_cons_succ, List.set_cons_zero, Nat.reduceAdd]
    rw [h29]
    refine spec_cons (fun W hC hd => ⟨by rfl, ?_⟩) ?_
    · exact gives_val _ W (rfl) ⟨hC, Below.refl _ _, rfl⟩
    simp only [Act.put, List.setIfInBounds_toArray, List.set_cons_succ, List.set_cons_zero, Nat.reduceAdd]
    rw [h30]
    refine spec_cons (fun W hC hd => ⟨by rfl, ?_⟩) ?_
    · exact gives_val _ W (rfl) ⟨hC, Below.refl _ _, rfl⟩
    simp only [Act.put, List.setIfInBounds_toArray, List.set_cons_succ, List.set_cons_zero, Nat.reduceAdd]
    rw [h31]
    refine spec_cons (fun W hC hd => ⟨by rfl, ?_⟩) ?_
    · exact gives_call _ _ (exec_call0 10 #[] rfl (cfAwake _ _)) (((fun W hC => awake_any W (HE.out.below (hw W hC))) W hC).mono fun e W' h => ⟨_, h.1, hC.trans (h.2.mono hC.size), h.2, rfl⟩)
    simp only [Act.put, List.setIfInBounds_toArray, List.set_cons_succ, List.set_cons_zero, Nat.reduceAdd]
    rw [h32]
    refine spec_cons (fun W hC hd => ⟨by rfl, ?_⟩) ?_
    · exact gives_val _ W (rfl) ⟨hC, Below.refl _ _, rfl⟩
    simp only [Act.put, List.setIfInBounds_toArray, List.set_cons_succ, List.set_cons_zero, Nat.reduceAdd]
    rw [h33]
    exact spec_nil
  · intro u W hu hC hF
    have h0 : u 0 = .int .i64 0 := hu 0
    have h1 : u 1 = .bool true := hu 1
    have h2 : u 2 = .bool true := hu 2
    have h3 : u 3 = .int .i64 0 := hu 3
    have h4 : u 4 = .bool true := hu 4
    have h5 : u 5 = .bool true := hu 5
    have h6 : u 6 = .bool true := hu 6
    have h7 : u 7 = .int .i64 0 := hu 7
    have h8 : u 8 = .bool true := hu 8
    have h9 : u 9 = .bool true := hu 9
    have h10 : u 10 = .bool true := hu 10
    have h11 : u 11 = .int .i64 0 := hu 11
    have h12 : u 12 = .bool true := hu 12
    have h13 : u 13 = .bool true := hu 13
    have h14 : u 14 = .bool true := hu 14
    have h15 : u 15 = .agg (rowB R) := hu 15
    have h16 : u 16 = .slice sp n cap := hu 16
    have h17 : u 17 = .agg (rowB R) := hu 17
    have h18 : u 18 = .bool true := hu 18
    have h19 : u 19 = .bool true := hu 19
    have h20 : u 20 = .bool true := hu 20
    have h21 : u 21 = .agg (rowB F) := hu 21
    have h22 : u 22 = .pointer (some ⟨t, 0, none⟩) := hu 22
    have h23 : u 23 = .agg (rowB F) := hu 23
    have h24 : u 24 = .bool true := hu 24
    have h25 : u 25 = .bool true := hu 25
    have h26 : u 26 = .bool true := hu 26
    have h27 : u 27 = .slice sp1 L cp1 := hu 27
    have h28 : u 28 = .slice sp2 L cp2 := hu 28
    have h29 : u 29 = .bool true := hu 29
    have h30 : u 30 = .bool true := hu 30
    have h31 : u 31 = .bool true := hu 31
    have h32 : u 32 = .bool true := hu 32
    have h33 : u 33 = .bool true := hu 33
    simp only [List.take_succ_cons, List.take_zero, List.drop_succ_cons, List.drop_zero, putAll, Act.put, List.setIfInBounds_toArray, List.set_cons_succ, List.set_cons_zero, Nat.reduceAdd]
    rw [h0, h1, h2, h3, h4, h5, h6, h7, h8, h9, h10, h11, h12, h13, h14, h15, h16, h17, h18, h19, h20, h21, h22, h23, h24, h25, h26, h27, h28, h29, h30, h31, h32, h33]
    have H8 := Lib.hid (hw W hC)
    clear hu hC hF hw HRt HTr HDg HDh HDd h0 h1 h2 h3 h4 h5 h6 h7 h8 h9 h10 h11 h12 h13 h14 h15 h16 h17 h18 h19 h20 h21 h22 h23 h24 h25 h26 h27 h28 h29 h30 h31 h32 h33
    go_wp2
    go_ret
    exact ⟨rfl, H8.out⟩
theorem back_walk (w : World) (i : Int) (sp s1 : Option Addr) (n cap n1 c1 : Nat) (ls : List (List Int)) (hn : ls.length = n) (hP : Pcs w sp cap ls) (he : Env w) (l : List Int) (hl1 : l.length = n1) (hb1 : Byt w s1 c1 l) :
    Calls Tryd.prog 5 #[.slice sp n cap, .int .i64 i, .slice s1 n1 c1] w fun e w' => e = .returned (.bool true) ∧ Below w.heap.size w w' := by
  by_cases hf : few ls = true
  · by_cases h100 : n1 ≤ 100
    · by_cases hi0 : i < 0
      · exact back_neg w i sp s1 n cap n1 c1 ls hn hP he hf h100 hi0
      · by_cases hi : n ≤ i
        · exact back_high w i sp s1 n cap n1 c1 ls hn hP he hf h100 (by omega) hi
        · obtain ⟨i', rfl⟩ := Int.eq_ofNat_of_zero_le (show 0 ≤ i by omega)
          exact back_main w i' sp s1 n cap n1 c1 ls hn hP he hf h100 (by omega) l hl1 hb1
    · exact back_leaf w i sp s1 n cap n1 c1 ls hn hP he hf (by omega)
  · exact back_few w i sp s1 n cap n1 c1 ls hn hP he (by simpa using hf)
end Go.Proofs.YtighmhoekbnagaaDoor
