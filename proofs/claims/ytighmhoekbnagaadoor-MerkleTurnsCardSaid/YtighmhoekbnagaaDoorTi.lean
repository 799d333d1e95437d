import Derived.Test.YtighmhoekbnagaaDoorTh
namespace Go.Proofs.YtighmhoekbnagaaDoor
open Go.ChangeShapes Go.WideShapes Go.ChangeAt Go.RowKit Go.Shelf
attribute [local go_sem] Oper.semAt_some

/-! ### Prove of a tree -/
theorem sizeI3 : (Tryd.prog.info? 3).map (·.size) = some 1 := by kernel_rfl
set_option maxRecDepth 100000 in
theorem exec_part0 {a : Act} {o : Oper} {W : World} (x : Operand) (ho : o.op = .fieldAddr 71 x 0) (g : Nat) (hx : a.eval x = .pointer (some ⟨g, 0, none⟩)) : (execOp a.eval o).run Tryd.prog W = .ok (.value (.pointer (some ⟨g, 0, none⟩))) W := by
  unfold execOp
  simp [ho, hx, Instr.fieldAt, run_underlying Tryd.underlying71, Instr.sureAddr, run_placeT _ _ sizeI3, add_plain]
set_option maxRecDepth 100000 in
theorem exec_part1 {a : Act} {o : Oper} {W : World} (x : Operand) (ho : o.op = .fieldAddr 71 x 1) (g : Nat) (hx : a.eval x = .pointer (some ⟨g, 0, none⟩)) : (execOp a.eval o).run Tryd.prog W = .ok (.value (.pointer (some ⟨g, 1, none⟩))) W := by
  unfold execOp
  simp [ho, hx, Instr.fieldAt, run_underlying Tryd.underlying71, Instr.sureAddr, run_placeT _ _ sizeI3, add_plain]
/-- what stands between two rounds of a tree's Prove -/
def TProveI (w : World) (t n i : Nat) (ls : List (List Int)) (pre : List (OnWay n i)) (W : World) : Prop :=
  ((∃ v, Boxed W (w.heap.size + 1) 33 v ∧ W.ownsRow w.heap.size 24 32 v pre.length (dcells (pre.map fun x => rootD (seg ls x.val.1 x.val.2))) ∧ True) ∧ Boxed W w.heap.size 46 (.pointer (some ⟨t, 0, none⟩)) ∧ Boxed W (w.heap.size + 2) 3 (.int .i64 n) ∧ Boxed W (w.heap.size + 3) 3 (.int .i64 i)) ∧ Below w.heap.size w W
theorem tproveI_own (w : World) (t n i : Nat) (ls : List (List Int)) (B : Nat) (hB : w.heap.size ≤ B) : OwnFrom B (TProveI w t n i ls) :=
  OwnFrom.and (OwnFrom.and (Own.from (holdsRow_own w.heap.size (w.heap.size + 1) 33 24 32 (fun pre : List (OnWay n i) => pre.length) (fun pre => dcells (pre.map fun x => rootD (seg ls x.val.1 x.val.2))) (fun _ _ => True)) _)
    (OwnFrom.and (Own.from (boxed_own _ _ _) _) (OwnFrom.and (Own.from (boxed_own _ _ _) _) (Own.from (boxed_own _ _ _) _)))) (ownFrom_below (Nat.le_refl _) hB)
/-- the digest of a part stands in its row -/
theorem TreeP.part {W : World} {ls : List (List Int)} {t Lb Rb Rc H : Nat} {vs : List Value} {rb : Nat → Nat} (h : TreeP W ls t Lb Rb Rc H vs rb) (i : Nat) (hi : i < ls.length) (x : OnWay ls.length i) :
    x.val.1 ≤ H ∧ x.val.2 < (rowsD ls x.val.1).length ∧ (rowsD ls x.val.1).getD x.val.2 [] = rootD (seg ls x.val.1 x.val.2) := by
  have hn : 0 < ls.length := by omega
  have hne := map_ne hn
  obtain ⟨h1, h2⟩ := wy_pow ls.length i 63 _ x.property hi
  have h3 := (wy_mem ls.length i 63 _ x.property).2
  have h4 := (h.root hn).2.2
  have hl : (rowsD ls x.val.1).length = ((ls.map leafD).length - 1) / 2 ^ x.val.1 + 1 := rws_len nodeD (ls.map leafD) hne x.val.1
  rw [List.length_map] at hl
  have hlt : x.val.2 < (rowsD ls x.val.1).length := by rw [hl]; exact Nat.lt_succ_of_le h3
  refine ⟨?_, hlt, ?_⟩
  · rcases Nat.lt_or_ge H x.val.1 with hg | hg
    · have := Nat.pow_le_pow_right (n := 2) (by omega) (Nat.le_of_lt hg)
      omega
    · exact hg
  · have e := rws_seg nodeD (ls.map leafD) hne x.val.1 x.val.2 hlt
    show (rws nodeD (ls.map leafD) x.val.1).getD x.val.2 [] = _
    rw [e, seg_map, rootD_rt (seg ls x.val.1 x.val.2) (fun e => ?_) x.val.1 (seg_len _ _ _)]
    have := seg_length ls x.val.1 x.val.2
    have hp := pow_pos2 x.val.1
    rw [e] at this
    simp at this
    omega
set_option maxRecDepth 100000 in
set_option maxHeartbeats 4000000 in
theorem tprove_in (i : Nat) (w : World) (ls : List (List Int)) (t Lb Rb Rc H : Nat) (vs : List Value) (rb : Nat → Nat) (hT : TreeP w ls t Lb Rb Rc H vs rb) (hi : i < ls.length) :
    CallsIn Fence.wide 6 Tryd.prog 26 #[.pointer (some ⟨t, 0, none⟩), .int .i64 i] w fun e w' => ∃ sp' cap', e = .returned (.tuple #[.slice sp' (proofD i ls).length cap', .int .i64 0]) ∧ Digs w' sp' cap' (proofD i ls) ∧ Below w.heap.size w w' := by
  have hmany := hT.many
  have hhigh := hT.high
  have HTp := Lib.hid (fun (x : OnWay ls.length i) => hT.part i hi x)
  have HT := Lib.hid hT
  obtain ⟨n, hn⟩ : ∃ n, ls.length = n := ⟨_, rfl⟩
  have HCk := Lib.hid (fun W (hB : Below w.heap.size w W) => check_at W t i n n (some ⟨Lb, 0, none⟩) (by rw [← hn]; exact (hT.below hB).c0) (by omega))
  have HLn := Lib.hid (fun W (hB : Below w.heap.size w W) => tlen_at W t n n (some ⟨Lb, 0, none⟩) (by rw [← hn]; exact (hT.below hB).c0))
  rw [hn] at HTp hi hmany
  have HN := Lib.hid hn
  clear hn hT
  refine callsIn_of_wp_marks Tryd.func26 rfl trivial ?_ rfl
  simp only [Tryd.ntmps26, List.size_toArray, List.length_cons, List.length_nil, Nat.reduceAdd, Nat.reduceSub, Array.replicate_succ, Array.replicate_zero, List.push_toArray, List.append_toArray, List.nil_append, List.cons_append]
  have hB1 : Below w.heap.size w (w.alloc (.cells #[.pointer (some ⟨t, 0, none⟩)] 46)) := (Below.refl _ w).alloc (Nat.le_refl _) _
  have hB2 : Below w.heap.size w ((w.alloc (.cells #[.pointer (some ⟨t, 0, none⟩)] 46)).alloc (.cells #[.slice none 0 0] 33)) := hB1.alloc (by simp) _
  gi_wp2_with (first
    | (refine ⟨trivial, ?_⟩; gi_at_call 44; refine (callsIn_wide.2 (HCk.out _ hB1)).mono ?_; rintro e w' ⟨rfl, rfl⟩)
    | (refine ⟨trivial, ?_⟩; gi_at_call 29; refine (callsIn_wide.2 (HLn.out _ hB2)).mono ?_; rintro e w' ⟨rfl, rfl⟩)
    | (refine ⟨trivial, ?_⟩; gi_at_call 38; refine (callsIn_wide.2 (way_any _ _ _)).mono ?_; rintro e w' ⟨rfl, rfl⟩))
  have b0 := (((Boxed.new w 46 (.pointer (some ⟨t, 0, none⟩))).alloc (.cells #[.slice none 0 0] 33)).alloc (.cells #[.int .i64 n] 3)).alloc (.cells #[.int .i64 i] 3)
  have b1 := ((Boxed.new (w.alloc (.cells #[.pointer (some ⟨t, 0, none⟩)] 46)) 33 (.slice none 0 0)).alloc (.cells #[.int .i64 n] 3)).alloc (.cells #[.int .i64 i] 3)
  have b2 := (Boxed.new ((w.alloc (.cells #[.pointer (some ⟨t, 0, none⟩)] 46)).alloc (.cells #[.slice none 0 0] 33)) 3 (.int .i64 n)).alloc (.cells #[.int .i64 i] 3)
  have b3 := Boxed.new (((w.alloc (.cells #[.pointer (some ⟨t, 0, none⟩)] 46)).alloc (.cells #[.slice none 0 0] 33)).alloc (.cells #[.int .i64 n] 3)) 3 (.int .i64 i)
  simp only [World.size_alloc, Nat.add_assoc, Nat.reduceAdd] at b1 b2 b3 ⊢
  have hB0 : Below w.heap.size w ((((w.alloc (.cells #[.pointer (some ⟨t, 0, none⟩)] 46)).alloc (.cells #[.slice none 0 0] 33)).alloc (.cells #[.int .i64 n] 3)).alloc (.cells #[.int .i64 i] 3)) := (hB2.alloc (by simp; omega) _).alloc (by simp; omega) _
  have hsz : ((((w.alloc (.cells #[.pointer (some ⟨t, 0, none⟩)] 46)).alloc (.cells #[.slice none 0 0] 33)).alloc (.cells #[.int .i64 n] 3)).alloc (.cells #[.int .i64 i] 3)).heap.size = w.heap.size + 4 := by simp
  obtain ⟨W0, hW0⟩ : ∃ W0, (((w.alloc (.cells #[.pointer (some ⟨t, 0, none⟩)] 46)).alloc (.cells #[.slice none 0 0] 33)).alloc (.cells #[.int .i64 n] 3)).alloc (.cells #[.int .i64 i] 3) = W0 := ⟨_, rfl⟩
  rw [hW0] at b0 b1 b2 b3 hB0 hsz ⊢
  clear hW0 hB1 hB2 HCk HLn
  refine wpIn_rangeFunc_ownH rfl (by omega) (gf := 55) (lb := #[.pointer (some ⟨w.heap.size + 2, 0, none⟩), .pointer (some ⟨w.heap.size + 3, 0, none⟩)]) rfl trivial (enters_of Tryd.func55 (by kernel_rfl) rfl)
    (way_stops 5 (by omega) (w.heap.size + 2) (w.heap.size + 3) n i hi (by omega) W0 b2.cell b3.cell) keep_t (fun W l o o' h1 h2 h3 h4 => keep_b W l o o' h1 h2 h3 h4) (Below.refl _ _) (fun _ => rfl)
    (TProveI w t n i ls) (fun _ _ _ => False) (tproveI_own w t n i ls _ (by omega)) (fun _ _ _ _ _ hs _ _ => hs)
    ⟨⟨⟨_, b1, World.ownsRow_nil _ _ _ _, trivial⟩, b0, b2, b3⟩, hB0⟩
    (fun x a' W => ∃ Bx, w.heap.size + 3 < Bx ∧ W.heap[Bx]? = some (.cells #[.int .i64 x.val.1, .int .i64 x.val.2] 71 (0, 0)) ∧ ∃ u19, a' =
      { tmps := #[.pointer (some ⟨t, 0, none⟩), .int .i64 i, .pointer (some ⟨w.heap.size, 0, none⟩), undef, .slice none 0 0, .int .i64 0, .int .i64 0, .pointer (some ⟨w.heap.size + 1, 0, none⟩), .pointer (some ⟨Bx, 0, none⟩),
          .pointer (some ⟨t, 0, none⟩), .int .i64 i, .int .i64 0, .int .i64 0, .bool false, undef, .pointer (some ⟨t, 0, none⟩), .int .i64 n, .int .i64 i,
          .func (.func 55) #[] #[.pointer (some ⟨w.heap.size + 2, 0, none⟩), .pointer (some ⟨w.heap.size + 3, 0, none⟩)], u19, undef, undef, undef, undef, undef, undef, undef, undef, undef, undef, undef, undef, undef, undef, undef, undef], defers := [] })
    (fun x a' _ X Y row hs hg hr => by obtain ⟨Bx, h1, h2, h3⟩ := hs; exact ⟨Bx, h1, row_own Bx _ _ _ () X Y row h2 hg (fun r e => (hr r e).2), h3⟩)
    ?assign ?body ?done ?stop
  case assign =>
    rintro l pre x W K ⟨⟨⟨v, hv, hr, _⟩, h0, h2, h3⟩, hb⟩ hK
    have hsW := hb.size
    have l3 := h3.lt
    dsimp only [pv]
    gi_wp2
    exact hK _ _ ((KeepsOthers.alloc _ _).from _) (keep_of (by omega) (by omega) ((Below.refl _ _).alloc (Nat.le_refl _) _)) ⟨⟨⟨v, hv.alloc _, hr.alloc _, trivial⟩, h0.alloc _, h2.alloc _, h3.alloc _⟩, hb.alloc hsW _⟩ ⟨W.heap.size, l3, heap_alloc_new _ _, _, rfl⟩
  case body =>
    rintro l pre x a' W hl _ hI ⟨Bx, hBx, bX, u19, rfl⟩ hlt
    have HBX := Lib.hid bX
    obtain ⟨⟨⟨v, hv, hr, _⟩, h0, h2, h3⟩, hb⟩ := hI
    obtain ⟨hpH, hqL, hgd⟩ := HTp.out x
    have HRw := Lib.hid (fun W' (hW' : TreeP W' ls t Lb Rb Rc H vs rb) => hW'.r x.val.1 hpH)
    have HLd := Lib.hid (fun W' (hW' : TreeP W' ls t Lb Rb Rc H vs rb) => (hW'.rows x.val.1 hpH).lies x.val.2 hqL)
    obtain ⟨⟨px, qx⟩, hx⟩ := x
    simp only at hpH hqL hgd HRw HLd bX ⊢
    obtain ⟨L, hL⟩ : ∃ L, (rowsD ls px).length = L := ⟨_, rfl⟩
    rw [hL] at hqL HRw
    have h32 := rootD_length (seg ls px qx)
    obtain ⟨R, hR⟩ : ∃ R, rootD (seg ls px qx) = R := ⟨_, rfl⟩
    rw [hgd, hR] at HLd
    rw [hR] at h32
    have HRr := Lib.hid hR
    have HLd : Hid (∀ W', TreeP W' ls t Lb Rb Rc H vs rb → W'.rangeAt (rb px) (0 + 32 * qx) (R.map (Value.int .u8))) := fun W' h => by rw [Nat.zero_add]; exact HLd.out W' h
    have HV := Lib.hid hv
    have HR := Lib.hid hr
    have H0 := Lib.hid h0
    have H2 := Lib.hid h2
    have H3 := Lib.hid h3
    have HB := Lib.hid hb
    clear bX hv hr h0 h2 h3 hb hgd hR hL
    gi_wp2
    refine wpIn_region_float (C := fun W' => Below W.heap.size W W') (S := fun W' => W'.cell? ⟨w.heap.size + 1, 0, none⟩ = some v) 13 v (by kernel_rfl) (by kernel_rfl) (fun ⟨_, _, h⟩ => h) (by kernel_rfl) ⟨rfl, rfl, rfl, Nat.le_refl _, fun _ _ => rfl⟩
      (fun W' hW' => Boxed.cell (boxed_below HV.out hW')) (fun _ _ _ h => h) _ rfl (.inl ⟨rfl, fun W' hW' => exec_load1 33 (.tmp 7) rfl ⟨w.heap.size + 1, 0, none⟩ rfl v hW' _ Tryd.underlying33 rfl⟩) ?_
    simp only [List.take_succ_cons, List.take_zero, List.drop_succ_cons, List.drop_zero, Nat.reduceSub, Act.put, List.setIfInBounds_toArray, List.set_cons_succ, List.set_cons_zero]
    have hw : ∀ W', Below W.heap.size W W' → TreeP W' ls t Lb Rb Rc H vs rb := fun W' h => HT.out.below (HB.out.trans (h.mono HB.out.size))
    refine q_val (.pointer (some ⟨t, 0, none⟩)) rfl (fun W' hW' => exec_load1 46 (.tmp 2) rfl ⟨w.heap.size, 0, none⟩ rfl _ (Boxed.cell (boxed_below H0.out hW')) _ Tryd.underlying46 rfl) ?_
    simp only [Act.put, List.setIfInBounds_toArray, List.set_cons_succ, List.set_cons_zero]
    refine q_val (.pointer (some ⟨t, 0, none⟩)) rfl (fun _ _ => exec_nil (.tmp 21) rfl _ rfl) ?_
    simp only [Act.put, List.setIfInBounds_toArray, List.set_cons_succ, List.set_cons_zero]
    refine q_val (.pointer (some ⟨t, 1, none⟩)) rfl (fun _ _ => exec_tree1 (.tmp 22) rfl _ rfl) ?_
    simp only [Act.put, List.setIfInBounds_toArray, List.set_cons_succ, List.set_cons_zero]
    refine q_val (.slice (some ⟨Rb, 0, none⟩) (H + 1) Rc) rfl (fun W' hW' => exec_load1 73 (.tmp 23) rfl ⟨t, 1, none⟩ rfl _ ((hw W' hW').c1) _ Tryd.underlying73 rfl) ?_
    simp only [Act.put, List.setIfInBounds_toArray, List.set_cons_succ, List.set_cons_zero]
    refine q_val (.pointer (some ⟨Bx, 0, none⟩)) rfl (fun _ _ => exec_part0 (.tmp 8) rfl Bx rfl) ?_
    simp only [Act.put, List.setIfInBounds_toArray, List.set_cons_succ, List.set_cons_zero]
    refine q_val (.int .i64 (px : Int)) rfl (fun W' hW' => exec_load1 3 (.tmp 25) rfl ⟨Bx, 0, none⟩ rfl _ (by rw [cell_of_row _ _ _ _ _ _ ((hW'.block Bx (Array.getElem?_eq_some_iff.1 HBX.out).1).trans HBX.out)]; rfl) _ Tryd.underlying3 rfl) ?_
    simp only [Act.put, List.setIfInBounds_toArray, List.set_cons_succ, List.set_cons_zero]
    refine q_val (.pointer (some ⟨Rb, px, none⟩)) rfl (fun _ _ => exec_ddAt (.tmp 24) (.tmp 26) rfl Rb (H + 1) Rc px rfl rfl (by omega)) ?_
    simp only [Act.put, List.setIfInBounds_toArray, List.set_cons_succ, List.set_cons_zero]
    refine q_val (.slice (some ⟨rb px, 0, none⟩) L L) rfl (fun W' hW' => exec_load1 33 (.tmp 27) rfl ⟨Rb, px, none⟩ rfl _ (HRw.out W' (hw W' hW')) _ Tryd.underlying33 rfl) ?_
    simp only [Act.put, List.setIfInBounds_toArray, List.set_cons_succ, List.set_cons_zero]
    refine q_val (.pointer (some ⟨Bx, 1, none⟩)) rfl (fun _ _ => exec_part1 (.tmp 8) rfl Bx rfl) ?_
    simp only [Act.put, List.setIfInBounds_toArray, List.set_cons_succ, List.set_cons_zero]
    refine q_val (.int .i64 (qx : Int)) rfl (fun W' hW' => exec_load1 3 (.tmp 29) rfl ⟨Bx, 1, none⟩ rfl _ (by rw [cell_of_row _ _ _ _ _ _ ((hW'.block Bx (Array.getElem?_eq_some_iff.1 HBX.out).1).trans HBX.out)]; rfl) _ Tryd.underlying3 rfl) ?_
    simp only [Act.put, List.setIfInBounds_toArray, List.set_cons_succ, List.set_cons_zero]
    refine q_val (.pointer (some ⟨rb px, 0 + 32 * qx, none⟩)) rfl (fun _ _ => exec_dig_at (.tmp 28) (.tmp 30) rfl (rb px) 0 L L qx rfl rfl hqL) ?_
    simp only [Act.put, List.setIfInBounds_toArray, List.set_cons_succ, List.set_cons_zero]
    refine q_val (.agg (rowB R)) rfl (fun W' hW' => exec_load_mid (.tmp 31) rfl (rb px) (0 + 32 * qx) rfl R h32 (HLd.out W' (hw W' hW'))) ?_
    simp only [Act.put, List.setIfInBounds_toArray, List.set_cons_succ, List.set_cons_zero]
    refine wpQuiet_nil ?_
    intro W2 hW2
    have HW2 := Lib.hid hW2
    have HV2 := Lib.hid (boxed_below HV.out hW2)
    have HR2 := Lib.hid (owns_below HR.out hW2)
    have hsz2 : W.heap.size ≤ W2.heap.size := hW2.size
    clear hW2 hw HRw HLd
    refine wpList_one_dig rfl (.tmp 32) rfl R rfl h32 ?_
    refine wpList_nil ?_
    have HTn := Lib.hid (new_dig W2 R 24 (0, 0))
    have hN := dp_wy 63 n i hi (by omega)
    have hdp := dp_le 63 n i
    refine ⟨Boxed.cell (HV2.out.alloc _), ?_⟩
    simp only [Act.put, List.setIfInBounds_toArray, List.set_cons_succ, List.set_cons_zero]
    go_wp2_with (refine wpList_append_dig rfl (.tmp 20) (.tmp 33) rfl w.heap.size v pre.length 1 _ [R] rfl (HR2.out.alloc _) ⟨W2.heap.size, 0, none⟩ 1 rfl rfl (by simpa using h32) HTn.out (by omega) (by have := HB.out.size; simp; omega) ?_; intro v' w1 hown' hgrow; obtain ⟨g', cap', rfl⟩ := ownsRow_succ hown'; obtain ⟨hv1, hv2, hr2, hk2, hb2⟩ := HV2.out.appended (by decide) HR2.out (by have := HB.out.size; omega) (by omega) hown' hgrow; have hc1 := hv1.cell; have hf1 := hv1.frozen)
    have k0 := boxed_over (B' := w.heap.size + 1) (boxed_below H0.out HW2.out) (by decide) HR2.out hgrow (by omega) (.slice (some ⟨g', 0, none⟩) (pre.length + 1) cap')
    have k2 := boxed_over (B' := w.heap.size + 1) (boxed_below H2.out HW2.out) (by decide) HR2.out hgrow (by omega) (.slice (some ⟨g', 0, none⟩) (pre.length + 1) cap')
    have k3 := boxed_over (B' := w.heap.size + 1) (boxed_below H3.out HW2.out) (by decide) HR2.out hgrow (by omega) (.slice (some ⟨g', 0, none⟩) (pre.length + 1) cap')
    refine ⟨(below_keeps HW2.out).trans (hk2.from _), keep_boxes H2.out H3.out k2 k3, ⟨⟨_, hv2, ?_, trivial⟩, k0, k2, k3⟩, HB.out.trans ((HW2.out.mono HB.out.size).trans hb2)⟩
    rw [List.length_append, List.map_append]
    simp only [List.length_singleton, List.map_cons, List.map_nil]
    rw [HRr.out]
    exact hr2
  case done =>
    rintro D ys W hD hys ⟨⟨⟨v, hv, hrow, _⟩, h0, h2, h3⟩, hB⟩ hK
    have hc := hv.cell
    have HH := Lib.hid hys
    have HRow := Lib.hid hrow
    clear hys hrow
    gi_wp2
    refine ⟨by simp, .inl ⟨_, _, rfl, run_takeDeferred hK, ?_⟩⟩
    have hrow := ownsRow_putObj HRow.out (.deferred none) hK rfl
    have e1 : (ys.map fun x => rootD (seg ls x.val.1 x.val.2)) = proofD i ls := by
      rw [proofD_wy ls i (by rw [HN.out]; exact hi) (by rw [HN.out]; omega), HN.out]
      have := congrArg (List.map fun x : Nat × Nat => rootD (seg ls x.1 x.2)) HH.out
      rw [List.map_map] at this
      exact this
    rw [e1] at hrow
    have e2 : ys.length = (proofD i ls).length := by rw [← e1, List.length_map]
    rw [e2] at hrow
    obtain ⟨sp', cap', rfl, _, hd, _⟩ := own_digs hrow (proofD_all i ls (by rw [HN.out]; exact hi) (by rw [HN.out]; omega))
    exact ⟨_, results_tmp2 rfl _ _ _, sp', cap', rfl, hd, hB.trans (belowK_b (w := w) (Nat.le_refl _) W D _ _ (by omega) hK rfl rfl)⟩
  case stop =>
    rintro D c pre W _ _ h _
    exact h.elim
theorem tprove_any (i : Nat) (w : World) (ls : List (List Int)) (t Lb Rb Rc H : Nat) (vs : List Value) (rb : Nat → Nat) (hT : TreeP w ls t Lb Rb Rc H vs rb) (hi : i < ls.length) :
    Calls Tryd.prog 26 #[.pointer (some ⟨t, 0, none⟩), .int .i64 i] w fun e w' => ∃ sp' cap', e = .returned (.tuple #[.slice sp' (proofD i ls).length cap', .int .i64 0]) ∧ Digs w' sp' cap' (proofD i ls) ∧ Below w.heap.size w w' :=
  callsIn_wide.1 (tprove_in i w ls t Lb Rb Rc H vs rb hT hi)
end Go.Proofs.YtighmhoekbnagaaDoor
