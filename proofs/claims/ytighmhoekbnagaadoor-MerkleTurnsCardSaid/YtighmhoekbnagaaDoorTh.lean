import Derived.Test.YtighmhoekbnagaaDoorTg
namespace Go.Proofs.YtighmhoekbnagaaDoor
open Go.ChangeShapes Go.WideShapes Go.ChangeAt Go.RowKit

/-! ### Root, check -/
theorem exec_ddAt {a : Act} {o : Oper} {W : World} (x y : Operand) (ho : o.op = .indexAddr 73 x y) (c n cap i : Nat) (hx : a.eval x = .slice (some ⟨c, 0, none⟩) n cap) (hy : a.eval y = .int .i64 (i : Int)) (hi : i < n) : (execOp a.eval o).run Tryd.prog W = .ok (.value (.pointer (some ⟨c, i, none⟩))) W := by
  have hadd := add_plain c 0 i
  rw [Nat.zero_add] at hadd
  have hs : (Tryd.prog.info? 33).map (·.size) = some 1 := by kernel_rfl
  cases hq : Tryd.prog.info? 33 with
  | none => simp [hq] at hs
  | some j =>
    have hj : j.size = 1 := by simpa [hq] using hs
    unfold execOp
    simp [ho, hx, hy, Instr.indexAt, asIntOf, run_underlying Tryd.underlying73, sizeOf, typeInfo, hq, hj, hi, hadd]
theorem exec_lenDD {a : Act} {o : Oper} {W : World} (x : Operand) (ho : o.op = .call { callee := .builtin .len, args := #[x], argTypes := #[73] }) (sp : Option Addr) (n cap : Nat) (hx : a.eval x = .slice sp n cap) : (execOp a.eval o).run Tryd.prog W = .ok (.value (.int .i64 n)) W := by
  unfold execOp
  simp only [ho, resolve, invoke, Sem.run_bind, Sem.run_pure, Result.andThen_ok, List.map_toArray, List.map_cons, List.map_nil, hx, BigFrame.builtin_len]
  simp [go_sem]
section
variable {W : World} {ls : List (List Int)} {t Lb Rb Rc H : Nat} {vs : List Value} {rb : Nat → Nat}
theorem TreeP.c0 (h : TreeP W ls t Lb Rb Rc H vs rb) : W.cell? ⟨t, 0, none⟩ = some (.slice (some ⟨Lb, 0, none⟩) ls.length ls.length) := by rw [cell_of_row _ _ _ _ _ _ h.top]; rfl
theorem TreeP.c1 (h : TreeP W ls t Lb Rb Rc H vs rb) : W.cell? ⟨t, 1, none⟩ = some (.slice (some ⟨Rb, 0, none⟩) (H + 1) Rc) := by rw [cell_of_row _ _ _ _ _ _ h.top]; rfl
theorem TreeP.r (h : TreeP W ls t Lb Rb Rc H vs rb) (k : Nat) (hk : k ≤ H) : W.cell? ⟨Rb, k, none⟩ = some (.slice (some ⟨rb k, 0, none⟩) (rowsD ls k).length (rowsD ls k).length) := by
  obtain ⟨cur, h1, _, h3⟩ := h.roots
  rw [cell_of_row _ _ _ _ _ _ h1]
  exact h3 k hk
theorem map_ne {ls : List (List Int)} (h : 0 < ls.length) : ls.map leafD ≠ [] := by
  intro e
  have := congrArg List.length e
  rw [List.length_map] at this
  simp at this
  rw [this] at h
  simp at h
theorem TreeP.root (h : TreeP W ls t Lb Rb Rc H vs rb) (hn : 0 < ls.length) : (rowsD ls H).getD 0 [] = rootD ls ∧ (rowsD ls H).length = 1 ∧ ls.length ≤ 2 ^ H := by
  have hne := map_ne hn
  obtain ⟨h1, h2⟩ := rws_top nodeD (ls.map leafD) hne H h.last
  have h3 := rws_len nodeD (ls.map leafD) hne H
  rw [List.length_map] at h2
  have hl : (rowsD ls H).length = ((ls.map leafD).length - 1) / 2 ^ H + 1 := h3
  have hl2 := h.last
  refine ⟨?_, by rw [hl] at hl2 ⊢; exact Nat.le_antisymm hl2 (Nat.succ_pos _), h2⟩
  show (rws nodeD (ls.map leafD) H).getD 0 [] = _
  rw [h1, rootD_rt ls (fun e => by rw [e] at hn; simp at hn) H h2]
end
set_option maxRecDepth 100000 in
set_option maxHeartbeats 4000000 in
theorem troot_any (w : World) (ls : List (List Int)) (t Lb Rb Rc H : Nat) (vs : List Value) (rb : Nat → Nat) (hT : TreeP w ls t Lb Rb Rc H vs rb) (hn : 0 < ls.length) :
    Calls Tryd.prog 24 #[.pointer (some ⟨t, 0, none⟩)] w fun e w' => e = .returned (.agg (rowB (rootD ls))) ∧ Below w.heap.size w w' := by
  obtain ⟨n, hnn⟩ : ∃ n, ls.length = n := ⟨_, rfl⟩
  have HL : Hid (∀ W, Below w.heap.size w W → Calls Tryd.prog 29 #[.pointer (some ⟨t, 0, none⟩)] W fun e w' => e = .returned (.int .i64 n) ∧ W = w') := fun W hW => tlen_at W t n n (some ⟨Lb, 0, none⟩) (by rw [← hnn]; exact (hT.below hW).c0)
  obtain ⟨hr1, hr2, _⟩ := hT.root hn
  have hH := hT.high
  have h32 : (rootD ls).length = 32 := rootD_length ls
  have HRw : Hid (∀ W, TreeP W ls t Lb Rb Rc H vs rb → W.cell? ⟨Rb, H, none⟩ = some (.slice (some ⟨rb H, 0, none⟩) 1 1)) := fun W h => by have := h.r H (Nat.le_refl _); rw [hr2] at this; exact this
  have HLd : Hid (∀ W, TreeP W ls t Lb Rb Rc H vs rb → W.rangeAt (rb H) (0 + 32 * 0) ((rootD ls).map (Value.int .u8))) := fun W h => by have := (h.rows H (Nat.le_refl _)).lies 0 (by omega); rw [hr1] at this; exact this
  obtain ⟨R, hR⟩ : ∃ R, rootD ls = R := ⟨_, rfl⟩
  rw [hR] at h32 HLd
  have HRr := Lib.hid hR
  have HT := Lib.hid hT
  have HZ := Lib.hid (row_dig h32)
  have HY := Lib.hid (row_dig0 h32)
  have HX := Lib.hid (rowB_one R)
  have d0 : ((n : Int) == 0) = false := by rw [beq_eq_false_iff_ne]; omega
  clear hr1 hr2 hT hR hnn hn
  go_enter Tryd.func24, Tryd.ntmps24
  go_upto_region 1 with fail
  refine gen_world (Q := fun w => Code.wp _ _ _ _ w) _ (Res w) (Res.new w _ (by kernel_rfl)) ?_
  intro w1 hr1
  have HR1 := Lib.hid hr1
  clear hr1
  go_upto_region 3 with (go_at_call 29; refine (HL.out _ HR1.out.below).mono ?_; rintro e w' ⟨rfl, rfl⟩)
  have hw : ∀ W, Below w1.heap.size w1 W → TreeP W ls t Lb Rb Rc H vs rb := fun W h => HT.out.below (HR1.out.below.trans (h.mono HR1.out.below.size))
  refine wp_region_quiet_tail (C := fun W => Below w1.heap.size w1 W) 12 (by kernel_rfl) (by kernel_rfl) ⟨rfl, rfl, rfl, Nat.le_refl _, fun _ _ => rfl⟩ ?_
  simp only [List.take_succ_cons, List.take_zero, List.drop_succ_cons, List.drop_zero]
  refine q_val _ rfl (fun _ _ => rfl) ?_
  simp only [Act.put, List.setIfInBounds_toArray, List.set_cons_succ, List.set_cons_zero]
  refine q_val (.pointer (some ⟨t, 0, none⟩)) rfl (fun _ _ => exec_nil (.tmp 8) rfl _ rfl) ?_
  simp only [Act.put, List.setIfInBounds_toArray, List.set_cons_succ, List.set_cons_zero]
  refine q_val (.pointer (some ⟨t, 1, none⟩)) rfl (fun _ _ => exec_tree1 (.tmp 9) rfl _ rfl) ?_
  simp only [Act.put, List.setIfInBounds_toArray, List.set_cons_succ, List.set_cons_zero]
  refine q_val (.slice (some ⟨Rb, 0, none⟩) (H + 1) Rc) rfl (fun W hW => exec_load1 73 (.tmp 10) rfl ⟨t, 1, none⟩ rfl _ ((hw W hW).c1) _ Tryd.underlying73 rfl) ?_
  simp only [Act.put, List.setIfInBounds_toArray, List.set_cons_succ, List.set_cons_zero]
  refine q_val _ rfl (fun _ _ => rfl) ?_
  simp only [Act.put, List.setIfInBounds_toArray, List.set_cons_succ, List.set_cons_zero]
  refine q_val (.pointer (some ⟨t, 0, none⟩)) rfl (fun _ _ => exec_nil (.tmp 12) rfl _ rfl) ?_
  simp only [Act.put, List.setIfInBounds_toArray, List.set_cons_succ, List.set_cons_zero]
  refine q_val (.pointer (some ⟨t, 1, none⟩)) rfl (fun _ _ => exec_tree1 (.tmp 13) rfl _ rfl) ?_
  simp only [Act.put, List.setIfInBounds_toArray, List.set_cons_succ, List.set_cons_zero]
  refine q_val (.slice (some ⟨Rb, 0, none⟩) (H + 1) Rc) rfl (fun W hW => exec_load1 73 (.tmp 14) rfl ⟨t, 1, none⟩ rfl _ ((hw W hW).c1) _ Tryd.underlying73 rfl) ?_
  simp only [Act.put, List.setIfInBounds_toArray, List.set_cons_succ, List.set_cons_zero]
  refine q_val (.int .i64 ((H + 1 : Nat) : Int)) rfl (fun _ _ => exec_lenDD (.tmp 15) rfl _ _ _ rfl) ?_
  simp only [Act.put, List.setIfInBounds_toArray, List.set_cons_succ, List.set_cons_zero]
  refine q_val (.int .i64 (H : Int)) rfl (fun W _ => exec_bin .sub (.tmp 16) (.const (.int .i64 1)) rfl rfl _ _ _ rfl rfl (run_less1 H (by omega) W)) ?_
  simp only [Act.put, List.setIfInBounds_toArray, List.set_cons_succ, List.set_cons_zero]
  refine q_val (.pointer (some ⟨Rb, H, none⟩)) rfl (fun _ _ => exec_ddAt (.tmp 11) (.tmp 17) rfl Rb (H + 1) Rc H rfl rfl (by omega)) ?_
  simp only [Act.put, List.setIfInBounds_toArray, List.set_cons_succ, List.set_cons_zero]
  refine q_val (.slice (some ⟨rb H, 0, none⟩) 1 1) rfl (fun W hW => exec_load1 33 (.tmp 18) rfl ⟨Rb, H, none⟩ rfl _ (HRw.out W (hw W hW)) _ Tryd.underlying33 rfl) ?_
  simp only [Act.put, List.setIfInBounds_toArray, List.set_cons_succ, List.set_cons_zero]
  refine wpQuiet_nil ?_
  intro w2 hw2
  have HR2 := Lib.hid (HR1.out.later hw2)
  have HT2 := Lib.hid (hw w2 hw2)
  clear hw2 hw
  go_wp2_with (first
    | (refine wpList_val rfl (.pointer (some ⟨rb H, 0 + 32 * 0, none⟩)) (exec_dig_at (.tmp 20) (.const (.int .i64 0)) rfl (rb H) 0 1 1 0 rfl rfl (by omega)) ?_)
    | (refine wpList_val rfl (.agg (rowB R)) (exec_load_mid (.tmp 21) rfl (rb H) (0 + 32 * 0) rfl R h32 (HLd.out _ HT2.out)) ?_)
    | (refine wpList_store_row rfl 24 (.tmp 2) (.tmp 22) rfl w.heap.size (rowB R) rfl rfl 24 _ HR2.out.res HZ.out HY.out HX.out ?_))
  exact bodyPost_ret (v := .agg (rowB R)) (results_cell_row Tryd.results24 _ _ w.heap.size 24 (rowB R) (0, 0) _ rfl (setRow_heap _ _ _ _ _ _ HR2.out.res) Tryd.underlying24 rfl HZ.out) rfl ⟨by rw [HRr.out], below_setRow HR2.out.below (Nat.le_refl _) _⟩
theorem check_at (w : World) (t i n c : Nat) (s : Option Addr) (hc : w.cell? ⟨t, 0, none⟩ = some (.slice s n c)) (hi : i < n) :
    Calls Tryd.prog 44 #[.pointer (some ⟨t, 0, none⟩), .int .i64 i] w fun e w' => e = .returned (.int .i64 0) ∧ w = w' := by
  have HL := Lib.hid (tlen_at w t n c s hc)
  clear hc
  go_enter Tryd.func44, Tryd.ntmps44
  go_wp2_with (first
    | (go_at_call 29; refine HL.out.mono ?_; rintro e w' ⟨rfl, rfl⟩)
    | (go_at_call 37; refine (place_yes _ _ _ (by omega) (by omega)).mono ?_; rintro e w' ⟨rfl, rfl⟩))
  go_ret
  exact ⟨rfl, rfl⟩
end Go.Proofs.YtighmhoekbnagaaDoor
