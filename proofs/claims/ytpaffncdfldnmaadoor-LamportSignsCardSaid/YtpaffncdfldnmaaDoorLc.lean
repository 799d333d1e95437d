import Derived.Test.YtpaffncdfldnmaaDoorLb
import Derived.Great.BuildSlice
namespace Go.Proofs.YtpaffncdfldnmaaDoor
open Go.ChangeShapes Go.WideShapes Go.ChangeAt Go.RowKit

theorem cd_of_byt {W : World} {sp : Option Addr} {cap : Nat} {l : List Int} (h : Byt W sp cap l) (hr : Cd.rng l) : Cd.Bytes W sp cap l := ⟨⟨(byt_iff.1 h).le, (byt_iff.1 h).max, (byt_iff.1 h).nul, (byt_iff.1 h).lies⟩, hr⟩
theorem byt_of_cd {W : World} {sp : Option Addr} {cap : Nat} {l : List Int} (h : Cd.Bytes W sp cap l) : Byt W sp cap l := byt_iff.2 ⟨h.sl.le, h.sl.max, h.sl.nul, h.sl.lies⟩
theorem secB_length {s : List Int} (hs : s.length = 32) (p b : Nat) : (secB s p b).length = 56 := by
  simp [secB, Cd.join, Cd.pc, Cd.nums, Cd.be_length, hs]
section
variable {a : Act} {o : Oper} {W : World}
theorem exec_slD (x : Operand) (ho : o.op = .slice 23 x none none none) (g : Nat) (hx : a.eval x = .pointer (some ⟨g, 0, none⟩)) : (execOp a.eval o).run Tryd.prog W = .ok (.value (.slice (some ⟨g, 0, none⟩) 32 32)) W := by
  have r := run_digest g W
  unfold execOp
  simp [ho, hx, r]
theorem exec_twoI (x y : Operand) (ho : o.op = .buildSlice 60 2 #[(0, x), (1, y)]) (u v : Int) (hx : a.eval x = .int .i64 u) (hy : a.eval y = .int .i64 v) :
    (execOp a.eval o).run Tryd.prog W = .ok (.value (.slice (some ⟨W.heap.size, 0, none⟩) 2 2)) (W.alloc (.cells #[.int .i64 u, .int .i64 v] 3)) := by
  obtain ⟨i0, hi, hz0, hz1, hz2⟩ := info_parts Cd.info3
  unfold execOp
  have hr := run_buildSlice (P := Tryd.prog) W 60 3 2 #[(0, .int .i64 u), (1, .int .i64 v)] #[.int .i64 u, .int .i64 v] i0 _ Tryd.underlying60 hi hz0 (by rw [hz1]; decide) (by rw [hz1]; decide) (by rw [hz1]; kernel_rfl)
  have e : (#[((0 : Nat), x), (1, y)].map fun (i, x) => (i, a.eval x)) = #[(0, .int .i64 u), (1, .int .i64 v)] := by simp [hx, hy]
  simp only [ho, e, Sem.run_bind, hr, Result.andThen_ok, Sem.run_pure]
theorem exec_twoS (x y : Operand) (ho : o.op = .buildSlice 61 2 #[(0, x), (1, y)]) (s1 s2 : Option Addr) (n1 n2 c1 c2 : Nat) (hx : a.eval x = .slice s1 n1 c1) (hy : a.eval y = .slice s2 n2 c2) :
    (execOp a.eval o).run Tryd.prog W = .ok (.value (.slice (some ⟨W.heap.size, 0, none⟩) 2 2)) (W.alloc (.cells #[.slice s1 n1 c1, .slice s2 n2 c2] 38)) := by
  obtain ⟨i0, hi, hz0, hz1, hz2⟩ := info_parts info28
  unfold execOp
  have hr := run_buildSlice (P := Tryd.prog) W 61 38 2 #[(0, .slice s1 n1 c1), (1, .slice s2 n2 c2)] #[.slice s1 n1 c1, .slice s2 n2 c2] i0 _ Tryd.underlying61 hi hz0 (by rw [hz1]; decide) (by rw [hz1]; decide) (by rw [hz1]; kernel_rfl)
  have e : (#[((0 : Nat), x), (1, y)].map fun (i, x) => (i, a.eval x)) = #[(0, .slice s1 n1 c1), (1, .slice s2 n2 c2)] := by simp [hx, hy]
  simp only [ho, e, Sem.run_bind, hr, Result.andThen_ok, Sem.run_pure]
end
theorem Cd.Bytes.later {W W' : World} {sp : Option Addr} {cap : Nat} {l : List Int} (h : Cd.Bytes W sp cap l) (hb : Below W.heap.size W W') : Cd.Bytes W' sp cap l := ⟨h.sl.below (Nat.le_refl _) hb, h.rng⟩
theorem nums_new (W : World) (u v : Int) : Cd.Nums (W.alloc (.cells #[.int .i64 u, .int .i64 v] 3)) (some ⟨W.heap.size, 0, none⟩) 2 [u, v] :=
  Cd.Sl.new W [.int .i64 u, .int .i64 v] _ 3 (0, 0) rfl (by simp)
theorem pieces_new {W : World} {s1 s2 : Option Addr} {n1 n2 c1 c2 : Nat} {l1 l2 : List Int} (h1 : Cd.Bytes W s1 c1 l1) (h2 : Cd.Bytes W s2 c2 l2) (e1 : l1.length = n1) (e2 : l2.length = n2) : Cd.Pieces (W.alloc (.cells #[.slice s1 n1 c1, .slice s2 n2 c2] 38)) (some ⟨W.heap.size, 0, none⟩) 2 [l1, l2] := by
  have hs := Cd.Sl.new W [.slice s1 n1 c1, .slice s2 n2 c2] #[.slice s1 n1 c1, .slice s2 n2 c2] 38 (0, 0) rfl (by simp)
  have hb : Below W.heap.size W (W.alloc (.cells #[.slice s1 n1 c1, .slice s2 n2 c2] 38)) := (Below.refl _ _).alloc (Nat.le_refl _) _
  refine ⟨_, rfl, hs, fun i v hv => ?_⟩
  rcases i with _ | _ | i
  · simp at hv
    subst hv
    exact ⟨_, _, by rw [show ([l1, l2].getD 0 []).length = n1 from e1], h1.later hb⟩
  · simp at hv
    subst hv
    exact ⟨_, _, by rw [show ([l1, l2].getD 1 []).length = n2 from e2], h2.later hb⟩
  · simp at hv
/-- what each operation yields ahead of a secret -/
def scP (g0 : Nat) (s : List Int) (p b : Nat) : Nat → World → Value → Prop
  | 0, _, v => v = .slice (some ⟨g0, 0, none⟩) 32 32
  | 1, _, v => v = .int .i64 (p : Int)
  | 2, _, v => v = .int .i64 (b : Int)
  | 3, w, v => ∃ g, v = .slice (some ⟨g, 0, none⟩) 2 2 ∧ Cd.Nums w (some ⟨g, 0, none⟩) 2 [(p : Int), (b : Int)]
  | 4, w, v => ∃ sp cap, v = .slice sp 16 cap ∧ Cd.Bytes w sp cap (Cd.nums [(p : Int), (b : Int)])
  | 5, w, v => ∃ g, v = .slice (some ⟨g, 0, none⟩) 2 2 ∧ Cd.Pieces w (some ⟨g, 0, none⟩) 2 [s, Cd.nums [(p : Int), (b : Int)]]
  | 6, w, v => ∃ sp cap, v = .slice sp 56 cap ∧ Cd.Bytes w sp cap (secB s p b)
  | 7, _, v => v = .agg (rowB (secD s p b))
  | _ + 8, _, _ => True
theorem scP_le (g0 : Nat) (s : List Int) (p b : Nat) : ∀ (j : Nat) (w w' : World) (v : Value), Below w.heap.size w w' → scP g0 s p b j w v → scP g0 s p b j w' v
  | 0, _, _, _, _, h => h
  | 1, _, _, _, _, h => h
  | 2, _, _, _, _, h => h
  | 3, _, _, _, hb, ⟨g, e, h⟩ => ⟨g, e, Cd.Sl.below h (Nat.le_refl _) hb⟩
  | 4, _, _, _, hb, ⟨sp, cap, e, h⟩ => ⟨sp, cap, e, h.later hb⟩
  | 5, _, _, _, hb, ⟨g, e, h⟩ => ⟨g, e, h.below hb⟩
  | 6, _, _, _, hb, ⟨sp, cap, e, h⟩ => ⟨sp, cap, e, h.later hb⟩
  | 7, _, _, _, _, h => h
  | _ + 8, _, _, _, _, h => h
def scX (g0 : Nat) (s : List Int) (p b : Nat) : Nat → Option Value
  | 0 => some (.slice (some ⟨g0, 0, none⟩) 32 32) | 1 => some (.int .i64 (p : Int)) | 2 => some (.int .i64 (b : Int)) | 7 => some (.agg (rowB (secD s p b))) | _ => none
theorem scP_val (g0 : Nat) (s : List Int) (p b : Nat) : ∀ (j : Nat) (w : World) (v : Value), scP g0 s p b j w v → ∀ x, scX g0 s p b j = some x → v = x
  | 0, _, _, h, x, e => by cases e; exact h
  | 1, _, _, h, x, e => by cases e; exact h
  | 2, _, _, h, x, e => by cases e; exact h
  | 3, _, _, _, _, e => by cases e
  | 4, _, _, _, _, e => by cases e
  | 5, _, _, _, _, e => by cases e
  | 6, _, _, _, _, e => by cases e
  | 7, _, _, h, x, e => by cases e; exact h
  | _ + 8, _, _, _, _, e => by cases e
set_option maxRecDepth 100000 in
set_option maxHeartbeats 4000000 in
theorem secretOf_any (w : World) (s : List Int) (p b : Nat) (hs : s.length = 32) (hr : Cd.rng s) (he : Env w) :
    Calls Tryd.prog 14 #[.agg (rowB s), .int .i64 (p : Int), .int .i64 (b : Int)] w fun e w' => e = .returned (.agg (rowB (secD s p b))) ∧ Below w.heap.size w w' := by
  have HL := Lib.hid hs
  have HR : Hid (Cd.rng s) := hr
  have HE := Lib.hid he
  clear hs hr he
  go_enter Tryd.func14, Tryd.ntmps14
  go_upto_region 1 with fail
  refine gen_world (Q := fun w => Code.wp _ _ _ _ w) _ (Hd w s) (Hd.made w s _ (by kernel_rfl)) ?_
  intro v hv
  have HV := Lib.hid hv
  clear hv
  refine wp_region_spec (C := fun W => Below v.heap.size v W) (Le := fun w w' => Below w.heap.size w w') 8 (scP w.heap.size s p b) (by kernel_rfl) (by kernel_rfl) ⟨rfl, rfl, rfl, Nat.le_refl _, fun _ _ => rfl⟩ (scP_le _ _ _ _)
    (fun j v => ∀ x, scX w.heap.size s p b j = some x → v = x) (scP_val _ _ _ _) (fun j => (scX w.heap.size s p b j).getD undef) (fun j x h => by simp [h]) ?_ ?_
  · intro u hu
    have h0 := hu 0 _ rfl
    have h1 := hu 1 _ rfl
    have h2 := hu 2 _ rfl
    have h7 := hu 7 _ rfl
    simp only [List.take_succ_cons, List.take_zero]
    refine spec_cons (fun W hC hd => ⟨by rfl, ?_⟩) ?_
    · exact gives_val _ W (exec_slD (.tmp 3) rfl w.heap.size rfl) ⟨hC, Below.refl _ _, rfl⟩
    simp only [Act.put, List.setIfInBounds_toArray, List.set_cons_succ, List.set_cons_zero, Nat.reduceAdd]
    rw [h0]
    refine spec_cons (fun W hC hd => ⟨by rfl, ?_⟩) ?_
    · exact gives_val _ W rfl ⟨hC, Below.refl _ _, rfl⟩
    simp only [Act.put, List.setIfInBounds_toArray, List.set_cons_succ, List.set_cons_zero, Nat.reduceAdd]
    rw [h1]
    refine spec_cons (fun W hC hd => ⟨by rfl, ?_⟩) ?_
    · exact gives_val _ W rfl ⟨hC, Below.refl _ _, rfl⟩
    simp only [Act.put, List.setIfInBounds_toArray, List.set_cons_succ, List.set_cons_zero, Nat.reduceAdd]
    rw [h2]
    refine spec_cons (fun W hC hd => ⟨by rfl, ?_⟩) ?_
    · exact gives_val _ _ (exec_twoI (.tmp 8) (.tmp 9) rfl _ _ rfl rfl) ⟨hC.alloc hC.size _, (Below.refl _ _).alloc (Nat.le_refl _) _, (show ∃ g, _ ∧ _ from ⟨W.heap.size, rfl, nums_new W _ _⟩)⟩
    simp only [Act.put, List.setIfInBounds_toArray, List.set_cons_succ, List.set_cons_zero, Nat.reduceAdd]
    refine spec_cons (fun W hC hd => ⟨by rfl, ?_⟩) ?_
    · obtain ⟨g, e0, hn⟩ := (show ∃ g, u 3 = .slice (some ⟨g, 0, none⟩) 2 2 ∧ Cd.Nums W (some ⟨g, 0, none⟩) 2 [(p : Int), (b : Int)] from hd ⟨3, .data⟩ (by simp) rfl)
      exact gives_call _ _ (exec_call1 27 (.tmp 10) #[60] _ rfl e0 (cf Tryd.func27 (by kernel_rfl) (by kernel_rfl) _ _)) ((Cd.numbers_any W _ 2 2 [(p : Int), (b : Int)] rfl hn (by omega)).mono fun e W' ⟨sp, cap, h1, h2, h3⟩ => ⟨_, h1, hC.trans (h3.mono hC.size), h3, (show ∃ sp cap, _ ∧ _ from ⟨sp, cap, rfl, h2⟩)⟩)
    simp only [Act.put, List.setIfInBounds_toArray, List.set_cons_succ, List.set_cons_zero, Nat.reduceAdd]
    refine spec_cons (fun W hC hd => ⟨by rfl, ?_⟩) ?_
    · obtain ⟨sp, cap, e0, hn⟩ := (show ∃ sp cap, u 4 = .slice sp 16 cap ∧ Cd.Bytes W sp cap (Cd.nums [(p : Int), (b : Int)]) from hd ⟨4, .data⟩ (by simp) rfl)
      exact gives_val _ _ (exec_twoS (.tmp 7) (.tmp 11) rfl _ _ _ _ _ _ rfl e0) ⟨hC.alloc hC.size _, (Below.refl _ _).alloc (Nat.le_refl _) _, (show ∃ g, _ ∧ _ from ⟨W.heap.size, rfl, pieces_new (cd_of_byt ((HV.out.d.below hC).byt HL.out) HR.out) hn HL.out (Cd.nums_length _)⟩)⟩
    simp only [Act.put, List.setIfInBounds_toArray, List.set_cons_succ, List.set_cons_zero, Nat.reduceAdd]
    refine spec_cons (fun W hC hd => ⟨by rfl, ?_⟩) ?_
    · obtain ⟨g, e0, hn⟩ := (show ∃ g, u 5 = .slice (some ⟨g, 0, none⟩) 2 2 ∧ Cd.Pieces W (some ⟨g, 0, none⟩) 2 [s, Cd.nums [(p : Int), (b : Int)]] from hd ⟨5, .data⟩ (by simp) rfl)
      exact gives_call _ _ (exec_call1 26 (.tmp 12) #[61] _ rfl e0 (cf Tryd.func26 (by kernel_rfl) (by kernel_rfl) _ _)) ((Cd.join_any W _ 2 2 [s, Cd.nums [(p : Int), (b : Int)]] rfl hn (by rw [show Cd.join [s, Cd.nums [(p : Int), (b : Int)]] = secB s p b from rfl, secB_length HL.out]; omega)).mono fun e W' ⟨sp, cap, h1, h2, h3⟩ => ⟨_, h1, hC.trans (h3.mono hC.size), h3, (show ∃ sp cap, _ ∧ _ from ⟨sp, cap, by rw [show Cd.join [s, Cd.nums [(p : Int), (b : Int)]] = secB s p b from rfl, secB_length HL.out], h2⟩)⟩)
    simp only [Act.put, List.setIfInBounds_toArray, List.set_cons_succ, List.set_cons_zero, Nat.reduceAdd]
    refine spec_cons (fun W hC hd => ⟨by rfl, ?_⟩) ?_
    · obtain ⟨sp, cap, e0, hn⟩ := (show ∃ sp cap, u 6 = .slice sp 56 cap ∧ Cd.Bytes W sp cap (secB s p b) from hd ⟨6, .data⟩ (by simp) rfl)
      exact gives_call _ _ (exec_call1 13 (.tmp 13) #[38] _ rfl e0 (cf Tryd.func13 (by kernel_rfl) (by kernel_rfl) _ _)) ((sum_any W sp 56 cap (secB s p b) (secB_length HL.out p b) (byt_of_cd hn).by_ (HE.out.below (HV.out.below.trans (hC.mono HV.out.below.size))) (by omega)).mono fun e W' h => ⟨_, h.1, hC.trans (h.2.mono hC.size), h.2, rfl⟩)
    simp only [Act.put, List.setIfInBounds_toArray, List.set_cons_succ, List.set_cons_zero, Nat.reduceAdd]
    rw [h7]
    exact spec_nil
  · intro u W hu hC _
    have h7 := hu 7 _ rfl
    simp only [List.take_succ_cons, List.take_zero, List.drop_succ_cons, List.drop_zero, putAll, Act.put, List.setIfInBounds_toArray, List.set_cons_succ, List.set_cons_zero, Nat.reduceAdd]
    rw [h7]
    have H2 := Lib.hid (HV.out.later hC)
    clear hu h7 hC
    have HZ := Lib.hid (row_dig (secD_length s p b))
    have HY := Lib.hid (show (rowB (zs 32)).size = (rowB (secD s p b)).size by rw [← row_dig0 (secD_length s p b)]; rfl)
    have HX := Lib.hid (rowB_one (secD s p b))
    obtain ⟨F, hF⟩ : ∃ F, secD s p b = F := ⟨_, rfl⟩
    rw [hF] at HZ HY HX ⊢
    have HF := Lib.hid hF
    clear hF
    go_wp2_with (refine wpList_store_row rfl 23 (.tmp 6) (.tmp 14) rfl (w.heap.size + 1) (rowB F) rfl rfl 23 _ H2.out.res HZ.out HY.out HX.out ?_)
    exact bodyPost_ret (v := .agg (rowB F)) (results_cell_row Tryd.results14 _ _ (w.heap.size + 1) 23 (rowB F) (0, 0) _ rfl (setRow_heap _ _ _ _ _ _ H2.out.res) Tryd.underlying23 rfl HZ.out) rfl ⟨by rw [HF.out], below_setRow H2.out.below (by omega) _⟩
end Go.Proofs.YtpaffncdfldnmaaDoor
