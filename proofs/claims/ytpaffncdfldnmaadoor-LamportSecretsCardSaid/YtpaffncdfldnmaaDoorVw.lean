import Derived.Test.YtpaffncdfldnmaaDoorAk
import Derived.Test.YtpaffncdfldnmaaDoorRp
namespace Go.Proofs.YtpaffncdfldnmaaDoor
open Go.ChangeShapes Go.WideShapes Go.ChangeAt Go.RowKit

set_option maxRecDepth 100000 in
set_option maxHeartbeats 4000000 in
theorem secrets_yes (w : World) (s : List Int) (p b : Nat) (hs : s.length = 32) (hr : Cd.rng s) (he : Env w) (hp : p < 256) (hb : b < 2) :
    Calls Tryd.prog 3 #[.agg (rowB s), .int .i64 (p : Int), .int .i64 (b : Int)] w fun e w' => e = .returned (.bool true) ∧ Below w.heap.size w w' := by
  have HE := Lib.hid he
  have HZs := Lib.hid (row_dig hs)
  have HSc := Lib.hid (fun W (h : Env W) => secret_yes W s p b hs hr h hp hb)
  have HRf := Lib.hid (fun W => refSecret_any W s p b hs hr (by omega) (by omega))
  have HXl := Lib.hid (secD_length s p b)
  obtain ⟨x, hx⟩ : ∃ x, secD s p b = x := ⟨_, rfl⟩
  rw [hx] at HSc HRf HXl
  have HZx := Lib.hid (row_dig HXl.out)
  have HYx := Lib.hid (show 32 = (rowB x).size by rw [rowB_size, HXl.out])
  have HXx := Lib.hid (rowB_one x)
  have d1 : decide ((p : Int) < 0) = false := by simp
  have d2 : decide ((255 : Int) < (p : Int)) = false := by simp; omega
  have d2' : decide (255 < p) = false := by simp; omega
  have d3 : decide ((b : Int) < 0) = false := by simp
  have d4 : decide ((1 : Int) < (b : Int)) = false := by simp; omega
  have d4' : decide (1 < b) = false := by simp; omega
  clear hs hr he hx
  go_enter Tryd.func3, Tryd.ntmps3
  go_upto_region 1 with fail
  refine gen_world (Q := fun w => Code.wp _ _ _ _ w) _ (H1 w s) (H1.made w s) ?_
  intro v hv
  have HV := Lib.hid hv
  clear hv
  go_upto_region 2 with (first
    | (refine wpList_load_row rfl 23 (.tmp 3) rfl w.heap.size rfl 23 (rowB s) (0, 0) _ HV.out.d Tryd.underlying23 rfl HZs.out ?_)
    | (go_at_call 6; refine (HSc.out v (HE.out.below HV.out.below)).mono ?_; rintro e w2 ⟨rfl, hb2⟩; have HB2 := Lib.hid hb2; clear hb2)
    | (refine wpList_store_row rfl 23 (.tmp 7) (.tmp 14) rfl w2.heap.size (rowB x) rfl rfl 23 _ (heap_alloc_new _ _) HZx.out HYx.out HXx.out ?_))
  try simp only [Act.put]
  refine gen_world (Q := fun w => Code.wp _ _ _ _ w) _ (fun W => Stood w [(w2.heap.size, x), (w.heap.size, s)] W) ((Stood.later ⟨HV.out.below, fun y hy => by rcases List.mem_singleton.1 hy with rfl; exact HV.out.d⟩ HB2.out : Stood w [(w.heap.size, s)] w2).more _ x) ?_
  intro w3 h3
  have H3 := Lib.hid h3
  clear h3
  go_upto_region 4 with fail
  have dS : ∀ W, Below w3.heap.size w3 W → Dg W w.heap.size s := fun W hb => (H3.out.later hb).all (w.heap.size, s) (by simp)
  have dX : ∀ W, Below w3.heap.size w3 W → Dg W w2.heap.size x := fun W hb => (H3.out.later hb).all (w2.heap.size, x) (by simp)
  have eW : ∀ W, Below w3.heap.size w3 W → Env W := fun W hb => HE.out.below (H3.out.later hb).below
  refine wp_region_spec (C := (fun W => Below w3.heap.size w3 W)) (Le := fun _ _ => True) 13 (fun ixx _ v => v = ([.agg (rowB x), .agg (rowB s), .int .i64 (p : Int), .int .i64 (b : Int), .agg (rowB x), .bool true, .bool true, .int .i64 0, .bool true, .bool true, .bool true, .bool true, .bool true] : List Value).getD ixx undef) (by kernel_rfl) (by kernel_rfl) ⟨rfl, rfl, rfl, Nat.le_refl _, fun _ _ => rfl⟩ (fun _ _ _ _ _ h => h) (fun ixx v => v = ([.agg (rowB x), .agg (rowB s), .int .i64 (p : Int), .int .i64 (b : Int), .agg (rowB x), .bool true, .bool true, .int .i64 0, .bool true, .bool true, .bool true, .bool true, .bool true] : List Value).getD ixx undef) (fun _ _ _ h => h) (fun ixx => ([.agg (rowB x), .agg (rowB s), .int .i64 (p : Int), .int .i64 (b : Int), .agg (rowB x), .bool true, .bool true, .int .i64 0, .bool true, .bool true, .bool true, .bool true, .bool true] : List Value).getD ixx undef) (fun _ => rfl) ?_ ?_
  · intro u hu
    have h0 : u 0 = .agg (rowB x) := hu 0
    have h1 : u 1 = .agg (rowB s) := hu 1
    have h2 : u 2 = .int .i64 (p : Int) := hu 2
    have h3 : u 3 = .int .i64 (b : Int) := hu 3
    have h4 : u 4 = .agg (rowB x) := hu 4
    have h5 : u 5 = .bool true := hu 5
    have h6 : u 6 = .bool true := hu 6
    have h7 : u 7 = .int .i64 0 := hu 7
    have h8 : u 8 = .bool true := hu 8
    have h9 : u 9 = .bool true := hu 9
    have h10 : u 10 = .bool true := hu 10
    have h11 : u 11 = .bool true := hu 11
    have h12 : u 12 = .bool true := hu 12
    simp only [List.take_succ_cons, List.take_zero]
    refine spec_cons (fun W hC hd => ⟨by rfl, ?_⟩) ?_
    · exact gives_val _ W (exec_load_row 23 (.tmp 7) rfl (w2.heap.size) rfl 23 (rowB x) (0, 0) _ (dX W hC) Tryd.underlying23 rfl HZx.out) ⟨hC, trivial, rfl⟩
    simp only [Act.put, List.setIfInBounds_toArray, List.set_cons_succ, List.set_cons_zero, Nat.reduceAdd]
    rw [h0]
    refine spec_cons (fun W hC hd => ⟨by rfl, ?_⟩) ?_
    · exact gives_val _ W (exec_load_row 23 (.tmp 3) rfl (w.heap.size) rfl 23 (rowB s) (0, 0) _ (dS W hC) Tryd.underlying23 rfl HZs.out) ⟨hC, trivial, rfl⟩
    simp only [Act.put, List.setIfInBounds_toArray, List.set_cons_succ, List.set_cons_zero, Nat.reduceAdd]
    rw [h1]
    refine spec_cons (fun W hC hd => ⟨by rfl, ?_⟩) ?_
    · exact gives_val _ W (rfl) ⟨hC, trivial, rfl⟩
    simp only [Act.put, List.setIfInBounds_toArray, List.set_cons_succ, List.set_cons_zero, Nat.reduceAdd]
    rw [h2]
    refine spec_cons (fun W hC hd => ⟨by rfl, ?_⟩) ?_
    · exact gives_val _ W (rfl) ⟨hC, trivial, rfl⟩
    simp only [Act.put, List.setIfInBounds_toArray, List.set_cons_succ, List.set_cons_zero, Nat.reduceAdd]
    rw [h3]
    refine spec_cons (fun W hC hd => ⟨by rfl, ?_⟩) ?_
    · exact gives_call _ _ (exec_call3 8 (.tmp 41) (.tmp 42) (.tmp 43) #[23, 3, 3] _ _ _ rfl rfl rfl rfl (cf Tryd.func8 (by kernel_rfl) (by kernel_rfl) _ _)) ((HRf.out W).mono fun e W' h => ⟨_, h.1, hC.trans (h.2.mono hC.size), trivial, rfl⟩)
    simp only [Act.put, List.setIfInBounds_toArray, List.set_cons_succ, List.set_cons_zero, Nat.reduceAdd]
    rw [h4]
    refine spec_cons (fun W hC hd => ⟨by rfl, ?_⟩) ?_
    · exact gives_val _ W (eqD_yes (.tmp 40) (.tmp 44) rfl x rfl rfl HXl.out) ⟨hC, trivial, rfl⟩
    simp only [Act.put, List.setIfInBounds_toArray, List.set_cons_succ, List.set_cons_zero, Nat.reduceAdd]
    rw [h5]
    refine spec_cons (fun W hC hd => ⟨by rfl, ?_⟩) ?_
    · exact gives_val _ W (rfl) ⟨hC, trivial, rfl⟩
    simp only [Act.put, List.setIfInBounds_toArray, List.set_cons_succ, List.set_cons_zero, Nat.reduceAdd]
    rw [h6]
    refine spec_cons (fun W hC hd => ⟨by rfl, ?_⟩) ?_
    · exact gives_val _ W (rfl) ⟨hC, trivial, rfl⟩
    simp only [Act.put, List.setIfInBounds_toArray, List.set_cons_succ, List.set_cons_zero, Nat.reduceAdd]
    rw [h7]
    refine spec_cons (fun W hC hd => ⟨by rfl, ?_⟩) ?_
    · exact gives_val _ W (exec_binOp .eql 24 24 (.tmp 47) (.const (.int .i64 0)) rfl (.int .i64 0) (.int .i64 0) (.bool true) rfl rfl rfl (by simp [go_sem])) ⟨hC, trivial, rfl⟩
    simp only [Act.put, List.setIfInBounds_toArray, List.set_cons_succ, List.set_cons_zero, Nat.reduceAdd]
    rw [h8]
    refine spec_cons (fun W hC hd => ⟨by rfl, ?_⟩) ?_
    · exact gives_val _ W (rfl) ⟨hC, trivial, rfl⟩
    simp only [Act.put, List.setIfInBounds_toArray, List.set_cons_succ, List.set_cons_zero, Nat.reduceAdd]
    rw [h9]
    refine spec_cons (fun W hC hd => ⟨by rfl, ?_⟩) ?_
    · exact gives_val _ W (rfl) ⟨hC, trivial, rfl⟩
    simp only [Act.put, List.setIfInBounds_toArray, List.set_cons_succ, List.set_cons_zero, Nat.reduceAdd]
    rw [h10]
    refine spec_cons (fun W hC hd => ⟨by rfl, ?_⟩) ?_
    · exact gives_call _ _ (exec_call0 7 #[] rfl (cf Tryd.func7 (by kernel_rfl) (by kernel_rfl) _ _)) ((awake_any W (eW W hC)).mono fun e W' h => ⟨_, h.1, hC.trans (h.2.mono hC.size), trivial, rfl⟩)
    simp only [Act.put, List.setIfInBounds_toArray, List.set_cons_succ, List.set_cons_zero, Nat.reduceAdd]
    rw [h11]
    refine spec_cons (fun W hC hd => ⟨by rfl, ?_⟩) ?_
    · exact gives_val _ W (rfl) ⟨hC, trivial, rfl⟩
    simp only [Act.put, List.setIfInBounds_toArray, List.set_cons_succ, List.set_cons_zero, Nat.reduceAdd]
    rw [h12]
    exact spec_nil
  intro u W hu hC _
  have h0 : u 0 = .agg (rowB x) := hu 0
  have h1 : u 1 = .agg (rowB s) := hu 1
  have h2 : u 2 = .int .i64 (p : Int) := hu 2
  have h3 : u 3 = .int .i64 (b : Int) := hu 3
  have h4 : u 4 = .agg (rowB x) := hu 4
  have h5 : u 5 = .bool true := hu 5
  have h6 : u 6 = .bool true := hu 6
  have h7 : u 7 = .int .i64 0 := hu 7
  have h8 : u 8 = .bool true := hu 8
  have h9 : u 9 = .bool true := hu 9
  have h10 : u 10 = .bool true := hu 10
  have h11 : u 11 = .bool true := hu 11
  have h12 : u 12 = .bool true := hu 12
  simp only [List.take_succ_cons, List.take_zero, List.drop_succ_cons, List.drop_zero, putAll, Act.put, List.setIfInBounds_toArray, List.set_cons_succ, List.set_cons_zero, Nat.reduceAdd]
  rw [h0, h1, h2, h3, h4, h5, h6, h7, h8, h9, h10, h11, h12]
  clear hu h0 h1 h2 h3 h4 h5 h6 h7 h8 h9 h10 h11 h12
  have HW := Lib.hid ((H3.out.later hC).below)
  clear hC dS dX eW
  go_wp2
  go_ret
  exact ⟨rfl, HW.out⟩
set_option maxRecDepth 100000 in
set_option maxHeartbeats 4000000 in
theorem secrets_no (w : World) (s : List Int) (x y : Int) (hs : s.length = 32) (he : Env w) (h : Bad x y) :
    Calls Tryd.prog 3 #[.agg (rowB s), .int .i64 x, .int .i64 y] w fun e w' => e = .returned (.bool true) ∧ Below w.heap.size w w' := by
  have HE := Lib.hid he
  have HZs := Lib.hid (row_dig hs)
  have HZx := Lib.hid (row_dig (d := zs 32) rfl)
  have HYx := Lib.hid (row_dig0 (d := zs 32) rfl)
  have HXx := Lib.hid (rowB_one (zs 32))
  clear hs he
  by_cases c1 : x < 0
  · have d1 : decide (x < 0) = true := by simpa using c1
    go_enter Tryd.func3, Tryd.ntmps3
    go_upto_region 1 with fail
    refine gen_world (Q := fun w => Code.wp _ _ _ _ w) _ (H1 w s) (H1.made w s) ?_
    intro v hv
    have HV := Lib.hid hv
    clear hv
    go_upto_region 2 with (first
      | (refine wpList_load_row rfl 23 (.tmp 3) rfl w.heap.size rfl 23 (rowB s) (0, 0) _ HV.out.d Tryd.underlying23 rfl HZs.out ?_)
      | (go_at_call 6; refine (secret_no v s x y h).mono ?_; rintro e w2 ⟨rfl, hb2⟩; have HB2 := Lib.hid hb2; clear hb2)
      | (refine wpList_store_row rfl 23 (.tmp 7) (.tmp 14) rfl w2.heap.size (rowB (zs 32)) rfl rfl 23 _ (heap_alloc_new _ _) HZx.out HYx.out HXx.out ?_))
    try simp only [Act.put]
    refine gen_world (Q := fun w => Code.wp _ _ _ _ w) _ (fun W => Stood w [(w2.heap.size, zs 32), (w.heap.size, s)] W) ((Stood.later ⟨HV.out.below, fun y hy => by rcases List.mem_singleton.1 hy with rfl; exact HV.out.d⟩ HB2.out : Stood w [(w.heap.size, s)] w2).more _ (zs 32)) ?_
    intro w3 h3
    have H3 := Lib.hid h3
    clear h3
    go_wp2_with (first
      | (refine wpList_load_row rfl 23 (.tmp 7) rfl w2.heap.size rfl 23 (rowB (zs 32)) (0, 0) _ (H3.out.all (w2.heap.size, zs 32) (by simp)) Tryd.underlying23 rfl HZx.out ?_)
      | (refine wpList_val rfl (.agg (rowB (zs 32))) (exec_built 23 #[] rfl (rowB (zs 32)) (by kernel_rfl)) ?_)
      | (refine wpList_val rfl (.bool true) (eqD_yes (.tmp 30) (.tmp 31) rfl (zs 32) rfl rfl rfl) ?_)
      | (go_at_call 7; refine (awake_any w3 (HE.out.below H3.out.below)).mono ?_; rintro e w4 ⟨rfl, hb4⟩; have HB4 := Lib.hid (H3.out.below.trans (hb4.mono H3.out.below.size)); clear hb4))
    go_ret
    exact ⟨rfl, HB4.out⟩
  · have d1 : decide (x < 0) = false := by simpa using c1
    by_cases c2 : 255 < x
    · have d2 : decide (255 < x) = true := by simpa using c2
      go_enter Tryd.func3, Tryd.ntmps3
      go_upto_region 1 with fail
      refine gen_world (Q := fun w => Code.wp _ _ _ _ w) _ (H1 w s) (H1.made w s) ?_
      intro v hv
      have HV := Lib.hid hv
      clear hv
      go_upto_region 2 with (first
        | (refine wpList_load_row rfl 23 (.tmp 3) rfl w.heap.size rfl 23 (rowB s) (0, 0) _ HV.out.d Tryd.underlying23 rfl HZs.out ?_)
        | (go_at_call 6; refine (secret_no v s x y h).mono ?_; rintro e w2 ⟨rfl, hb2⟩; have HB2 := Lib.hid hb2; clear hb2)
        | (refine wpList_store_row rfl 23 (.tmp 7) (.tmp 14) rfl w2.heap.size (rowB (zs 32)) rfl rfl 23 _ (heap_alloc_new _ _) HZx.out HYx.out HXx.out ?_))
      try simp only [Act.put]
      refine gen_world (Q := fun w => Code.wp _ _ _ _ w) _ (fun W => Stood w [(w2.heap.size, zs 32), (w.heap.size, s)] W) ((Stood.later ⟨HV.out.below, fun y hy => by rcases List.mem_singleton.1 hy with rfl; exact HV.out.d⟩ HB2.out : Stood w [(w.heap.size, s)] w2).more _ (zs 32)) ?_
      intro w3 h3
      have H3 := Lib.hid h3
      clear h3
      go_wp2_with (first
        | (refine wpList_load_row rfl 23 (.tmp 7) rfl w2.heap.size rfl 23 (rowB (zs 32)) (0, 0) _ (H3.out.all (w2.heap.size, zs 32) (by simp)) Tryd.underlying23 rfl HZx.out ?_)
        | (refine wpList_val rfl (.agg (rowB (zs 32))) (exec_built 23 #[] rfl (rowB (zs 32)) (by kernel_rfl)) ?_)
        | (refine wpList_val rfl (.bool true) (eqD_yes (.tmp 30) (.tmp 31) rfl (zs 32) rfl rfl rfl) ?_)
        | (go_at_call 7; refine (awake_any w3 (HE.out.below H3.out.below)).mono ?_; rintro e w4 ⟨rfl, hb4⟩; have HB4 := Lib.hid (H3.out.below.trans (hb4.mono H3.out.below.size)); clear hb4))
      go_ret
      exact ⟨rfl, HB4.out⟩
    · have d2 : decide (255 < x) = false := by simpa using c2
      by_cases c3 : y < 0
      · have d3 : decide (y < 0) = true := by simpa using c3
        go_enter Tryd.func3, Tryd.ntmps3
        go_upto_region 1 with fail
        refine gen_world (Q := fun w => Code.wp _ _ _ _ w) _ (H1 w s) (H1.made w s) ?_
        intro v hv
        have HV := Lib.hid hv
        clear hv
        go_upto_region 2 with (first
          | (refine wpList_load_row rfl 23 (.tmp 3) rfl w.heap.size rfl 23 (rowB s) (0, 0) _ HV.out.d Tryd.underlying23 rfl HZs.out ?_)
          | (go_at_call 6; refine (secret_no v s x y h).mono ?_; rintro e w2 ⟨rfl, hb2⟩; have HB2 := Lib.hid hb2; clear hb2)
          | (refine wpList_store_row rfl 23 (.tmp 7) (.tmp 14) rfl w2.heap.size (rowB (zs 32)) rfl rfl 23 _ (heap_alloc_new _ _) HZx.out HYx.out HXx.out ?_))
        try simp only [Act.put]
        refine gen_world (Q := fun w => Code.wp _ _ _ _ w) _ (fun W => Stood w [(w2.heap.size, zs 32), (w.heap.size, s)] W) ((Stood.later ⟨HV.out.below, fun y hy => by rcases List.mem_singleton.1 hy with rfl; exact HV.out.d⟩ HB2.out : Stood w [(w.heap.size, s)] w2).more _ (zs 32)) ?_
        intro w3 h3
        have H3 := Lib.hid h3
        clear h3
        go_wp2_with (first
          | (refine wpList_load_row rfl 23 (.tmp 7) rfl w2.heap.size rfl 23 (rowB (zs 32)) (0, 0) _ (H3.out.all (w2.heap.size, zs 32) (by simp)) Tryd.underlying23 rfl HZx.out ?_)
          | (refine wpList_val rfl (.agg (rowB (zs 32))) (exec_built 23 #[] rfl (rowB (zs 32)) (by kernel_rfl)) ?_)
          | (refine wpList_val rfl (.bool true) (eqD_yes (.tmp 30) (.tmp 31) rfl (zs 32) rfl rfl rfl) ?_)
          | (go_at_call 7; refine (awake_any w3 (HE.out.below H3.out.below)).mono ?_; rintro e w4 ⟨rfl, hb4⟩; have HB4 := Lib.hid (H3.out.below.trans (hb4.mono H3.out.below.size)); clear hb4))
        go_ret
        exact ⟨rfl, HB4.out⟩
      · have d3 : decide (y < 0) = false := by simpa using c3
        have c4 : 1 < y := by unfold Bad at h; omega
        have d4 : decide (1 < y) = true := by simpa using c4
        go_enter Tryd.func3, Tryd.ntmps3
        go_upto_region 1 with fail
        refine gen_world (Q := fun w => Code.wp _ _ _ _ w) _ (H1 w s) (H1.made w s) ?_
        intro v hv
        have HV := Lib.hid hv
        clear hv
        go_upto_region 2 with (first
          | (refine wpList_load_row rfl 23 (.tmp 3) rfl w.heap.size rfl 23 (rowB s) (0, 0) _ HV.out.d Tryd.underlying23 rfl HZs.out ?_)
          | (go_at_call 6; refine (secret_no v s x y h).mono ?_; rintro e w2 ⟨rfl, hb2⟩; have HB2 := Lib.hid hb2; clear hb2)
          | (refine wpList_store_row rfl 23 (.tmp 7) (.tmp 14) rfl w2.heap.size (rowB (zs 32)) rfl rfl 23 _ (heap_alloc_new _ _) HZx.out HYx.out HXx.out ?_))
        try simp only [Act.put]
        refine gen_world (Q := fun w => Code.wp _ _ _ _ w) _ (fun W => Stood w [(w2.heap.size, zs 32), (w.heap.size, s)] W) ((Stood.later ⟨HV.out.below, fun y hy => by rcases List.mem_singleton.1 hy with rfl; exact HV.out.d⟩ HB2.out : Stood w [(w.heap.size, s)] w2).more _ (zs 32)) ?_
        intro w3 h3
        have H3 := Lib.hid h3
        clear h3
        go_wp2_with (first
          | (refine wpList_load_row rfl 23 (.tmp 7) rfl w2.heap.size rfl 23 (rowB (zs 32)) (0, 0) _ (H3.out.all (w2.heap.size, zs 32) (by simp)) Tryd.underlying23 rfl HZx.out ?_)
          | (refine wpList_val rfl (.agg (rowB (zs 32))) (exec_built 23 #[] rfl (rowB (zs 32)) (by kernel_rfl)) ?_)
          | (refine wpList_val rfl (.bool true) (eqD_yes (.tmp 30) (.tmp 31) rfl (zs 32) rfl rfl rfl) ?_)
          | (go_at_call 7; refine (awake_any w3 (HE.out.below H3.out.below)).mono ?_; rintro e w4 ⟨rfl, hb4⟩; have HB4 := Lib.hid (H3.out.below.trans (hb4.mono H3.out.below.size)); clear hb4))
        go_ret
        exact ⟨rfl, HB4.out⟩
theorem secrets_walk (w : World) (s : List Int) (x y : Int) (hs : s.length = 32) (hr : Cd.rng s) (he : Env w) :
    Calls Tryd.prog 3 #[.agg (rowB s), .int .i64 x, .int .i64 y] w fun e w' => e = .returned (.bool true) ∧ Below w.heap.size w w' := by
  by_cases h : Bad x y
  · exact secrets_no w s x y hs he h
  · unfold Bad at h
    obtain ⟨p, rfl⟩ := Int.eq_ofNat_of_zero_le (show 0 ≤ x by omega)
    obtain ⟨b, rfl⟩ := Int.eq_ofNat_of_zero_le (show 0 ≤ y by omega)
    exact secrets_yes w s p b hs hr he (by omega) (by omega)
end Go.Proofs.YtpaffncdfldnmaaDoor
