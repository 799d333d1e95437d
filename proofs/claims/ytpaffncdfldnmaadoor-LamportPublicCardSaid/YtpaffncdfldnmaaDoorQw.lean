import Derived.Test.YtpaffncdfldnmaaDoorAk
import Derived.Test.YtpaffncdfldnmaaDoorRq
namespace Go.Proofs.YtpaffncdfldnmaaDoor
open Go.ChangeShapes Go.WideShapes Go.ChangeAt Go.RowKit

set_option maxRecDepth 100000 in
set_option maxHeartbeats 4000000 in
theorem public_walk (w : World) (s : List Int) (hs : s.length = 32) (hr : Cd.rng s) (he : Env w) :
    Calls Tryd.prog 4 #[.agg (rowB s)] w fun e w' => e = .returned (.bool true) ∧ Below w.heap.size w w' := by
  have HE := Lib.hid he
  have HZs := Lib.hid (row_dig hs)
  have HPb := Lib.hid (fun W (h : Env W) => public_any W s hs hr h)
  have HRf := Lib.hid (fun W => refPublic_any W s hs hr)
  have HPl : Hid ((pubD s).length = 32) := Lib.hid (by unfold pubD; exact sum_length _)
  obtain ⟨P, hP⟩ : ∃ P, pubD s = P := ⟨_, rfl⟩
  rw [hP] at HPb HRf HPl
  clear hs hr he hP
  go_enter Tryd.func4, Tryd.ntmps4
  go_upto_region 1 with fail
  refine gen_world (Q := fun w => Code.wp _ _ _ _ w) _ (H1 w s) (H1.made w s) ?_
  intro v hv
  have HV := Lib.hid hv
  clear hv
  have dS : ∀ W, Below v.heap.size v W → Dg W w.heap.size s := fun W hb => HV.out.d.below hb
  have eW : ∀ W, Below v.heap.size v W → Env W := fun W hb => HE.out.below (HV.out.below.trans (hb.mono HV.out.below.size))
  refine wp_region_spec (C := (fun W => Below v.heap.size v W)) (Le := fun _ _ => True) 8 (fun ixx _ v => v = ([.agg (rowB s), .agg (rowB P), .agg (rowB s), .agg (rowB P), .bool true, .bool true, .bool true, .bool true] : List Value).getD ixx undef) (by kernel_rfl) (by kernel_rfl) ⟨rfl, rfl, rfl, Nat.le_refl _, fun _ _ => rfl⟩ (fun _ _ _ _ _ h => h) (fun ixx v => v = ([.agg (rowB s), .agg (rowB P), .agg (rowB s), .agg (rowB P), .bool true, .bool true, .bool true, .bool true] : List Value).getD ixx undef) (fun _ _ _ h => h) (fun ixx => ([.agg (rowB s), .agg (rowB P), .agg (rowB s), .agg (rowB P), .bool true, .bool true, .bool true, .bool true] : List Value).getD ixx undef) (fun _ => rfl) ?_ ?_
  · intro u hu
    have h0 : u 0 = .agg (rowB s) := hu 0
    have h1 : u 1 = .agg (rowB P) := hu 1
    have h2 : u 2 = .agg (rowB s) := hu 2
    have h3 : u 3 = .agg (rowB P) := hu 3
    have h4 : u 4 = .bool true := hu 4
    have h5 : u 5 = .bool true := hu 5
    have h6 : u 6 = .bool true := hu 6
    have h7 : u 7 = .bool true := hu 7
    simp only [List.take_succ_cons, List.take_zero]
    refine spec_cons (fun W hC hd => ⟨by rfl, ?_⟩) ?_
    · exact gives_val _ W (exec_load_row 23 (.tmp 1) rfl (w.heap.size) rfl 23 (rowB s) (0, 0) _ (dS W hC) Tryd.underlying23 rfl HZs.out) ⟨hC, trivial, rfl⟩
    simp only [Act.put, List.setIfInBounds_toArray, List.set_cons_succ, List.set_cons_zero, Nat.reduceAdd]
    rw [h0]
    refine spec_cons (fun W hC hd => ⟨by rfl, ?_⟩) ?_
    · exact gives_call _ _ (exec_call1 9 (.tmp 3) #[23] _ rfl rfl (cf Tryd.func9 (by kernel_rfl) (by kernel_rfl) _ _)) ((HPb.out W (eW W hC)).mono fun e W' h => ⟨_, h.1, hC.trans (h.2.mono hC.size), trivial, rfl⟩)
    simp only [Act.put, List.setIfInBounds_toArray, List.set_cons_succ, List.set_cons_zero, Nat.reduceAdd]
    rw [h1]
    refine spec_cons (fun W hC hd => ⟨by rfl, ?_⟩) ?_
    · exact gives_val _ W (exec_load_row 23 (.tmp 1) rfl (w.heap.size) rfl 23 (rowB s) (0, 0) _ (dS W hC) Tryd.underlying23 rfl HZs.out) ⟨hC, trivial, rfl⟩
    simp only [Act.put, List.setIfInBounds_toArray, List.set_cons_succ, List.set_cons_zero, Nat.reduceAdd]
    rw [h2]
    refine spec_cons (fun W hC hd => ⟨by rfl, ?_⟩) ?_
    · exact gives_call _ _ (exec_call1 10 (.tmp 5) #[23] _ rfl rfl (cf Tryd.func10 (by kernel_rfl) (by kernel_rfl) _ _)) ((HRf.out W).mono fun e W' h => ⟨_, h.1, hC.trans (h.2.mono hC.size), trivial, rfl⟩)
    simp only [Act.put, List.setIfInBounds_toArray, List.set_cons_succ, List.set_cons_zero, Nat.reduceAdd]
    rw [h3]
    refine spec_cons (fun W hC hd => ⟨by rfl, ?_⟩) ?_
    · exact gives_val _ W (eqD_yes (.tmp 4) (.tmp 6) rfl P rfl rfl HPl.out) ⟨hC, trivial, rfl⟩
    simp only [Act.put, List.setIfInBounds_toArray, List.set_cons_succ, List.set_cons_zero, Nat.reduceAdd]
    rw [h4]
    refine spec_cons (fun W hC hd => ⟨by rfl, ?_⟩) ?_
    · exact gives_val _ W (rfl) ⟨hC, trivial, rfl⟩
    simp only [Act.put, List.setIfInBounds_toArray, List.set_cons_succ, List.set_cons_zero, Nat.reduceAdd]
    rw [h5]
    refine spec_cons (fun W hC hd => ⟨by rfl, ?_⟩) ?_
    · exact gives_call _ _ (exec_call0 7 #[] rfl (cf Tryd.func7 (by kernel_rfl) (by kernel_rfl) _ _)) ((awake_any W (eW W hC)).mono fun e W' h => ⟨_, h.1, hC.trans (h.2.mono hC.size), trivial, rfl⟩)
    simp only [Act.put, List.setIfInBounds_toArray, List.set_cons_succ, List.set_cons_zero, Nat.reduceAdd]
    rw [h6]
    refine spec_cons (fun W hC hd => ⟨by rfl, ?_⟩) ?_
    · exact gives_val _ W (rfl) ⟨hC, trivial, rfl⟩
    simp only [Act.put, List.setIfInBounds_toArray, List.set_cons_succ, List.set_cons_zero, Nat.reduceAdd]
    rw [h7]
    exact spec_nil
  intro u W hu hC _
  have h0 : u 0 = .agg (rowB s) := hu 0
  have h1 : u 1 = .agg (rowB P) := hu 1
  have h2 : u 2 = .agg (rowB s) := hu 2
  have h3 : u 3 = .agg (rowB P) := hu 3
  have h4 : u 4 = .bool true := hu 4
  have h5 : u 5 = .bool true := hu 5
  have h6 : u 6 = .bool true := hu 6
  have h7 : u 7 = .bool true := hu 7
  simp only [List.take_succ_cons, List.take_zero, List.drop_succ_cons, List.drop_zero, putAll, Act.put, List.setIfInBounds_toArray, List.set_cons_succ, List.set_cons_zero, Nat.reduceAdd]
  rw [h0, h1, h2, h3, h4, h5, h6, h7]
  clear hu h0 h1 h2 h3 h4 h5 h6 h7
  have HW := Lib.hid (HV.out.below.trans (hC.mono HV.out.below.size))
  clear hC dS eW
  go_wp2
  go_ret
  exact ⟨rfl, HW.out⟩
end Go.Proofs.YtpaffncdfldnmaaDoor
