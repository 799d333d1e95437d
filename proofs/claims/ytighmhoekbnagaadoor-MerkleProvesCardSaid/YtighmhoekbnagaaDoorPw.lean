import Derived.Test.YtighmhoekbnagaaDoorPv
import Derived.Test.YtighmhoekbnagaaDoorSl
namespace Go.Proofs.YtighmhoekbnagaaDoor
open Go.ChangeShapes Go.WideShapes Go.ChangeAt Go.RowKit

set_option maxRecDepth 100000 in
set_option maxHeartbeats 4000000 in
theorem proves_few (w : World) (i N I : Int) (sp s1 s2 : Option Addr) (n cap n1 n2 c1 c2 : Nat) (ls : List (List Int)) (hn : ls.length = n) (hP : Pcs w sp cap ls) (he : Env w) (hf : few ls = false) :
    Calls Tryd.prog 4 #[.slice sp n cap, .int .i64 i, .agg #[.int .i64 N, .int .i64 I, .slice s1 n1 c1, .slice s2 n2 c2]] w fun e w' => e = .returned (.bool true) ∧ Below w.heap.size w w' := by
  have HE := Lib.hid he
  have HF := Lib.hid (fun W (hb : Below w.heap.size w W) => few_any W sp n cap ls hn (hP.below hb))
  rw [hf] at HF
  clear hn hP he hf
  go_enter Tryd.func4, Tryd.ntmps4
  go_upto_region 1 with fail
  refine gen_world (Q := fun w => Code.wp _ _ _ _ w) _ (WayAt w (wayV N I s1 s2 n1 n2 c1 c2)) ⟨(Below.refl _ _).alloc (Nat.le_refl _) _, heap_alloc_new _ _⟩ ?_
  intro w1 h1
  have H1 := Lib.hid h1
  clear h1
  go_wp2_with (first
    | (go_at_call 9; refine (HF.out _ H1.out.below).mono ?_; rintro e w' ⟨rfl, q, rfl⟩; have H2 := Lib.hid (H1.out.later (below_drewN (Below.refl _ _) q)); have hc2 := H2.out.f2; have hc3 := H2.out.f3)
    | (go_at_call 10; refine (awake_any _ (HE.out.below H2.out.below)).mono ?_; rintro e w' ⟨rfl, hb⟩; have H3 := Lib.hid (H2.out.later hb)))
  go_ret
  exact ⟨rfl, H3.out.below⟩
set_option maxRecDepth 100000 in
set_option maxHeartbeats 4000000 in
theorem proves_leaf (w : World) (i N I : Int) (sp s1 s2 : Option Addr) (n cap n1 n2 c1 c2 : Nat) (ls : List (List Int)) (hn : ls.length = n) (hP : Pcs w sp cap ls) (he : Env w) (hf : few ls = true) (h100 : 100 < n1) :
    Calls Tryd.prog 4 #[.slice sp n cap, .int .i64 i, .agg #[.int .i64 N, .int .i64 I, .slice s1 n1 c1, .slice s2 n2 c2]] w fun e w' => e = .returned (.bool true) ∧ Below w.heap.size w w' := by
  have HE := Lib.hid he
  have HF := Lib.hid (fun W (hb : Below w.heap.size w W) => few_any W sp n cap ls hn (hP.below hb))
  rw [hf] at HF
  clear hn hP he hf
  have hd1 : decide ((100 : Int) < (n1 : Int)) = true := decide_eq_true (by omega)
  go_enter Tryd.func4, Tryd.ntmps4
  go_upto_region 1 with fail
  refine gen_world (Q := fun w => Code.wp _ _ _ _ w) _ (WayAt w (wayV N I s1 s2 n1 n2 c1 c2)) ⟨(Below.refl _ _).alloc (Nat.le_refl _) _, heap_alloc_new _ _⟩ ?_
  intro w1 h1
  have H1 := Lib.hid h1
  clear h1
  go_wp2_with (first
    | (go_at_call 9; refine (HF.out _ H1.out.below).mono ?_; rintro e w' ⟨rfl, q, rfl⟩; have H2 := Lib.hid (H1.out.later (below_drewN (Below.refl _ _) q)); have hc2 := H2.out.f2; have hc3 := H2.out.f3)
    | (go_at_call 10; refine (awake_any _ (HE.out.below H2.out.below)).mono ?_; rintro e w' ⟨rfl, hb⟩; have H3 := Lib.hid (H2.out.later hb)))
  go_ret
  exact ⟨rfl, H3.out.below⟩
set_option maxRecDepth 100000 in
set_option maxHeartbeats 4000000 in
theorem proves_proof (w : World) (i N I : Int) (sp s1 s2 : Option Addr) (n cap n1 n2 c1 c2 : Nat) (ls : List (List Int)) (hn : ls.length = n) (hP : Pcs w sp cap ls) (he : Env w) (hf : few ls = true) (h100 : n1 ≤ 100) (h70 : 70 < n2) :
    Calls Tryd.prog 4 #[.slice sp n cap, .int .i64 i, .agg #[.int .i64 N, .int .i64 I, .slice s1 n1 c1, .slice s2 n2 c2]] w fun e w' => e = .returned (.bool true) ∧ Below w.heap.size w w' := by
  have HE := Lib.hid he
  have HF := Lib.hid (fun W (hb : Below w.heap.size w W) => few_any W sp n cap ls hn (hP.below hb))
  rw [hf] at HF
  clear hn hP he hf
  have hd1 : decide ((100 : Int) < (n1 : Int)) = false := decide_eq_false (by omega)
  have hd2 : decide ((70 : Int) < (n2 : Int)) = true := decide_eq_true (by omega)
  go_enter Tryd.func4, Tryd.ntmps4
  go_upto_region 1 with fail
  refine gen_world (Q := fun w => Code.wp _ _ _ _ w) _ (WayAt w (wayV N I s1 s2 n1 n2 c1 c2)) ⟨(Below.refl _ _).alloc (Nat.le_refl _) _, heap_alloc_new _ _⟩ ?_
  intro w1 h1
  have H1 := Lib.hid h1
  clear h1
  go_wp2_with (first
    | (go_at_call 9; refine (HF.out _ H1.out.below).mono ?_; rintro e w' ⟨rfl, q, rfl⟩; have H2 := Lib.hid (H1.out.later (below_drewN (Below.refl _ _) q)); have hc2 := H2.out.f2; have hc3 := H2.out.f3)
    | (go_at_call 10; refine (awake_any _ (HE.out.below H2.out.below)).mono ?_; rintro e w' ⟨rfl, hb⟩; have H3 := Lib.hid (H2.out.later hb)))
  go_ret
  exact ⟨rfl, H3.out.below⟩
set_option maxRecDepth 100000 in
set_option maxHeartbeats 4000000 in
theorem proves_neg_no (w : World) (i N I : Int) (sp s1 s2 : Option Addr) (n cap n1 n2 c1 c2 : Nat) (ls : List (List Int)) (hn : ls.length = n) (hP : Pcs w sp cap ls) (he : Env w) (hf : few ls = true) (h100 : n1 ≤ 100) (h70 : n2 ≤ 70) (l : List Int) (q : List (List Int)) (hl1 : l.length = n1) (_ : Byt w s1 c1 l) (_ : rng l) (hq : q.length = n2) (_ : Digs w s2 c2 q) (_ : ∀ d ∈ q, rng d) (hr : ∀ l ∈ ls, rng l) (hi : i < 0) (hI : ¬ (0 ≤ I ∧ I < N)) :
    Calls Tryd.prog 4 #[.slice sp n cap, .int .i64 i, .agg #[.int .i64 N, .int .i64 I, .slice s1 n1 c1, .slice s2 n2 c2]] w fun e w' => e = .returned (.bool true) ∧ Below w.heap.size w w' := by
  have HE := Lib.hid he
  have HF := Lib.hid (fun W (hb : Below w.heap.size w W) => few_any W sp n cap ls hn (hP.below hb))
  rw [hf] at HF
  have hd1 : decide ((100 : Int) < (n1 : Int)) = false := decide_eq_false (by omega)
  have hd2 : decide ((70 : Int) < (n2 : Int)) = false := decide_eq_false (by omega)
  have hn20 : n ≤ 20 := by rw [← hn]; exact (few_yes hf).2
  have HM : Hid (Mild ls) := few_mild hf
  have HS : Hid (Smal ls) := few_smal hf hr
  have hd3 : decide (i < 0) = true := decide_eq_true (by omega)
  have HPv := Lib.hid (fun W => prove_no i W sp n cap (by omega))
  have HFd := Lib.hid (fun W (_ : Below w.heap.size w W) => fold_no I N W s1 s2 n1 n2 c1 c2 hI)
  have HZ := Lib.hid (row_dig (d := (zs 32)) rfl)
  have HY := Lib.hid (row_dig0 (d := (zs 32)) rfl)
  have HX := Lib.hid (rowB_one (zs 32))
  have eR : ∀ W : World, (binOp .eql 24 (.agg (rowB (zs 32))) (.agg (rowB (zs 32)))).run Tryd.prog W = .ok (.bool true) W := fun W => by
    rw [run_eql_row (P := Tryd.prog) 24 5 32 .u8 Tryd.underlying24 Tryd.underlying5 size5 (zs 32) (zs 32) rfl rfl W]
    simp
  clear hn hP he hf hr hi hq
  go_enter Tryd.func4, Tryd.ntmps4
  go_upto_region 1 with fail
  refine gen_world (Q := fun w => Code.wp _ _ _ _ w) _ (WayAt w (wayV N I s1 s2 n1 n2 c1 c2)) ⟨(Below.refl _ _).alloc (Nat.le_refl _) _, heap_alloc_new _ _⟩ ?_
  intro w1 h1
  have H1 := Lib.hid h1
  clear h1
  go_upto_region 9 with (first
    | (go_at_call 9; refine (HF.out _ H1.out.below).mono ?_; rintro e w' ⟨rfl, q1, rfl⟩; have H2 := Lib.hid (H1.out.later (below_drewN (Below.refl _ _) q1)); have hc2 := H2.out.f2; have hc3 := H2.out.f3)
    | (go_at_call 17; refine (HPv.out _).mono ?_; rintro e w3 ⟨rfl, hb⟩; have H2 := Lib.hid (H2.out.later hb); clear hb))
  refine gen_world (Q := fun w => Code.wp _ _ _ _ w) _ (WayAt w (wayV N I s1 s2 n1 n2 c1 c2)) H2.out ?_
  intro w5 h5
  have H5 := Lib.hid h5
  have hc0 := h5.f0
  have hc1 := h5.f1
  have hc2 := h5.f2
  have hc3 := h5.f3
  clear h5 H2
  go_upto_region 10 with (first
    | (go_at_call 20; refine (HFd.out _ H5.out.below).mono ?_; rintro e w6 ⟨rfl, hb⟩; have H6 := Lib.hid (H5.out.later hb); clear hb)
    | (refine wpList_store_row rfl 24 (.tmp 9) (.tmp 68) rfl w6.heap.size (rowB (zs 32)) rfl rfl 24 _ (heap_alloc_new _ _) HZ.out HY.out HX.out ?_))
  refine gen_world (Q := fun w => Code.wp _ _ _ _ w) _ (FdS w (wayV N I s1 s2 n1 n2 c1 c2) w6.heap.size (zs 32)) (FdS.made H6.out _ _) ?_
  intro w7 h7
  obtain ⟨g, hg⟩ : ∃ g, w6.heap.size = g := ⟨_, rfl⟩
  rw [hg] at h7 ⊢
  have H7 := Lib.hid h7
  have hc0 := h7.way.f0
  have hc1 := h7.way.f1
  clear hg h7 H6
  by_cases hI0 : I < 0
  · have hd5 : decide (I < 0) = true := decide_eq_true (by omega)
    go_wp2_with (first
      | (refine wpList_load_row rfl 24 (.tmp 9) rfl g rfl 24 (rowB (zs 32)) (0, 0) _ H7.out.dig Tryd.underlying24 rfl HZ.out ?_)
      | (refine wpList_val rfl (.agg (rowB (zs 32))) (exec_built 24 #[] rfl (rowB (zs 32)) (by kernel_rfl)) ?_)
      | (go_at_call 10; refine (awake_any _ (HE.out.below H7.out.way.below)).mono ?_; rintro e w8 ⟨rfl, hb⟩; have H8 := Lib.hid (H7.out.later hb)))
    go_ret
    exact ⟨rfl, H8.out.way.below⟩
  · have hd5 : decide (I < 0) = false := decide_eq_false (by omega)
    have hd6 : decide (N ≤ I) = true := decide_eq_true (by omega)
    go_wp2_with (first
      | (refine wpList_load_row rfl 24 (.tmp 9) rfl g rfl 24 (rowB (zs 32)) (0, 0) _ H7.out.dig Tryd.underlying24 rfl HZ.out ?_)
      | (refine wpList_val rfl (.agg (rowB (zs 32))) (exec_built 24 #[] rfl (rowB (zs 32)) (by kernel_rfl)) ?_)
      | (go_at_call 10; refine (awake_any _ (HE.out.below H7.out.way.below)).mono ?_; rintro e w8 ⟨rfl, hb⟩; have H8 := Lib.hid (H7.out.later hb)))
    go_ret
    exact ⟨rfl, H8.out.way.below⟩
set_option maxRecDepth 100000 in
set_option maxHeartbeats 4000000 in
theorem proves_neg_len (w : World) (i : Int) (N I : Nat) (sp s1 s2 : Option Addr) (n cap n1 n2 c1 c2 : Nat) (ls : List (List Int)) (hn : ls.length = n) (hP : Pcs w sp cap ls) (he : Env w) (hf : few ls = true) (h100 : n1 ≤ 100) (h70 : n2 ≤ 70) (l : List Int) (q : List (List Int)) (hl1 : l.length = n1) (_ : Byt w s1 c1 l) (_ : rng l) (hq : q.length = n2) (_ : Digs w s2 c2 q) (_ : ∀ d ∈ q, rng d) (hr : ∀ l ∈ ls, rng l) (hi : i < 0) (hI : I < N) (hN : N ≤ 9223372036854775807) (hlen : n2 ≠ dp 63 N I) :
    Calls Tryd.prog 4 #[.slice sp n cap, .int .i64 i, .agg #[.int .i64 N, .int .i64 I, .slice s1 n1 c1, .slice s2 n2 c2]] w fun e w' => e = .returned (.bool true) ∧ Below w.heap.size w w' := by
  have HE := Lib.hid he
  have HF := Lib.hid (fun W (hb : Below w.heap.size w W) => few_any W sp n cap ls hn (hP.below hb))
  rw [hf] at HF
  have hd1 : decide ((100 : Int) < (n1 : Int)) = false := decide_eq_false (by omega)
  have hd2 : decide ((70 : Int) < (n2 : Int)) = false := decide_eq_false (by omega)
  have hn20 : n ≤ 20 := by rw [← hn]; exact (few_yes hf).2
  have HM : Hid (Mild ls) := few_mild hf
  have HS : Hid (Smal ls) := few_smal hf hr
  have hd3 : decide (i < 0) = true := decide_eq_true (by omega)
  have HPv := Lib.hid (fun W => prove_no i W sp n cap (by omega))
  have HDp := Lib.hid (fun W => deep_any N I W hI hN)
  have HFd := Lib.hid (fun W (_ : Below w.heap.size w W) => fold_len I N W s1 s2 n1 n2 c1 c2 hI hN (by rw [← dp_wy 63 N I hI (by omega)]; exact hlen))
  obtain ⟨dd, hdd⟩ : ∃ d, dp 63 N I = d := ⟨_, rfl⟩
  rw [hdd] at HDp hlen
  clear hdd
  have hd6 : ((n2 : Int) != (dd : Int)) = true := by simp; omega
  have HZ := Lib.hid (row_dig (d := (zs 32)) rfl)
  have HY := Lib.hid (row_dig0 (d := (zs 32)) rfl)
  have HX := Lib.hid (rowB_one (zs 32))
  have eR : ∀ W : World, (binOp .eql 24 (.agg (rowB (zs 32))) (.agg (rowB (zs 32)))).run Tryd.prog W = .ok (.bool true) W := fun W => by
    rw [run_eql_row (P := Tryd.prog) 24 5 32 .u8 Tryd.underlying24 Tryd.underlying5 size5 (zs 32) (zs 32) rfl rfl W]
    simp
  clear hn hP he hf hr hi hq
  go_enter Tryd.func4, Tryd.ntmps4
  go_upto_region 1 with fail
  refine gen_world (Q := fun w => Code.wp _ _ _ _ w) _ (WayAt w (wayV N I s1 s2 n1 n2 c1 c2)) ⟨(Below.refl _ _).alloc (Nat.le_refl _) _, heap_alloc_new _ _⟩ ?_
  intro w1 h1
  have H1 := Lib.hid h1
  clear h1
  go_upto_region 9 with (first
    | (go_at_call 9; refine (HF.out _ H1.out.below).mono ?_; rintro e w' ⟨rfl, q1, rfl⟩; have H2 := Lib.hid (H1.out.later (below_drewN (Below.refl _ _) q1)); have hc2 := H2.out.f2; have hc3 := H2.out.f3)
    | (go_at_call 17; refine (HPv.out _).mono ?_; rintro e w3 ⟨rfl, hb⟩; have H2 := Lib.hid (H2.out.later hb); clear hb))
  refine gen_world (Q := fun w => Code.wp _ _ _ _ w) _ (WayAt w (wayV N I s1 s2 n1 n2 c1 c2)) H2.out ?_
  intro w5 h5
  have H5 := Lib.hid h5
  have hc0 := h5.f0
  have hc1 := h5.f1
  have hc2 := h5.f2
  have hc3 := h5.f3
  clear h5 H2
  go_upto_region 10 with (first
    | (go_at_call 20; refine (HFd.out _ H5.out.below).mono ?_; rintro e w6 ⟨rfl, hb⟩; have H6 := Lib.hid (H5.out.later hb); clear hb)
    | (refine wpList_store_row rfl 24 (.tmp 9) (.tmp 68) rfl w6.heap.size (rowB (zs 32)) rfl rfl 24 _ (heap_alloc_new _ _) HZ.out HY.out HX.out ?_))
  refine gen_world (Q := fun w => Code.wp _ _ _ _ w) _ (FdS w (wayV N I s1 s2 n1 n2 c1 c2) w6.heap.size (zs 32)) (FdS.made H6.out _ _) ?_
  intro w7 h7
  obtain ⟨g, hg⟩ : ∃ g, w6.heap.size = g := ⟨_, rfl⟩
  rw [hg] at h7 ⊢
  have H7 := Lib.hid h7
  have hc0 := h7.way.f0
  have hc1 := h7.way.f1
  clear hg h7 H6
  have hd5 : decide ((I : Int) < 0) = false := decide_eq_false (by omega)
  have hd7 : decide ((N : Int) ≤ (I : Int)) = false := decide_eq_false (by omega)
  have hd7' : decide (N ≤ I) = false := decide_eq_false (by omega)
  go_upto_region 12 with fail
  have hw : ∀ W, Below w7.heap.size w7 W → FdS w (wayV N I s1 s2 n1 n2 c1 c2) g (zs 32) W := fun W h => H7.out.later h
  refine wp_region_quiet_tail (C := fun W => Below w7.heap.size w7 W) 8 (by kernel_rfl) (by kernel_rfl) ⟨rfl, rfl, rfl, Nat.le_refl _, fun _ _ => rfl⟩ ?_
  simp only [List.take_succ_cons, List.take_zero, List.drop_succ_cons, List.drop_zero]
  refine q_val (.pointer (some ⟨w.heap.size, 3, none⟩)) rfl (fun W _ => exec_way_at (.tmp 5) 3 (by decide) rfl w.heap.size rfl) ?_
  simp only [Act.put, List.setIfInBounds_toArray, List.set_cons_succ, List.set_cons_zero]
  refine q_val (.slice s2 n2 c2) rfl (fun W hW => exec_load1 33 (.tmp 90) rfl ⟨w.heap.size, 3, none⟩ rfl _ ((hw W hW).way.f3) _ Tryd.underlying33 rfl) ?_
  simp only [Act.put, List.setIfInBounds_toArray, List.set_cons_succ, List.set_cons_zero]
  refine q_val (.int .i64 (n2 : Nat)) rfl (fun W _ => exec_lenD (.tmp 91) rfl s2 n2 c2 rfl) ?_
  simp only [Act.put, List.setIfInBounds_toArray, List.set_cons_succ, List.set_cons_zero]
  refine q_val (.pointer (some ⟨w.heap.size, 0, none⟩)) rfl (fun W _ => exec_way_at (.tmp 5) 0 (by decide) rfl w.heap.size rfl) ?_
  simp only [Act.put, List.setIfInBounds_toArray, List.set_cons_succ, List.set_cons_zero]
  refine q_val (.int .i64 (N : Nat)) rfl (fun W hW => exec_load1 3 (.tmp 93) rfl ⟨w.heap.size, 0, none⟩ rfl _ ((hw W hW).way.f0) _ Tryd.underlying3 rfl) ?_
  simp only [Act.put, List.setIfInBounds_toArray, List.set_cons_succ, List.set_cons_zero]
  refine q_val (.pointer (some ⟨w.heap.size, 1, none⟩)) rfl (fun W _ => exec_way_at (.tmp 5) 1 (by decide) rfl w.heap.size rfl) ?_
  simp only [Act.put, List.setIfInBounds_toArray, List.set_cons_succ, List.set_cons_zero]
  refine q_val (.int .i64 (I : Nat)) rfl (fun W hW => exec_load1 3 (.tmp 95) rfl ⟨w.heap.size, 1, none⟩ rfl _ ((hw W hW).way.f1) _ Tryd.underlying3 rfl) ?_
  simp only [Act.put, List.setIfInBounds_toArray, List.set_cons_succ, List.set_cons_zero]
  refine q_call 21 #[.int .i64 (N : Nat), .int .i64 (I : Nat)] (.int .i64 (dd : Nat)) rfl (fun _ _ => exec_call2 21 (.tmp 94) (.tmp 96) #[3, 3] _ _ rfl rfl rfl (cfDeep _ _)) (fun W hW => (HDp.out W).mono fun e W' h => ⟨h.1, hW.trans (h.2.mono hW.size)⟩) ?_
  simp only [Act.put, List.setIfInBounds_toArray, List.set_cons_succ, List.set_cons_zero]
  refine wpQuiet_nil ?_
  intro w9 hw9
  have H7 := Lib.hid (H7.out.later hw9)
  clear hw9 hw hc0 hc1
  go_wp2_with (first
    | (refine wpList_load_row rfl 24 (.tmp 9) rfl g rfl 24 (rowB (zs 32)) (0, 0) _ H7.out.dig Tryd.underlying24 rfl HZ.out ?_)
    | (refine wpList_val rfl (.agg (rowB (zs 32))) (exec_built 24 #[] rfl (rowB (zs 32)) (by kernel_rfl)) ?_)
    | (go_at_call 10; refine (awake_any _ (HE.out.below H7.out.way.below)).mono ?_; rintro e w8 ⟨rfl, hb⟩; have H8 := Lib.hid (H7.out.later hb)))
  go_ret
  exact ⟨rfl, H8.out.way.below⟩
set_option maxRecDepth 100000 in
set_option maxHeartbeats 4000000 in
theorem proves_neg_ok (w : World) (i : Int) (N I : Nat) (sp s1 s2 : Option Addr) (n cap n1 n2 c1 c2 : Nat) (ls : List (List Int)) (hn : ls.length = n) (hP : Pcs w sp cap ls) (he : Env w) (hf : few ls = true) (h100 : n1 ≤ 100) (h70 : n2 ≤ 70) (l : List Int) (q : List (List Int)) (hl1 : l.length = n1) (hb1 : Byt w s1 c1 l) (hrl : rng l) (hq : q.length = n2) (hQ : Digs w s2 c2 q) (hqr : ∀ d ∈ q, rng d) (hr : ∀ l ∈ ls, rng l) (hi : i < 0) (hI : I < N) (hN : N ≤ 9223372036854775807) (hlen : n2 = dp 63 N I) :
    Calls Tryd.prog 4 #[.slice sp n cap, .int .i64 i, .agg #[.int .i64 N, .int .i64 I, .slice s1 n1 c1, .slice s2 n2 c2]] w fun e w' => e = .returned (.bool true) ∧ Below w.heap.size w w' := by
  have HE := Lib.hid he
  have HF := Lib.hid (fun W (hb : Below w.heap.size w W) => few_any W sp n cap ls hn (hP.below hb))
  rw [hf] at HF
  have hd1 : decide ((100 : Int) < (n1 : Int)) = false := decide_eq_false (by omega)
  have hd2 : decide ((70 : Int) < (n2 : Int)) = false := decide_eq_false (by omega)
  have hn20 : n ≤ 20 := by rw [← hn]; exact (few_yes hf).2
  have HM : Hid (Mild ls) := few_mild hf
  have HS : Hid (Smal ls) := few_smal hf hr
  have hd3 : decide (i < 0) = true := decide_eq_true (by omega)
  have HPv := Lib.hid (fun W => prove_no i W sp n cap (by omega))
  have HDp := Lib.hid (fun W => deep_any N I W hI hN)
  rw [← hlen] at HDp
  have HFd := Lib.hid (fun W (hb : Below w.heap.size w W) => fold_any I N W s1 s2 n1 n2 c1 c2 l q hI hN hl1 (hb1.below hb) (by omega) hq (hQ.below hb) (HE.out.below hb) hlen)
  have HRf := Lib.hid (fun W (hb : Below w.heap.size w W) => refFold_any block_any W s1 n1 c1 l hl1 (hb1.below hb) h100 hrl N I n2 s2 c2 q hI hN hq hlen (hQ.below hb) hqr)
  have h32 := fd_32 63 N I (leafD l) q (leafD_length l)
  obtain ⟨F, hF⟩ : ∃ F, fd nodeD 63 N I (leafD l) q = F := ⟨_, rfl⟩
  rw [hF] at HFd HRf h32
  clear hF hlen
  have hd6 : ((n2 : Int) != (n2 : Int)) = false := by simp
  have HZ := Lib.hid (row_dig (d := F) h32)
  have HY := Lib.hid (row_dig0 (d := F) h32)
  have HX := Lib.hid (rowB_one F)
  clear hn hP he hf hb1 hrl hQ hqr hr hi hq
  go_enter Tryd.func4, Tryd.ntmps4
  go_upto_region 1 with fail
  refine gen_world (Q := fun w => Code.wp _ _ _ _ w) _ (WayAt w (wayV N I s1 s2 n1 n2 c1 c2)) ⟨(Below.refl _ _).alloc (Nat.le_refl _) _, heap_alloc_new _ _⟩ ?_
  intro w1 h1
  have H1 := Lib.hid h1
  clear h1
  go_upto_region 9 with (first
    | (go_at_call 9; refine (HF.out _ H1.out.below).mono ?_; rintro e w' ⟨rfl, q1, rfl⟩; have H2 := Lib.hid (H1.out.later (below_drewN (Below.refl _ _) q1)); have hc2 := H2.out.f2; have hc3 := H2.out.f3)
    | (go_at_call 17; refine (HPv.out _).mono ?_; rintro e w3 ⟨rfl, hb⟩; have H2 := Lib.hid (H2.out.later hb); clear hb))
  refine gen_world (Q := fun w => Code.wp _ _ _ _ w) _ (WayAt w (wayV N I s1 s2 n1 n2 c1 c2)) H2.out ?_
  intro w5 h5
  have H5 := Lib.hid h5
  have hc0 := h5.f0
  have hc1 := h5.f1
  have hc2 := h5.f2
  have hc3 := h5.f3
  clear h5 H2
  go_upto_region 10 with (first
    | (go_at_call 20; refine (HFd.out _ H5.out.below).mono ?_; rintro e w6 ⟨rfl, hb⟩; have H6 := Lib.hid (H5.out.later hb); clear hb)
    | (refine wpList_store_row rfl 24 (.tmp 9) (.tmp 68) rfl w6.heap.size (rowB F) rfl rfl 24 _ (heap_alloc_new _ _) HZ.out HY.out HX.out ?_))
  refine gen_world (Q := fun w => Code.wp _ _ _ _ w) _ (FdS w (wayV N I s1 s2 n1 n2 c1 c2) w6.heap.size F) (FdS.made H6.out _ _) ?_
  intro w7 h7
  obtain ⟨g, hg⟩ : ∃ g, w6.heap.size = g := ⟨_, rfl⟩
  rw [hg] at h7 ⊢
  have H7 := Lib.hid h7
  have hc0 := h7.way.f0
  have hc1 := h7.way.f1
  clear hg h7 H6
  have hd5 : decide ((I : Int) < 0) = false := decide_eq_false (by omega)
  have hd7 : decide ((N : Int) ≤ (I : Int)) = false := decide_eq_false (by omega)
  have hd7' : decide (N ≤ I) = false := decide_eq_false (by omega)
  go_upto_region 12 with fail
  have hw : ∀ W, Below w7.heap.size w7 W → FdS w (wayV N I s1 s2 n1 n2 c1 c2) g F W := fun W h => H7.out.later h
  refine wp_region_quiet_tail (C := fun W => Below w7.heap.size w7 W) 8 (by kernel_rfl) (by kernel_rfl) ⟨rfl, rfl, rfl, Nat.le_refl _, fun _ _ => rfl⟩ ?_
  simp only [List.take_succ_cons, List.take_zero, List.drop_succ_cons, List.drop_zero]
  refine q_val (.pointer (some ⟨w.heap.size, 3, none⟩)) rfl (fun W _ => exec_way_at (.tmp 5) 3 (by decide) rfl w.heap.size rfl) ?_
  simp only [Act.put, List.setIfInBounds_toArray, List.set_cons_succ, List.set_cons_zero]
  refine q_val (.slice s2 n2 c2) rfl (fun W hW => exec_load1 33 (.tmp 90) rfl ⟨w.heap.size, 3, none⟩ rfl _ ((hw W hW).way.f3) _ Tryd.underlying33 rfl) ?_
  simp only [Act.put, List.setIfInBounds_toArray, List.set_cons_succ, List.set_cons_zero]
  refine q_val (.int .i64 (n2 : Nat)) rfl (fun W _ => exec_lenD (.tmp 91) rfl s2 n2 c2 rfl) ?_
  simp only [Act.put, List.setIfInBounds_toArray, List.set_cons_succ, List.set_cons_zero]
  refine q_val (.pointer (some ⟨w.heap.size, 0, none⟩)) rfl (fun W _ => exec_way_at (.tmp 5) 0 (by decide) rfl w.heap.size rfl) ?_
  simp only [Act.put, List.setIfInBounds_toArray, List.set_cons_succ, List.set_cons_zero]
  refine q_val (.int .i64 (N : Nat)) rfl (fun W hW => exec_load1 3 (.tmp 93) rfl ⟨w.heap.size, 0, none⟩ rfl _ ((hw W hW).way.f0) _ Tryd.underlying3 rfl) ?_
  simp only [Act.put, List.setIfInBounds_toArray, List.set_cons_succ, List.set_cons_zero]
  refine q_val (.pointer (some ⟨w.heap.size, 1, none⟩)) rfl (fun W _ => exec_way_at (.tmp 5) 1 (by decide) rfl w.heap.size rfl) ?_
  simp only [Act.put, List.setIfInBounds_toArray, List.set_cons_succ, List.set_cons_zero]
  refine q_val (.int .i64 (I : Nat)) rfl (fun W hW => exec_load1 3 (.tmp 95) rfl ⟨w.heap.size, 1, none⟩ rfl _ ((hw W hW).way.f1) _ Tryd.underlying3 rfl) ?_
  simp only [Act.put, List.setIfInBounds_toArray, List.set_cons_succ, List.set_cons_zero]
  refine q_call 21 #[.int .i64 (N : Nat), .int .i64 (I : Nat)] (.int .i64 (n2 : Nat)) rfl (fun _ _ => exec_call2 21 (.tmp 94) (.tmp 96) #[3, 3] _ _ rfl rfl rfl (cfDeep _ _)) (fun W hW => (HDp.out W).mono fun e W' h => ⟨h.1, hW.trans (h.2.mono hW.size)⟩) ?_
  simp only [Act.put, List.setIfInBounds_toArray, List.set_cons_succ, List.set_cons_zero]
  refine wpQuiet_nil ?_
  intro w9 hw9
  have H7 := Lib.hid (H7.out.later hw9)
  clear hw9 hw hc0 hc1
  go_wp2
  have hw : ∀ W, Below w9.heap.size w9 W → FdS w (wayV N I s1 s2 n1 n2 c1 c2) g F W := fun W h => H7.out.later h
  refine wp_region_spec (C := fun W => Below w9.heap.size w9 W) (Le := fun w w' => Below w.heap.size w w') 18 (fun j _ v => v = ([.agg (rowB F), .pointer (some ⟨w.heap.size, 0, none⟩), .int .i64 (N : Nat), .pointer (some ⟨w.heap.size, 1, none⟩), .int .i64 (I : Nat), .pointer (some ⟨w.heap.size, 2, none⟩), .slice s1 n1 c1, .pointer (some ⟨w.heap.size, 3, none⟩), .slice s2 n2 c2, .agg (rowB F), .bool true, .bool true, .int .i64 0, .bool true, .bool true, .bool true, .bool true, .bool true] : List Value).getD j undef) (by kernel_rfl) (by kernel_rfl) ⟨rfl, rfl, rfl, Nat.le_refl _, fun _ _ => rfl⟩ (fun _ _ _ _ _ h => h) (fun j v => v = ([.agg (rowB F), .pointer (some ⟨w.heap.size, 0, none⟩), .int .i64 (N : Nat), .pointer (some ⟨w.heap.size, 1, none⟩), .int .i64 (I : Nat), .pointer (some ⟨w.heap.size, 2, none⟩), .slice s1 n1 c1, .pointer (some ⟨w.heap.size, 3, none⟩), .slice s2 n2 c2, .agg (rowB F), .bool true, .bool true, .int .i64 0, .bool true, .bool true, .bool true, .bool true, .bool true] : List Value).getD j undef) (fun _ _ _ h => h) (fun j => ([.agg (rowB F), .pointer (some ⟨w.heap.size, 0, none⟩), .int .i64 (N : Nat), .pointer (some ⟨w.heap.size, 1, none⟩), .int .i64 (I : Nat), .pointer (some ⟨w.heap.size, 2, none⟩), .slice s1 n1 c1, .pointer (some ⟨w.heap.size, 3, none⟩), .slice s2 n2 c2, .agg (rowB F), .bool true, .bool true, .int .i64 0, .bool true, .bool true, .bool true, .bool true, .bool true] : List Value).getD j undef) (fun _ => rfl) ?_ ?_
  · intro u hu
    have h0 : u 0 = .agg (rowB F) := hu 0
    have h1 : u 1 = .pointer (some ⟨w.heap.size, 0, none⟩) := hu 1
    have h2 : u 2 = .int .i64 (N : Nat) := hu 2
    have h3 : u 3 = .pointer (some ⟨w.heap.size, 1, none⟩) := hu 3
    have h4 : u 4 = .int .i64 (I : Nat) := hu 4
    have h5 : u 5 = .pointer (some ⟨w.heap.size, 2, none⟩) := hu 5
    have h6 : u 6 = .slice s1 n1 c1 := hu 6
    have h7 : u 7 = .pointer (some ⟨w.heap.size, 3, none⟩) := hu 7
    have h8 : u 8 = .slice s2 n2 c2 := hu 8
    have h9 : u 9 = .agg (rowB F) := hu 9
    have h10 : u 10 = .bool true := hu 10
    have h11 : u 11 = .bool true := hu 11
    have h12 : u 12 = .int .i64 0 := hu 12
    have h13 : u 13 = .bool true := hu 13
    have h14 : u 14 = .bool true := hu 14
    have h15 : u 15 = .bool true := hu 15
    have h16 : u 16 = .bool true := hu 16
    have h17 : u 17 = .bool true := hu 17
    clear hu
    simp only [List.take_succ_cons, List.take_zero]
    refine spec_cons (fun W hC hd => ⟨by rfl, ?_⟩) ?_
    · exact gives_val _ W (exec_load_row 24 (.tmp 9) rfl g rfl 24 (rowB F) (0, 0) _ ((hw W hC).dig) Tryd.underlying24 rfl HZ.out) ⟨hC, Below.refl _ _, rfl⟩
    simp only [Act.put, List.setIfInBounds_toArray, List.set_cons_succ, List.set_cons_zero, Nat.reduceAdd]
    rw [h0]
    refine spec_cons (fun W hC hd => ⟨by rfl, ?_⟩) ?_
    · exact gives_val _ W (exec_way_at (.tmp 5) 0 (by decide) rfl w.heap.size rfl) ⟨hC, Below.refl _ _, rfl⟩
    simp only [Act.put, List.setIfInBounds_toArray, List.set_cons_succ, List.set_cons_zero, Nat.reduceAdd]
    rw [h1]
    refine spec_cons (fun W hC hd => ⟨by rfl, ?_⟩) ?_
    · exact gives_val _ W (exec_load1 3 (.tmp 110) rfl ⟨w.heap.size, 0, none⟩ rfl _ ((hw W hC).way.f0) _ Tryd.underlying3 rfl) ⟨hC, Below.refl _ _, rfl⟩
    simp only [Act.put, List.setIfInBounds_toArray, List.set_cons_succ, List.set_cons_zero, Nat.reduceAdd]
    rw [h2]
    refine spec_cons (fun W hC hd => ⟨by rfl, ?_⟩) ?_
    · exact gives_val _ W (exec_way_at (.tmp 5) 1 (by decide) rfl w.heap.size rfl) ⟨hC, Below.refl _ _, rfl⟩
    simp only [Act.put, List.setIfInBounds_toArray, List.set_cons_succ, List.set_cons_zero, Nat.reduceAdd]
    rw [h3]
    refine spec_cons (fun W hC hd => ⟨by rfl, ?_⟩) ?_
    · exact gives_val _ W (exec_load1 3 (.tmp 112) rfl ⟨w.heap.size, 1, none⟩ rfl _ ((hw W hC).way.f1) _ Tryd.underlying3 rfl) ⟨hC, Below.refl _ _, rfl⟩
    simp only [Act.put, List.setIfInBounds_toArray, List.set_cons_succ, List.set_cons_zero, Nat.reduceAdd]
    rw [h4]
    refine spec_cons (fun W hC hd => ⟨by rfl, ?_⟩) ?_
    · exact gives_val _ W (exec_way_at (.tmp 5) 2 (by decide) rfl w.heap.size rfl) ⟨hC, Below.refl _ _, rfl⟩
    simp only [Act.put, List.setIfInBounds_toArray, List.set_cons_succ, List.set_cons_zero, Nat.reduceAdd]
    rw [h5]
    refine spec_cons (fun W hC hd => ⟨by rfl, ?_⟩) ?_
    · exact gives_val _ W (exec_load1 28 (.tmp 114) rfl ⟨w.heap.size, 2, none⟩ rfl _ ((hw W hC).way.f2) _ Tryd.underlying28 rfl) ⟨hC, Below.refl _ _, rfl⟩
    simp only [Act.put, List.setIfInBounds_toArray, List.set_cons_succ, List.set_cons_zero, Nat.reduceAdd]
    rw [h6]
    refine spec_cons (fun W hC hd => ⟨by rfl, ?_⟩) ?_
    · exact gives_val _ W (exec_way_at (.tmp 5) 3 (by decide) rfl w.heap.size rfl) ⟨hC, Below.refl _ _, rfl⟩
    simp only [Act.put, List.setIfInBounds_toArray, List.set_cons_succ, List.set_cons_zero, Nat.reduceAdd]
    rw [h7]
    refine spec_cons (fun W hC hd => ⟨by rfl, ?_⟩) ?_
    · exact gives_val _ W (exec_load1 33 (.tmp 116) rfl ⟨w.heap.size, 3, none⟩ rfl _ ((hw W hC).way.f3) _ Tryd.underlying33 rfl) ⟨hC, Below.refl _ _, rfl⟩
    simp only [Act.put, List.setIfInBounds_toArray, List.set_cons_succ, List.set_cons_zero, Nat.reduceAdd]
    rw [h8]
    refine spec_cons (fun W hC hd => ⟨by rfl, ?_⟩) ?_
    · exact gives_call _ _ (exec_call4 22 (.tmp 111) (.tmp 113) (.tmp 115) (.tmp 117) #[3, 3, 28, 33] _ _ _ _ rfl rfl rfl rfl rfl (cfRefFold _ _)) (((fun W hC => HRf.out W (hw W hC).way.below) W hC).mono fun e W' h => ⟨_, h.1, hC.trans (h.2.mono hC.size), h.2, rfl⟩)
    simp only [Act.put, List.setIfInBounds_toArray, List.set_cons_succ, List.set_cons_zero, Nat.reduceAdd]
    rw [h9]
    refine spec_cons (fun W hC hd => ⟨by rfl, ?_⟩) ?_
    · exact gives_val _ W (exec_eqD (.tmp 109) (.tmp 118) rfl F F rfl rfl h32 h32) ⟨hC, Below.refl _ _, by simp⟩
    simp only [Act.put, List.setIfInBounds_toArray, List.set_cons_succ, List.set_cons_zero, Nat.reduceAdd]
    rw [h10]
    refine spec_cons (fun W hC hd => ⟨by rfl, ?_⟩) ?_
    · exact gives_val _ W (rfl) ⟨hC, Below.refl _ _, rfl⟩
    simp only [Act.put, List.setIfInBounds_toArray, List.set_cons_succ, List.set_cons_zero, Nat.reduceAdd]
    rw [h11]
    refine spec_cons (fun W hC hd => ⟨by rfl, ?_⟩) ?_
    · exact gives_val _ W (rfl) ⟨hC, Below.refl _ _, rfl⟩
    simp only [Act.put, List.setIfInBounds_toArray, List.set_cons_succ, List.set_cons_zero, Nat.reduceAdd]
    rw [h12]
    refine spec_cons (fun W hC hd => ⟨by rfl, ?_⟩) ?_
    · exact gives_val _ W (rfl) ⟨hC, Below.refl _ _, rfl⟩
    simp only [Act.put, List.setIfInBounds_toArray, List.set_cons_succ, List.set_cons_zero, Nat.reduceAdd]
    rw [h13]
    refine spec_cons (fun W hC hd => ⟨by rfl, ?_⟩) ?_
    · exact gives_val _ W (rfl) ⟨hC, Below.refl _ _, rfl⟩
    simp only [Act.put, List.setIfInBounds_toArray, List.set_cons_succ, List.set_cons_zero, Nat.reduceAdd]
    rw [h14]
    refine spec_cons (fun W hC hd => ⟨by rfl, ?_⟩) ?_
    · exact gives_val _ W (rfl) ⟨hC, Below.refl _ _, rfl⟩
    simp only [Act.put, List.setIfInBounds_toArray, List.set_cons_succ, List.set_cons_zero, Nat.reduceAdd]
    rw [h15]
    refine spec_cons (fun W hC hd => ⟨by rfl, ?_⟩) ?_
    · exact gives_call _ _ (exec_call0 10 #[] rfl (cfAwake _ _)) (((fun W hC => awake_any W (HE.out.below (hw W hC).way.below)) W hC).mono fun e W' h => ⟨_, h.1, hC.trans (h.2.mono hC.size), h.2, rfl⟩)
    simp only [Act.put, List.setIfInBounds_toArray, List.set_cons_succ, List.set_cons_zero, Nat.reduceAdd]
    rw [h16]
    refine spec_cons (fun W hC hd => ⟨by rfl, ?_⟩) ?_
    · exact gives_val _ W (rfl) ⟨hC, Below.refl _ _, rfl⟩
    simp only [Act.put, List.setIfInBounds_toArray, List.set_cons_succ, List.set_cons_zero, Nat.reduceAdd]
    rw [h17]
    exact spec_nil
  · intro u W hu hC hF
    have h0 : u 0 = .agg (rowB F) := hu 0
    have h1 : u 1 = .pointer (some ⟨w.heap.size, 0, none⟩) := hu 1
    have h2 : u 2 = .int .i64 (N : Nat) := hu 2
    have h3 : u 3 = .pointer (some ⟨w.heap.size, 1, none⟩) := hu 3
    have h4 : u 4 = .int .i64 (I : Nat) := hu 4
    have h5 : u 5 = .pointer (some ⟨w.heap.size, 2, none⟩) := hu 5
    have h6 : u 6 = .slice s1 n1 c1 := hu 6
    have h7 : u 7 = .pointer (some ⟨w.heap.size, 3, none⟩) := hu 7
    have h8 : u 8 = .slice s2 n2 c2 := hu 8
    have h9 : u 9 = .agg (rowB F) := hu 9
    have h10 : u 10 = .bool true := hu 10
    have h11 : u 11 = .bool true := hu 11
    have h12 : u 12 = .int .i64 0 := hu 12
    have h13 : u 13 = .bool true := hu 13
    have h14 : u 14 = .bool true := hu 14
    have h15 : u 15 = .bool true := hu 15
    have h16 : u 16 = .bool true := hu 16
    have h17 : u 17 = .bool true := hu 17
    simp only [List.take_succ_cons, List.take_zero, List.drop_succ_cons, List.drop_zero, putAll, Act.put, List.setIfInBounds_toArray, List.set_cons_succ, List.set_cons_zero, Nat.reduceAdd]
    rw [h0, h1, h2, h3, h4, h5, h6, h7, h8, h9, h10, h11, h12, h13, h14, h15, h16, h17]
    have H8 := Lib.hid (H7.out.later hC)
    clear hu hC hF hw HRf h0 h1 h2 h3 h4 h5 h6 h7 h8 h9 h10 h11 h12 h13 h14 h15 h16 h17
    go_wp2
    go_ret
    exact ⟨rfl, H8.out.way.below⟩
set_option maxRecDepth 100000 in
set_option maxHeartbeats 4000000 in
theorem proves_high_no (w : World) (i N I : Int) (sp s1 s2 : Option Addr) (n cap n1 n2 c1 c2 : Nat) (ls : List (List Int)) (hn : ls.length = n) (hP : Pcs w sp cap ls) (he : Env w) (hf : few ls = true) (h100 : n1 ≤ 100) (h70 : n2 ≤ 70) (l : List Int) (q : List (List Int)) (hl1 : l.length = n1) (_ : Byt w s1 c1 l) (_ : rng l) (hq : q.length = n2) (_ : Digs w s2 c2 q) (_ : ∀ d ∈ q, rng d) (hr : ∀ l ∈ ls, rng l) (hi0 : 0 ≤ i) (hi : n ≤ i) (hI : ¬ (0 ≤ I ∧ I < N)) :
    Calls Tryd.prog 4 #[.slice sp n cap, .int .i64 i, .agg #[.int .i64 N, .int .i64 I, .slice s1 n1 c1, .slice s2 n2 c2]] w fun e w' => e = .returned (.bool true) ∧ Below w.heap.size w w' := by
  have HE := Lib.hid he
  have HF := Lib.hid (fun W (hb : Below w.heap.size w W) => few_any W sp n cap ls hn (hP.below hb))
  rw [hf] at HF
  have hd1 : decide ((100 : Int) < (n1 : Int)) = false := decide_eq_false (by omega)
  have hd2 : decide ((70 : Int) < (n2 : Int)) = false := decide_eq_false (by omega)
  have hn20 : n ≤ 20 := by rw [← hn]; exact (few_yes hf).2
  have HM : Hid (Mild ls) := few_mild hf
  have HS : Hid (Smal ls) := few_smal hf hr
  have hd3 : decide (i < 0) = false := decide_eq_false (by omega)
  have hd4 : decide ((n : Int) ≤ i) = true := decide_eq_true (by omega)
  have HPv := Lib.hid (fun W => prove_no i W sp n cap (by omega))
  have HFd := Lib.hid (fun W (_ : Below w.heap.size w W) => fold_no I N W s1 s2 n1 n2 c1 c2 hI)
  have HZ := Lib.hid (row_dig (d := (zs 32)) rfl)
  have HY := Lib.hid (row_dig0 (d := (zs 32)) rfl)
  have HX := Lib.hid (rowB_one (zs 32))
  have eR : ∀ W : World, (binOp .eql 24 (.agg (rowB (zs 32))) (.agg (rowB (zs 32)))).run Tryd.prog W = .ok (.bool true) W := fun W => by
    rw [run_eql_row (P := Tryd.prog) 24 5 32 .u8 Tryd.underlying24 Tryd.underlying5 size5 (zs 32) (zs 32) rfl rfl W]
    simp
  clear hn hP he hf hr hi hq hi0
  go_enter Tryd.func4, Tryd.ntmps4
  go_upto_region 1 with fail
  refine gen_world (Q := fun w => Code.wp _ _ _ _ w) _ (WayAt w (wayV N I s1 s2 n1 n2 c1 c2)) ⟨(Below.refl _ _).alloc (Nat.le_refl _) _, heap_alloc_new _ _⟩ ?_
  intro w1 h1
  have H1 := Lib.hid h1
  clear h1
  go_upto_region 9 with (first
    | (go_at_call 9; refine (HF.out _ H1.out.below).mono ?_; rintro e w' ⟨rfl, q1, rfl⟩; have H2 := Lib.hid (H1.out.later (below_drewN (Below.refl _ _) q1)); have hc2 := H2.out.f2; have hc3 := H2.out.f3)
    | (go_at_call 17; refine (HPv.out _).mono ?_; rintro e w3 ⟨rfl, hb⟩; have H2 := Lib.hid (H2.out.later hb); clear hb))
  refine gen_world (Q := fun w => Code.wp _ _ _ _ w) _ (WayAt w (wayV N I s1 s2 n1 n2 c1 c2)) H2.out ?_
  intro w5 h5
  have H5 := Lib.hid h5
  have hc0 := h5.f0
  have hc1 := h5.f1
  have hc2 := h5.f2
  have hc3 := h5.f3
  clear h5 H2
  go_upto_region 10 with (first
    | (go_at_call 20; refine (HFd.out _ H5.out.below).mono ?_; rintro e w6 ⟨rfl, hb⟩; have H6 := Lib.hid (H5.out.later hb); clear hb)
    | (refine wpList_store_row rfl 24 (.tmp 9) (.tmp 68) rfl w6.heap.size (rowB (zs 32)) rfl rfl 24 _ (heap_alloc_new _ _) HZ.out HY.out HX.out ?_))
  refine gen_world (Q := fun w => Code.wp _ _ _ _ w) _ (FdS w (wayV N I s1 s2 n1 n2 c1 c2) w6.heap.size (zs 32)) (FdS.made H6.out _ _) ?_
  intro w7 h7
  obtain ⟨g, hg⟩ : ∃ g, w6.heap.size = g := ⟨_, rfl⟩
  rw [hg] at h7 ⊢
  have H7 := Lib.hid h7
  have hc0 := h7.way.f0
  have hc1 := h7.way.f1
  clear hg h7 H6
  by_cases hI0 : I < 0
  · have hd5 : decide (I < 0) = true := decide_eq_true (by omega)
    go_wp2_with (first
      | (refine wpList_load_row rfl 24 (.tmp 9) rfl g rfl 24 (rowB (zs 32)) (0, 0) _ H7.out.dig Tryd.underlying24 rfl HZ.out ?_)
      | (refine wpList_val rfl (.agg (rowB (zs 32))) (exec_built 24 #[] rfl (rowB (zs 32)) (by kernel_rfl)) ?_)
      | (go_at_call 10; refine (awake_any _ (HE.out.below H7.out.way.below)).mono ?_; rintro e w8 ⟨rfl, hb⟩; have H8 := Lib.hid (H7.out.later hb)))
    go_ret
    exact ⟨rfl, H8.out.way.below⟩
  · have hd5 : decide (I < 0) = false := decide_eq_false (by omega)
    have hd6 : decide (N ≤ I) = true := decide_eq_true (by omega)
    go_wp2_with (first
      | (refine wpList_load_row rfl 24 (.tmp 9) rfl g rfl 24 (rowB (zs 32)) (0, 0) _ H7.out.dig Tryd.underlying24 rfl HZ.out ?_)
      | (refine wpList_val rfl (.agg (rowB (zs 32))) (exec_built 24 #[] rfl (rowB (zs 32)) (by kernel_rfl)) ?_)
      | (go_at_call 10; refine (awake_any _ (HE.out.below H7.out.way.below)).mono ?_; rintro e w8 ⟨rfl, hb⟩; have H8 := Lib.hid (H7.out.later hb)))
    go_ret
    exact ⟨rfl, H8.out.way.below⟩
set_option maxRecDepth 100000 in
set_option maxHeartbeats 4000000 in
theorem proves_high_len (w : World) (i : Int) (N I : Nat) (sp s1 s2 : Option Addr) (n cap n1 n2 c1 c2 : Nat) (ls : List (List Int)) (hn : ls.length = n) (hP : Pcs w sp cap ls) (he : Env w) (hf : few ls = true) (h100 : n1 ≤ 100) (h70 : n2 ≤ 70) (l : List Int) (q : List (List Int)) (hl1 : l.length = n1) (_ : Byt w s1 c1 l) (_ : rng l) (hq : q.length = n2) (_ : Digs w s2 c2 q) (_ : ∀ d ∈ q, rng d) (hr : ∀ l ∈ ls, rng l) (hi0 : 0 ≤ i) (hi : n ≤ i) (hI : I < N) (hN : N ≤ 9223372036854775807) (hlen : n2 ≠ dp 63 N I) :
    Calls Tryd.prog 4 #[.slice sp n cap, .int .i64 i, .agg #[.int .i64 N, .int .i64 I, .slice s1 n1 c1, .slice s2 n2 c2]] w fun e w' => e = .returned (.bool true) ∧ Below w.heap.size w w' := by
  have HE := Lib.hid he
  have HF := Lib.hid (fun W (hb : Below w.heap.size w W) => few_any W sp n cap ls hn (hP.below hb))
  rw [hf] at HF
  have hd1 : decide ((100 : Int) < (n1 : Int)) = false := decide_eq_false (by omega)
  have hd2 : decide ((70 : Int) < (n2 : Int)) = false := decide_eq_false (by omega)
  have hn20 : n ≤ 20 := by rw [← hn]; exact (few_yes hf).2
  have HM : Hid (Mild ls) := few_mild hf
  have HS : Hid (Smal ls) := few_smal hf hr
  have hd3 : decide (i < 0) = false := decide_eq_false (by omega)
  have hd4 : decide ((n : Int) ≤ i) = true := decide_eq_true (by omega)
  have HPv := Lib.hid (fun W => prove_no i W sp n cap (by omega))
  have HDp := Lib.hid (fun W => deep_any N I W hI hN)
  have HFd := Lib.hid (fun W (_ : Below w.heap.size w W) => fold_len I N W s1 s2 n1 n2 c1 c2 hI hN (by rw [← dp_wy 63 N I hI (by omega)]; exact hlen))
  obtain ⟨dd, hdd⟩ : ∃ d, dp 63 N I = d := ⟨_, rfl⟩
  rw [hdd] at HDp hlen
  clear hdd
  have hd6 : ((n2 : Int) != (dd : Int)) = true := by simp; omega
  have HZ := Lib.hid (row_dig (d := (zs 32)) rfl)
  have HY := Lib.hid (row_dig0 (d := (zs 32)) rfl)
  have HX := Lib.hid (rowB_one (zs 32))
  have eR : ∀ W : World, (binOp .eql 24 (.agg (rowB (zs 32))) (.agg (rowB (zs 32)))).run Tryd.prog W = .ok (.bool true) W := fun W => by
    rw [run_eql_row (P := Tryd.prog) 24 5 32 .u8 Tryd.underlying24 Tryd.underlying5 size5 (zs 32) (zs 32) rfl rfl W]
    simp
  clear hn hP he hf hr hi hq hi0
  go_enter Tryd.func4, Tryd.ntmps4
  go_upto_region 1 with fail
  refine gen_world (Q := fun w => Code.wp _ _ _ _ w) _ (WayAt w (wayV N I s1 s2 n1 n2 c1 c2)) ⟨(Below.refl _ _).alloc (Nat.le_refl _) _, heap_alloc_new _ _⟩ ?_
  intro w1 h1
  have H1 := Lib.hid h1
  clear h1
  go_upto_region 9 with (first
    | (go_at_call 9; refine (HF.out _ H1.out.below).mono ?_; rintro e w' ⟨rfl, q1, rfl⟩; have H2 := Lib.hid (H1.out.later (below_drewN (Below.refl _ _) q1)); have hc2 := H2.out.f2; have hc3 := H2.out.f3)
    | (go_at_call 17; refine (HPv.out _).mono ?_; rintro e w3 ⟨rfl, hb⟩; have H2 := Lib.hid (H2.out.later hb); clear hb))
  refine gen_world (Q := fun w => Code.wp _ _ _ _ w) _ (WayAt w (wayV N I s1 s2 n1 n2 c1 c2)) H2.out ?_
  intro w5 h5
  have H5 := Lib.hid h5
  have hc0 := h5.f0
  have hc1 := h5.f1
  have hc2 := h5.f2
  have hc3 := h5.f3
  clear h5 H2
  go_upto_region 10 with (first
    | (go_at_call 20; refine (HFd.out _ H5.out.below).mono ?_; rintro e w6 ⟨rfl, hb⟩; have H6 := Lib.hid (H5.out.later hb); clear hb)
    | (refine wpList_store_row rfl 24 (.tmp 9) (.tmp 68) rfl w6.heap.size (rowB (zs 32)) rfl rfl 24 _ (heap_alloc_new _ _) HZ.out HY.out HX.out ?_))
  refine gen_world (Q := fun w => Code.wp _ _ _ _ w) _ (FdS w (wayV N I s1 s2 n1 n2 c1 c2) w6.heap.size (zs 32)) (FdS.made H6.out _ _) ?_
  intro w7 h7
  obtain ⟨g, hg⟩ : ∃ g, w6.heap.size = g := ⟨_, rfl⟩
  rw [hg] at h7 ⊢
  have H7 := Lib.hid h7
  have hc0 := h7.way.f0
  have hc1 := h7.way.f1
  clear hg h7 H6
  have hd5 : decide ((I : Int) < 0) = false := decide_eq_false (by omega)
  have hd7 : decide ((N : Int) ≤ (I : Int)) = false := decide_eq_false (by omega)
  have hd7' : decide (N ≤ I) = false := decide_eq_false (by omega)
  go_upto_region 12 with fail
  have hw : ∀ W, Below w7.heap.size w7 W → FdS w (wayV N I s1 s2 n1 n2 c1 c2) g (zs 32) W := fun W h => H7.out.later h
  refine wp_region_quiet_tail (C := fun W => Below w7.heap.size w7 W) 8 (by kernel_rfl) (by kernel_rfl) ⟨rfl, rfl, rfl, Nat.le_refl _, fun _ _ => rfl⟩ ?_
  simp only [List.take_succ_cons, List.take_zero, List.drop_succ_cons, List.drop_zero]
  refine q_val (.pointer (some ⟨w.heap.size, 3, none⟩)) rfl (fun W _ => exec_way_at (.tmp 5) 3 (by decide) rfl w.heap.size rfl) ?_
  simp only [Act.put, List.setIfInBounds_toArray, List.set_cons_succ, List.set_cons_zero]
  refine q_val (.slice s2 n2 c2) rfl (fun W hW => exec_load1 33 (.tmp 90) rfl ⟨w.heap.size, 3, none⟩ rfl _ ((hw W hW).way.f3) _ Tryd.underlying33 rfl) ?_
  simp only [Act.put, List.setIfInBounds_toArray, List.set_cons_succ, List.set_cons_zero]
  refine q_val (.int .i64 (n2 : Nat)) rfl (fun W _ => exec_lenD (.tmp 91) rfl s2 n2 c2 rfl) ?_
  simp only [Act.put, List.setIfInBounds_toArray, List.set_cons_succ, List.set_cons_zero]
  refine q_val (.pointer (some ⟨w.heap.size, 0, none⟩)) rfl (fun W _ => exec_way_at (.tmp 5) 0 (by decide) rfl w.heap.size rfl) ?_
  simp only [Act.put, List.setIfInBounds_toArray, List.set_cons_succ, List.set_cons_zero]
  refine q_val (.int .i64 (N : Nat)) rfl (fun W hW => exec_load1 3 (.tmp 93) rfl ⟨w.heap.size, 0, none⟩ rfl _ ((hw W hW).way.f0) _ Tryd.underlying3 rfl) ?_
  simp only [Act.put, List.setIfInBounds_toArray, List.set_cons_succ, List.set_cons_zero]
  refine q_val (.pointer (some ⟨w.heap.size, 1, none⟩)) rfl (fun W _ => exec_way_at (.tmp 5) 1 (by decide) rfl w.heap.size rfl) ?_
  simp only [Act.put, List.setIfInBounds_toArray, List.set_cons_succ, List.set_cons_zero]
  refine q_val (.int .i64 (I : Nat)) rfl (fun W hW => exec_load1 3 (.tmp 95) rfl ⟨w.heap.size, 1, none⟩ rfl _ ((hw W hW).way.f1) _ Tryd.underlying3 rfl) ?_
  simp only [Act.put, List.setIfInBounds_toArray, List.set_cons_succ, List.set_cons_zero]
  refine q_call 21 #[.int .i64 (N : Nat), .int .i64 (I : Nat)] (.int .i64 (dd : Nat)) rfl (fun _ _ => exec_call2 21 (.tmp 94) (.tmp 96) #[3, 3] _ _ rfl rfl rfl (cfDeep _ _)) (fun W hW => (HDp.out W).mono fun e W' h => ⟨h.1, hW.trans (h.2.mono hW.size)⟩) ?_
  simp only [Act.put, List.setIfInBounds_toArray, List.set_cons_succ, List.set_cons_zero]
  refine wpQuiet_nil ?_
  intro w9 hw9
  have H7 := Lib.hid (H7.out.later hw9)
  clear hw9 hw hc0 hc1
  go_wp2_with (first
    | (refine wpList_load_row rfl 24 (.tmp 9) rfl g rfl 24 (rowB (zs 32)) (0, 0) _ H7.out.dig Tryd.underlying24 rfl HZ.out ?_)
    | (refine wpList_val rfl (.agg (rowB (zs 32))) (exec_built 24 #[] rfl (rowB (zs 32)) (by kernel_rfl)) ?_)
    | (go_at_call 10; refine (awake_any _ (HE.out.below H7.out.way.below)).mono ?_; rintro e w8 ⟨rfl, hb⟩; have H8 := Lib.hid (H7.out.later hb)))
  go_ret
  exact ⟨rfl, H8.out.way.below⟩
set_option maxRecDepth 100000 in
set_option maxHeartbeats 4000000 in
theorem proves_high_ok (w : World) (i : Int) (N I : Nat) (sp s1 s2 : Option Addr) (n cap n1 n2 c1 c2 : Nat) (ls : List (List Int)) (hn : ls.length = n) (hP : Pcs w sp cap ls) (he : Env w) (hf : few ls = true) (h100 : n1 ≤ 100) (h70 : n2 ≤ 70) (l : List Int) (q : List (List Int)) (hl1 : l.length = n1) (hb1 : Byt w s1 c1 l) (hrl : rng l) (hq : q.length = n2) (hQ : Digs w s2 c2 q) (hqr : ∀ d ∈ q, rng d) (hr : ∀ l ∈ ls, rng l) (hi0 : 0 ≤ i) (hi : n ≤ i) (hI : I < N) (hN : N ≤ 9223372036854775807) (hlen : n2 = dp 63 N I) :
    Calls Tryd.prog 4 #[.slice sp n cap, .int .i64 i, .agg #[.int .i64 N, .int .i64 I, .slice s1 n1 c1, .slice s2 n2 c2]] w fun e w' => e = .returned (.bool true) ∧ Below w.heap.size w w' := by
  have HE := Lib.hid he
  have HF := Lib.hid (fun W (hb : Below w.heap.size w W) => few_any W sp n cap ls hn (hP.below hb))
  rw [hf] at HF
  have hd1 : decide ((100 : Int) < (n1 : Int)) = false := decide_eq_false (by omega)
  have hd2 : decide ((70 : Int) < (n2 : Int)) = false := decide_eq_false (by omega)
  have hn20 : n ≤ 20 := by rw [← hn]; exact (few_yes hf).2
  have HM : Hid (Mild ls) := few_mild hf
  have HS : Hid (Smal ls) := few_smal hf hr
  have hd3 : decide (i < 0) = false := decide_eq_false (by omega)
  have hd4 : decide ((n : Int) ≤ i) = true := decide_eq_true (by omega)
  have HPv := Lib.hid (fun W => prove_no i W sp n cap (by omega))
  have HDp := Lib.hid (fun W => deep_any N I W hI hN)
  rw [← hlen] at HDp
  have HFd := Lib.hid (fun W (hb : Below w.heap.size w W) => fold_any I N W s1 s2 n1 n2 c1 c2 l q hI hN hl1 (hb1.below hb) (by omega) hq (hQ.below hb) (HE.out.below hb) hlen)
  have HRf := Lib.hid (fun W (hb : Below w.heap.size w W) => refFold_any block_any W s1 n1 c1 l hl1 (hb1.below hb) h100 hrl N I n2 s2 c2 q hI hN hq hlen (hQ.below hb) hqr)
  have h32 := fd_32 63 N I (leafD l) q (leafD_length l)
  obtain ⟨F, hF⟩ : ∃ F, fd nodeD 63 N I (leafD l) q = F := ⟨_, rfl⟩
  rw [hF] at HFd HRf h32
  clear hF hlen
  have hd6 : ((n2 : Int) != (n2 : Int)) = false := by simp
  have HZ := Lib.hid (row_dig (d := F) h32)
  have HY := Lib.hid (row_dig0 (d := F) h32)
  have HX := Lib.hid (rowB_one F)
  clear hn hP he hf hb1 hrl hQ hqr hr hi hq hi0
  go_enter Tryd.func4, Tryd.ntmps4
  go_upto_region 1 with fail
  refine gen_world (Q := fun w => Code.wp _ _ _ _ w) _ (WayAt w (wayV N I s1 s2 n1 n2 c1 c2)) ⟨(Below.refl _ _).alloc (Nat.le_refl _) _, heap_alloc_new _ _⟩ ?_
  intro w1 h1
  have H1 := Lib.hid h1
  clear h1
  go_upto_region 9 with (first
    | (go_at_call 9; refine (HF.out _ H1.out.below).mono ?_; rintro e w' ⟨rfl, q1, rfl⟩; have H2 := Lib.hid (H1.out.later (below_drewN (Below.refl _ _) q1)); have hc2 := H2.out.f2; have hc3 := H2.out.f3)
    | (go_at_call 17; refine (HPv.out _).mono ?_; rintro e w3 ⟨rfl, hb⟩; have H2 := Lib.hid (H2.out.later hb); clear hb))
  refine gen_world (Q := fun w => Code.wp _ _ _ _ w) _ (WayAt w (wayV N I s1 s2 n1 n2 c1 c2)) H2.out ?_
  intro w5 h5
  have H5 := Lib.hid h5
  have hc0 := h5.f0
  have hc1 := h5.f1
  have hc2 := h5.f2
  have hc3 := h5.f3
  clear h5 H2
  go_upto_region 10 with (first
    | (go_at_call 20; refine (HFd.out _ H5.out.below).mono ?_; rintro e w6 ⟨rfl, hb⟩; have H6 := Lib.hid (H5.out.later hb); clear hb)
    | (refine wpList_store_row rfl 24 (.tmp 9) (.tmp 68) rfl w6.heap.size (rowB F) rfl rfl 24 _ (heap_alloc_new _ _) HZ.out HY.out HX.out ?_))
  refine gen_world (Q := fun w => Code.wp _ _ _ _ w) _ (FdS w (wayV N I s1 s2 n1 n2 c1 c2) w6.heap.size F) (FdS.made H6.out _ _) ?_
  intro w7 h7
  obtain ⟨g, hg⟩ : ∃ g, w6.heap.size = g := ⟨_, rfl⟩
  rw [hg] at h7 ⊢
  have H7 := Lib.hid h7
  have hc0 := h7.way.f0
  have hc1 := h7.way.f1
  clear hg h7 H6
  have hd5 : decide ((I : Int) < 0) = false := decide_eq_false (by omega)
  have hd7 : decide ((N : Int) ≤ (I : Int)) = false := decide_eq_false (by omega)
  have hd7' : decide (N ≤ I) = false := decide_eq_false (by omega)
  go_upto_region 12 with fail
  have hw : ∀ W, Below w7.heap.size w7 W → FdS w (wayV N I s1 s2 n1 n2 c1 c2) g F W := fun W h => H7.out.later h
  refine wp_region_quiet_tail (C := fun W => Below w7.heap.size w7 W) 8 (by kernel_rfl) (by kernel_rfl) ⟨rfl, rfl, rfl, Nat.le_refl _, fun _ _ => rfl⟩ ?_
  simp only [List.take_succ_cons, List.take_zero, List.drop_succ_cons, List.drop_zero]
  refine q_val (.pointer (some ⟨w.heap.size, 3, none⟩)) rfl (fun W _ => exec_way_at (.tmp 5) 3 (by decide) rfl w.heap.size rfl) ?_
  simp only [Act.put, List.setIfInBounds_toArray, List.set_cons_succ, List.set_cons_zero]
  refine q_val (.slice s2 n2 c2) rfl (fun W hW => exec_load1 33 (.tmp 90) rfl ⟨w.heap.size, 3, none⟩ rfl _ ((hw W hW).way.f3) _ Tryd.underlying33 rfl) ?_
  simp only [Act.put, List.setIfInBounds_toArray, List.set_cons_succ, List.set_cons_zero]
  refine q_val (.int .i64 (n2 : Nat)) rfl (fun W _ => exec_lenD (.tmp 91) rfl s2 n2 c2 rfl) ?_
  simp only [Act.put, List.setIfInBounds_toArray, List.set_cons_succ, List.set_cons_zero]
  refine q_val (.pointer (some ⟨w.heap.size, 0, none⟩)) rfl (fun W _ => exec_way_at (.tmp 5) 0 (by decide) rfl w.heap.size rfl) ?_
  simp only [Act.put, List.setIfInBounds_toArray, List.set_cons_succ, List.set_cons_zero]
  refine q_val (.int .i64 (N : Nat)) rfl (fun W hW => exec_load1 3 (.tmp 93) rfl ⟨w.heap.size, 0, none⟩ rfl _ ((hw W hW).way.f0) _ Tryd.underlying3 rfl) ?_
  simp only [Act.put, List.setIfInBounds_toArray, List.set_cons_succ, List.set_cons_zero]
  refine q_val (.pointer (some ⟨w.heap.size, 1, none⟩)) rfl (fun W _ => exec_way_at (.tmp 5) 1 (by decide) rfl w.heap.size rfl) ?_
  simp only [Act.put, List.setIfInBounds_toArray, List.set_cons_succ, List.set_cons_zero]
  refine q_val (.int .i64 (I : Nat)) rfl (fun W hW => exec_load1 3 (.tmp 95) rfl ⟨w.heap.size, 1, none⟩ rfl _ ((hw W hW).way.f1) _ Tryd.underlying3 rfl) ?_
  simp only [Act.put, List.setIfInBounds_toArray, List.set_cons_succ, List.set_cons_zero]
  refine q_call 21 #[.int .i64 (N : Nat), .int .i64 (I : Nat)] (.int .i64 (n2 : Nat)) rfl (fun _ _ => exec_call2 21 (.tmp 94) (.tmp 96) #[3, 3] _ _ rfl rfl rfl (cfDeep _ _)) (fun W hW => (HDp.out W).mono fun e W' h => ⟨h.1, hW.trans (h.2.mono hW.size)⟩) ?_
  simp only [Act.put, List.setIfInBounds_toArray, List.set_cons_succ, List.set_cons_zero]
  refine wpQuiet_nil ?_
  intro w9 hw9
  have H7 := Lib.hid (H7.out.later hw9)
  clear hw9 hw hc0 hc1
  go_wp2
  have hw : ∀ W, Below w9.heap.size w9 W → FdS w (wayV N I s1 s2 n1 n2 c1 c2) g F W := fun W h => H7.out.later h
  refine wp_region_spec (C := fun W => Below w9.heap.size w9 W) (Le := fun w w' => Below w.heap.size w w') 18 (fun j _ v => v = ([.agg (rowB F), .pointer (some ⟨w.heap.size, 0, none⟩), .int .i64 (N : Nat), .pointer (some ⟨w.heap.size, 1, none⟩), .int .i64 (I : Nat), .pointer (some ⟨w.heap.size, 2, none⟩), .slice s1 n1 c1, .pointer (some ⟨w.heap.size, 3, none⟩), .slice s2 n2 c2, .agg (rowB F), .bool true, .bool true, .int .i64 0, .bool true, .bool true, .bool true, .bool true, .bool true] : List Value).getD j undef) (by kernel_rfl) (by kernel_rfl) ⟨rfl, rfl, rfl, Nat.le_refl _, fun _ _ => rfl⟩ (fun _ _ _ _ _ h => h) (fun j v => v = ([.agg (rowB F), .pointer (some ⟨w.heap.size, 0, none⟩), .int .i64 (N : Nat), .pointer (some ⟨w.heap.size, 1, none⟩), .int .i64 (I : Nat), .pointer (some ⟨w.heap.size, 2, none⟩), .slice s1 n1 c1, .pointer (some ⟨w.heap.size, 3, none⟩), .slice s2 n2 c2, .agg (rowB F), .bool true, .bool true, .int .i64 0, .bool true, .bool true, .bool true, .bool true, .bool true] : List Value).getD j undef) (fun _ _ _ h => h) (fun j => ([.agg (rowB F), .pointer (some ⟨w.heap.size, 0, none⟩), .int .i64 (N : Nat), .pointer (some ⟨w.heap.size, 1, none⟩), .int .i64 (I : Nat), .pointer (some ⟨w.heap.size, 2, none⟩), .slice s1 n1 c1, .pointer (some ⟨w.heap.size, 3, none⟩), .slice s2 n2 c2, .agg (rowB F), .bool true, .bool true, .int .i64 0, .bool true, .bool true, .bool true, .bool true, .bool true] : List Value).getD j undef) (fun _ => rfl) ?_ ?_
  · intro u hu
    have h0 : u 0 = .agg (rowB F) := hu 0
    have h1 : u 1 = .pointer (some ⟨w.heap.size, 0, none⟩) := hu 1
    have h2 : u 2 = .int .i64 (N : Nat) := hu 2
    have h3 : u 3 = .pointer (some ⟨w.heap.size, 1, none⟩) := hu 3
    have h4 : u 4 = .int .i64 (I : Nat) := hu 4
    have h5 : u 5 = .pointer (some ⟨w.heap.size, 2, none⟩) := hu 5
    have h6 : u 6 = .slice s1 n1 c1 := hu 6
    have h7 : u 7 = .pointer (some ⟨w.heap.size, 3, none⟩) := hu 7
    have h8 : u 8 = .slice s2 n2 c2 := hu 8
    have h9 : u 9 = .agg (rowB F) := hu 9
    have h10 : u 10 = .bool true := hu 10
    have h11 : u 11 = .bool true := hu 11
    have h12 : u 12 = .int .i64 0 := hu 12
    have h13 : u 13 = .bool true := hu 13
    have h14 : u 14 = .bool true := hu 14
    have h15 : u 15 = .bool true := hu 15
    have h16 : u 16 = .bool true := hu 16
    have h17 : u 17 = .bool true := hu 17
    clear hu
    simp only [List.take_succ_cons, List.take_zero]
    refine spec_cons (fun W hC hd => ⟨by rfl, ?_⟩) ?_
    · exact gives_val _ W (exec_load_row 24 (.tmp 9) rfl g rfl 24 (rowB F) (0, 0) _ ((hw W hC).dig) Tryd.underlying24 rfl HZ.out) ⟨hC, Below.refl _ _, rfl⟩
    simp only [Act.put, List.setIfInBounds_toArray, List.set_cons_succ, List.set_cons_zero, Nat.reduceAdd]
    rw [h0]
    refine spec_cons (fun W hC hd => ⟨by rfl, ?_⟩) ?_
    · exact gives_val _ W (exec_way_at (.tmp 5) 0 (by decide) rfl w.heap.size rfl) ⟨hC, Below.refl _ _, rfl⟩
    simp only [Act.put, List.setIfInBounds_toArray, List.set_cons_succ, List.set_cons_zero, Nat.reduceAdd]
    rw [h1]
    refine spec_cons (fun W hC hd => ⟨by rfl, ?_⟩) ?_
    · exact gives_val _ W (exec_load1 3 (.tmp 110) rfl ⟨w.heap.size, 0, none⟩ rfl _ ((hw W hC).way.f0) _ Tryd.underlying3 rfl) ⟨hC, Below.refl _ _, rfl⟩
    simp only [Act.put, List.setIfInBounds_toArray, List.set_cons_succ, List.set_cons_zero, Nat.reduceAdd]
    rw [h2]
    refine spec_cons (fun W hC hd => ⟨by rfl, ?_⟩) ?_
    · exact gives_val _ W (exec_way_at (.tmp 5) 1 (by decide) rfl w.heap.size rfl) ⟨hC, Below.refl _ _, rfl⟩
    simp only [Act.put, List.setIfInBounds_toArray, List.set_cons_succ, List.set_cons_zero, Nat.reduceAdd]
    rw [h3]
    refine spec_cons (fun W hC hd => ⟨by rfl, ?_⟩) ?_
    · exact gives_val _ W (exec_load1 3 (.tmp 112) rfl ⟨w.heap.size, 1, none⟩ rfl _ ((hw W hC).way.f1) _ Tryd.underlying3 rfl) ⟨hC, Below.refl _ _, rfl⟩
    simp only [Act.put, List.setIfInBounds_toArray, List.set_cons_succ, List.set_cons_zero, Nat.reduceAdd]
    rw [h4]
    refine spec_cons (fun W hC hd => ⟨by rfl, ?_⟩) ?_
    · exact gives_val _ W (exec_way_at (.tmp 5) 2 (by decide) rfl w.heap.size rfl) ⟨hC, Below.refl _ _, rfl⟩
    simp only [Act.put, List.setIfInBounds_toArray, List.set_cons_succ, List.set_cons_zero, Nat.reduceAdd]
    rw [h5]
    refine spec_cons (fun W hC hd => ⟨by rfl, ?_⟩) ?_
    · exact gives_val _ W (exec_load1 28 (.tmp 114) rfl ⟨w.heap.size, 2, none⟩ rfl _ ((hw W hC).way.f2) _ Tryd.underlying28 rfl) ⟨hC, Below.refl _ _, rfl⟩
    simp only [Act.put, List.setIfInBounds_toArray, List.set_cons_succ, List.set_cons_zero, Nat.reduceAdd]
    rw [h6]
    refine spec_cons (fun W hC hd => ⟨by rfl, ?_⟩) ?_
    · exact gives_val _ W (exec_way_at (.tmp 5) 3 (by decide) rfl w.heap.size rfl) ⟨hC, Below.refl _ _, rfl⟩
    simp only [Act.put, List.setIfInBounds_toArray, List.set_cons_succ, List.set_cons_zero, Nat.reduceAdd]
    rw [h7]
    refine spec_cons (fun W hC hd => ⟨by rfl, ?_⟩) ?_
    · exact gives_val _ W (exec_load1 33 (.tmp 116) rfl ⟨w.heap.size, 3, none⟩ rfl _ ((hw W hC).way.f3) _ Tryd.underlying33 rfl) ⟨hC, Below.refl _ _, rfl⟩
    simp only [Act.put, List.setIfInBounds_toArray, List.set_cons_succ, List.set_cons_zero, Nat.reduceAdd]
    rw [h8]
    refine spec_cons (fun W hC hd => ⟨by rfl, ?_⟩) ?_
    · exact gives_call _ _ (exec_call4 22 (.tmp 111) (.tmp 113) (.tmp 115) (.tmp 117) #[3, 3, 28, 33] _ _ _ _ rfl rfl rfl rfl rfl (cfRefFold _ _)) (((fun W hC => HRf.out W (hw W hC).way.below) W hC).mono fun e W' h => ⟨_, h.1, hC.trans (h.2.mono hC.size), h.2, rfl⟩)
    simp only [Act.put, List.setIfInBounds_toArray, List.set_cons_succ, List.set_cons_zero, Nat.reduceAdd]
    rw [h9]
    refine spec_cons (fun W hC hd => ⟨by rfl, ?_⟩) ?_
    · exact gives_val _ W (exec_eqD (.tmp 109) (.tmp 118) rfl F F rfl rfl h32 h32) ⟨hC, Below.refl _ _, by simp⟩
    simp only [Act.put, List.setIfInBounds_toArray, List.set_cons_succ, List.set_cons_zero, Nat.reduceAdd]
    rw [h10]
    refine spec_cons (fun W hC hd => ⟨by rfl, ?_⟩) ?_
    · exact gives_val _ W (rfl) ⟨hC, Below.refl _ _, rfl⟩
    simp only [Act.put, List.setIfInBounds_toArray, List.set_cons_succ, List.set_cons_zero, Nat.reduceAdd]
    rw [h11]
    refine spec_cons (fun W hC hd => ⟨by rfl, ?_⟩) ?_
    · exact gives_val _ W (rfl) ⟨hC, Below.refl _ _, rfl⟩
    simp only [Act.put, List.setIfInBounds_toArray, List.set_cons_succ, List.set_cons_zero, Nat.reduceAdd]
    rw [h12]
    refine spec_cons (fun W hC hd => ⟨by rfl, ?_⟩) ?_
    · exact gives_val _ W (rfl) ⟨hC, Below.refl _ _, rfl⟩
    simp only [Act.put, List.setIfInBounds_toArray, List.set_cons_succ, List.set_cons_zero, Nat.reduceAdd]
    rw [h13]
    refine spec_cons (fun W hC hd => ⟨by rfl, ?_⟩) ?_
    · exact gives_val _ W (rfl) ⟨hC, Below.refl _ _, rfl⟩
    simp only [Act.put, List.setIfInBounds_toArray, List.set_cons_succ, List.set_cons_zero, Nat.reduceAdd]
    rw [h14]
    refine spec_cons (fun W hC hd => ⟨by rfl, ?_⟩) ?_
    · exact gives_val _ W (rfl) ⟨hC, Below.refl _ _, rfl⟩
    simp only [Act.put, List.setIfInBounds_toArray, List.set_cons_succ, List.set_cons_zero, Nat.reduceAdd]
    rw [h15]
    refine spec_cons (fun W hC hd => ⟨by rfl, ?_⟩) ?_
    · exact gives_call _ _ (exec_call0 10 #[] rfl (cfAwake _ _)) (((fun W hC => awake_any W (HE.out.below (hw W hC).way.below)) W hC).mono fun e W' h => ⟨_, h.1, hC.trans (h.2.mono hC.size), h.2, rfl⟩)
    simp only [Act.put, List.setIfInBounds_toArray, List.set_cons_succ, List.set_cons_zero, Nat.reduceAdd]
    rw [h16]
    refine spec_cons (fun W hC hd => ⟨by rfl, ?_⟩) ?_
    · exact gives_val _ W (rfl) ⟨hC, Below.refl _ _, rfl⟩
    simp only [Act.put, List.setIfInBounds_toArray, List.set_cons_succ, List.set_cons_zero, Nat.reduceAdd]
    rw [h17]
    exact spec_nil
  · intro u W hu hC hF
    have h0 : u 0 = .agg (rowB F) := hu 0
    have h1 : u 1 = .pointer (some ⟨w.heap.size, 0, none⟩) := hu 1
    have h2 : u 2 = .int .i64 (N : Nat) := hu 2
    have h3 : u 3 = .pointer (some ⟨w.heap.size, 1, none⟩) := hu 3
    have h4 : u 4 = .int .i64 (I : Nat) := hu 4
    have h5 : u 5 = .pointer (some ⟨w.heap.size, 2, none⟩) := hu 5
    have h6 : u 6 = .slice s1 n1 c1 := hu 6
    have h7 : u 7 = .pointer (some ⟨w.heap.size, 3, none⟩) := hu 7
    have h8 : u 8 = .slice s2 n2 c2 := hu 8
    have h9 : u 9 = .agg (rowB F) := hu 9
    have h10 : u 10 = .bool true := hu 10
    have h11 : u 11 = .bool true := hu 11
    have h12 : u 12 = .int .i64 0 := hu 12
    have h13 : u 13 = .bool true := hu 13
    have h14 : u 14 = .bool true := hu 14
    have h15 : u 15 = .bool true := hu 15
    have h16 : u 16 = .bool true := hu 16
    have h17 : u 17 = .bool true := hu 17
    simp only [List.take_succ_cons, List.take_zero, List.drop_succ_cons, List.drop_zero, putAll, Act.put, List.setIfInBounds_toArray, List.set_cons_succ, List.set_cons_zero, Nat.reduceAdd]
    rw [h0, h1, h2, h3, h4, h5, h6, h7, h8, h9, h10, h11, h12, h13, h14, h15, h16, h17]
    have H8 := Lib.hid (H7.out.later hC)
    clear hu hC hF hw HRf h0 h1 h2 h3 h4 h5 h6 h7 h8 h9 h10 h11 h12 h13 h14 h15 h16 h17
    go_wp2
    go_ret
    exact ⟨rfl, H8.out.way.below⟩
set_option maxRecDepth 100000 in
set_option maxHeartbeats 4000000 in
theorem proves_yes_no (w : World) (i : Nat) (N I : Int) (sp s1 s2 : Option Addr) (n cap n1 n2 c1 c2 : Nat) (ls : List (List Int)) (hn : ls.length = n) (hP : Pcs w sp cap ls) (he : Env w) (hf : few ls = true) (h100 : n1 ≤ 100) (h70 : n2 ≤ 70) (l : List Int) (q : List (List Int)) (hl1 : l.length = n1) (_ : Byt w s1 c1 l) (_ : rng l) (hq : q.length = n2) (_ : Digs w s2 c2 q) (_ : ∀ d ∈ q, rng d) (hr : ∀ l ∈ ls, rng l) (hi : i < n) (hI : ¬ (0 ≤ I ∧ I < N)) :
    Calls Tryd.prog 4 #[.slice sp n cap, .int .i64 i, .agg #[.int .i64 N, .int .i64 I, .slice s1 n1 c1, .slice s2 n2 c2]] w fun e w' => e = .returned (.bool true) ∧ Below w.heap.size w w' := by
  have HE := Lib.hid he
  have HF := Lib.hid (fun W (hb : Below w.heap.size w W) => few_any W sp n cap ls hn (hP.below hb))
  rw [hf] at HF
  have hd1 : decide ((100 : Int) < (n1 : Int)) = false := decide_eq_false (by omega)
  have hd2 : decide ((70 : Int) < (n2 : Int)) = false := decide_eq_false (by omega)
  have hn20 : n ≤ 20 := by rw [← hn]; exact (few_yes hf).2
  have HM : Hid (Mild ls) := few_mild hf
  have HS : Hid (Smal ls) := few_smal hf hr
  have hd3 : decide ((i : Int) < 0) = false := decide_eq_false (by omega)
  have hd4 : decide ((n : Int) ≤ (i : Int)) = false := decide_eq_false (by omega)
  have hd4' : decide (n ≤ i) = false := decide_eq_false (by omega)
  have HPv := Lib.hid (fun W (hb : Below w.heap.size w W) => prove_yes i W sp n cap ls hn (hP.below hb) (HE.out.below hb) HM.out hi)
  have HRp := Lib.hid (fun W (hb : Below w.heap.size w W) => refProve_any block_any W i sp n cap ls hn (hP.below hb) HS.out hi)
  obtain ⟨P, hPp⟩ : ∃ P, proofD i ls = P := ⟨_, rfl⟩
  rw [hPp] at HPv HRp
  obtain ⟨L, hLl⟩ : ∃ L, P.length = L := ⟨_, rfl⟩
  rw [hLl] at HPv HRp
  have HDg := Lib.hid (fun W (s s' : Option Addr) (c c' : Nat) (h : Digs W s c P) (h' : Digs W s' c' P) => digests_any W s s' L L c c' P P hLl hLl h h')
  rw [show decide (P = P) = true by simp] at HDg
  clear hPp hLl
  have HFd := Lib.hid (fun W (_ : Below w.heap.size w W) => fold_no I N W s1 s2 n1 n2 c1 c2 hI)
  have HZ := Lib.hid (row_dig (d := (zs 32)) rfl)
  have HY := Lib.hid (row_dig0 (d := (zs 32)) rfl)
  have HX := Lib.hid (rowB_one (zs 32))
  have eR : ∀ W : World, (binOp .eql 24 (.agg (rowB (zs 32))) (.agg (rowB (zs 32)))).run Tryd.prog W = .ok (.bool true) W := fun W => by
    rw [run_eql_row (P := Tryd.prog) 24 5 32 .u8 Tryd.underlying24 Tryd.underlying5 size5 (zs 32) (zs 32) rfl rfl W]
    simp
  clear hn hP he hf hr hi hq
  go_enter Tryd.func4, Tryd.ntmps4
  go_upto_region 1 with fail
  refine gen_world (Q := fun w => Code.wp _ _ _ _ w) _ (WayAt w (wayV N I s1 s2 n1 n2 c1 c2)) ⟨(Below.refl _ _).alloc (Nat.le_refl _) _, heap_alloc_new _ _⟩ ?_
  intro w1 h1
  have H1 := Lib.hid h1
  clear h1
  go_upto_region 9 with (first
    | (go_at_call 9; refine (HF.out _ H1.out.below).mono ?_; rintro e w' ⟨rfl, q1, rfl⟩; have H2 := Lib.hid (H1.out.later (below_drewN (Below.refl _ _) q1)); have hc2 := H2.out.f2; have hc3 := H2.out.f3)
    | (go_at_call 17; refine (HPv.out _ H2.out.below).mono ?_; rintro e w3 ⟨sp1, cp1, rfl, hd, hb⟩; have HD1 := Lib.hid hd; have H2 := Lib.hid (H2.out.later hb); clear hd hb)
    | (go_at_call 19; refine (HRp.out _ H2.out.below).mono ?_; rintro e w4 ⟨sp2, cp2, rfl, hd, hb⟩; have HD2 := Lib.hid hd; have HD1 := Lib.hid (HD1.out.below hb); have H2 := Lib.hid (H2.out.later hb); clear hd hb)
    | (go_at_call 18; refine (HDg.out _ _ _ _ _ HD1.out HD2.out).mono ?_; rintro e w' ⟨rfl, q2, rfl⟩; have H2 := Lib.hid (H2.out.later (below_drewN (Below.refl _ _) q2)); clear HD1 HD2))
  refine gen_world (Q := fun w => Code.wp _ _ _ _ w) _ (WayAt w (wayV N I s1 s2 n1 n2 c1 c2)) H2.out ?_
  intro w5 h5
  have H5 := Lib.hid h5
  have hc0 := h5.f0
  have hc1 := h5.f1
  have hc2 := h5.f2
  have hc3 := h5.f3
  clear h5 H2
  go_upto_region 10 with (first
    | (go_at_call 20; refine (HFd.out _ H5.out.below).mono ?_; rintro e w6 ⟨rfl, hb⟩; have H6 := Lib.hid (H5.out.later hb); clear hb)
    | (refine wpList_store_row rfl 24 (.tmp 9) (.tmp 68) rfl w6.heap.size (rowB (zs 32)) rfl rfl 24 _ (heap_alloc_new _ _) HZ.out HY.out HX.out ?_))
  refine gen_world (Q := fun w => Code.wp _ _ _ _ w) _ (FdS w (wayV N I s1 s2 n1 n2 c1 c2) w6.heap.size (zs 32)) (FdS.made H6.out _ _) ?_
  intro w7 h7
  obtain ⟨g, hg⟩ : ∃ g, w6.heap.size = g := ⟨_, rfl⟩
  rw [hg] at h7 ⊢
  have H7 := Lib.hid h7
  have hc0 := h7.way.f0
  have hc1 := h7.way.f1
  clear hg h7 H6
  by_cases hI0 : I < 0
  · have hd5 : decide (I < 0) = true := decide_eq_true (by omega)
    go_wp2_with (first
      | (refine wpList_load_row rfl 24 (.tmp 9) rfl g rfl 24 (rowB (zs 32)) (0, 0) _ H7.out.dig Tryd.underlying24 rfl HZ.out ?_)
      | (refine wpList_val rfl (.agg (rowB (zs 32))) (exec_built 24 #[] rfl (rowB (zs 32)) (by kernel_rfl)) ?_)
      | (go_at_call 10; refine (awake_any _ (HE.out.below H7.out.way.below)).mono ?_; rintro e w8 ⟨rfl, hb⟩; have H8 := Lib.hid (H7.out.later hb)))
    go_ret
    exact ⟨rfl, H8.out.way.below⟩
  · have hd5 : decide (I < 0) = false := decide_eq_false (by omega)
    have hd6 : decide (N ≤ I) = true := decide_eq_true (by omega)
    go_wp2_with (first
      | (refine wpList_load_row rfl 24 (.tmp 9) rfl g rfl 24 (rowB (zs 32)) (0, 0) _ H7.out.dig Tryd.underlying24 rfl HZ.out ?_)
      | (refine wpList_val rfl (.agg (rowB (zs 32))) (exec_built 24 #[] rfl (rowB (zs 32)) (by kernel_rfl)) ?_)
      | (go_at_call 10; refine (awake_any _ (HE.out.below H7.out.way.below)).mono ?_; rintro e w8 ⟨rfl, hb⟩; have H8 := Lib.hid (H7.out.later hb)))
    go_ret
    exact ⟨rfl, H8.out.way.below⟩
set_option maxRecDepth 100000 in
set_option maxHeartbeats 4000000 in
theorem proves_yes_len (w : World) (i : Nat) (N I : Nat) (sp s1 s2 : Option Addr) (n cap n1 n2 c1 c2 : Nat) (ls : List (List Int)) (hn : ls.length = n) (hP : Pcs w sp cap ls) (he : Env w) (hf : few ls = true) (h100 : n1 ≤ 100) (h70 : n2 ≤ 70) (l : List Int) (q : List (List Int)) (hl1 : l.length = n1) (_ : Byt w s1 c1 l) (_ : rng l) (hq : q.length = n2) (_ : Digs w s2 c2 q) (_ : ∀ d ∈ q, rng d) (hr : ∀ l ∈ ls, rng l) (hi : i < n) (hI : I < N) (hN : N ≤ 9223372036854775807) (hlen : n2 ≠ dp 63 N I) :
    Calls Tryd.prog 4 #[.slice sp n cap, .int .i64 i, .agg #[.int .i64 N, .int .i64 I, .slice s1 n1 c1, .slice s2 n2 c2]] w fun e w' => e = .returned (.bool true) ∧ Below w.heap.size w w' := by
  have HE := Lib.hid he
  have HF := Lib.hid (fun W (hb : Below w.heap.size w W) => few_any W sp n cap ls hn (hP.below hb))
  rw [hf] at HF
  have hd1 : decide ((100 : Int) < (n1 : Int)) = false := decide_eq_false (by omega)
  have hd2 : decide ((70 : Int) < (n2 : Int)) = false := decide_eq_false (by omega)
  have hn20 : n ≤ 20 := by rw [← hn]; exact (few_yes hf).2
  have HM : Hid (Mild ls) := few_mild hf
  have HS : Hid (Smal ls) := few_smal hf hr
  have hd3 : decide ((i : Int) < 0) = false := decide_eq_false (by omega)
  have hd4 : decide ((n : Int) ≤ (i : Int)) = false := decide_eq_false (by omega)
  have hd4' : decide (n ≤ i) = false := decide_eq_false (by omega)
  have HPv := Lib.hid (fun W (hb : Below w.heap.size w W) => prove_yes i W sp n cap ls hn (hP.below hb) (HE.out.below hb) HM.out hi)
  have HRp := Lib.hid (fun W (hb : Below w.heap.size w W) => refProve_any block_any W i sp n cap ls hn (hP.below hb) HS.out hi)
  obtain ⟨P, hPp⟩ : ∃ P, proofD i ls = P := ⟨_, rfl⟩
  rw [hPp] at HPv HRp
  obtain ⟨L, hLl⟩ : ∃ L, P.length = L := ⟨_, rfl⟩
  rw [hLl] at HPv HRp
  have HDg := Lib.hid (fun W (s s' : Option Addr) (c c' : Nat) (h : Digs W s c P) (h' : Digs W s' c' P) => digests_any W s s' L L c c' P P hLl hLl h h')
  rw [show decide (P = P) = true by simp] at HDg
  clear hPp hLl
  have HDp := Lib.hid (fun W => deep_any N I W hI hN)
  have HFd := Lib.hid (fun W (_ : Below w.heap.size w W) => fold_len I N W s1 s2 n1 n2 c1 c2 hI hN (by rw [← dp_wy 63 N I hI (by omega)]; exact hlen))
  obtain ⟨dd, hdd⟩ : ∃ d, dp 63 N I = d := ⟨_, rfl⟩
  rw [hdd] at HDp hlen
  clear hdd
  have hd6 : ((n2 : Int) != (dd : Int)) = true := by simp; omega
  have HZ := Lib.hid (row_dig (d := (zs 32)) rfl)
  have HY := Lib.hid (row_dig0 (d := (zs 32)) rfl)
  have HX := Lib.hid (rowB_one (zs 32))
  have eR : ∀ W : World, (binOp .eql 24 (.agg (rowB (zs 32))) (.agg (rowB (zs 32)))).run Tryd.prog W = .ok (.bool true) W := fun W => by
    rw [run_eql_row (P := Tryd.prog) 24 5 32 .u8 Tryd.underlying24 Tryd.underlying5 size5 (zs 32) (zs 32) rfl rfl W]
    simp
  clear hn hP he hf hr hi hq
  go_enter Tryd.func4, Tryd.ntmps4
  go_upto_region 1 with fail
  refine gen_world (Q := fun w => Code.wp _ _ _ _ w) _ (WayAt w (wayV N I s1 s2 n1 n2 c1 c2)) ⟨(Below.refl _ _).alloc (Nat.le_refl _) _, heap_alloc_new _ _⟩ ?_
  intro w1 h1
  have H1 := Lib.hid h1
  clear h1
  go_upto_region 9 with (first
    | (go_at_call 9; refine (HF.out _ H1.out.below).mono ?_; rintro e w' ⟨rfl, q1, rfl⟩; have H2 := Lib.hid (H1.out.later (below_drewN (Below.refl _ _) q1)); have hc2 := H2.out.f2; have hc3 := H2.out.f3)
    | (go_at_call 17; refine (HPv.out _ H2.out.below).mono ?_; rintro e w3 ⟨sp1, cp1, rfl, hd, hb⟩; have HD1 := Lib.hid hd; have H2 := Lib.hid (H2.out.later hb); clear hd hb)
    | (go_at_call 19; refine (HRp.out _ H2.out.below).mono ?_; rintro e w4 ⟨sp2, cp2, rfl, hd, hb⟩; have HD2 := Lib.hid hd; have HD1 := Lib.hid (HD1.out.below hb); have H2 := Lib.hid (H2.out.later hb); clear hd hb)
    | (go_at_call 18; refine (HDg.out _ _ _ _ _ HD1.out HD2.out).mono ?_; rintro e w' ⟨rfl, q2, rfl⟩; have H2 := Lib.hid (H2.out.later (below_drewN (Below.refl _ _) q2)); clear HD1 HD2))
  refine gen_world (Q := fun w => Code.wp _ _ _ _ w) _ (WayAt w (wayV N I s1 s2 n1 n2 c1 c2)) H2.out ?_
  intro w5 h5
  have H5 := Lib.hid h5
  have hc0 := h5.f0
  have hc1 := h5.f1
  have hc2 := h5.f2
  have hc3 := h5.f3
  clear h5 H2
  go_upto_region 10 with (first
    | (go_at_call 20; refine (HFd.out _ H5.out.below).mono ?_; rintro e w6 ⟨rfl, hb⟩; have H6 := Lib.hid (H5.out.later hb); clear hb)
    | (refine wpList_store_row rfl 24 (.tmp 9) (.tmp 68) rfl w6.heap.size (rowB (zs 32)) rfl rfl 24 _ (heap_alloc_new _ _) HZ.out HY.out HX.out ?_))
  refine gen_world (Q := fun w => Code.wp _ _ _ _ w) _ (FdS w (wayV N I s1 s2 n1 n2 c1 c2) w6.heap.size (zs 32)) (FdS.made H6.out _ _) ?_
  intro w7 h7
  obtain ⟨g, hg⟩ : ∃ g, w6.heap.size = g := ⟨_, rfl⟩
  rw [hg] at h7 ⊢
  have H7 := Lib.hid h7
  have hc0 := h7.way.f0
  have hc1 := h7.way.f1
  clear hg h7 H6
  have hd5 : decide ((I : Int) < 0) = false := decide_eq_false (by omega)
  have hd7 : decide ((N : Int) ≤ (I : Int)) = false := decide_eq_false (by omega)
  have hd7' : decide (N ≤ I) = false := decide_eq_false (by omega)
  go_upto_region 12 with fail
  have hw : ∀ W, Below w7.heap.size w7 W → FdS w (wayV N I s1 s2 n1 n2 c1 c2) g (zs 32) W := fun W h => H7.out.later h
  refine wp_region_quiet_tail (C := fun W => Below w7.heap.size w7 W) 8 (by kernel_rfl) (by kernel_rfl) ⟨rfl, rfl, rfl, Nat.le_refl _, fun _ _ => rfl⟩ ?_
  simp only [List.take_succ_cons, List.take_zero, List.drop_succ_cons, List.drop_zero]
  refine q_val (.pointer (some ⟨w.heap.size, 3, none⟩)) rfl (fun W _ => exec_way_at (.tmp 5) 3 (by decide) rfl w.heap.size rfl) ?_
  simp only [Act.put, List.setIfInBounds_toArray, List.set_cons_succ, List.set_cons_zero]
  refine q_val (.slice s2 n2 c2) rfl (fun W hW => exec_load1 33 (.tmp 90) rfl ⟨w.heap.size, 3, none⟩ rfl _ ((hw W hW).way.f3) _ Tryd.underlying33 rfl) ?_
  simp only [Act.put, List.setIfInBounds_toArray, List.set_cons_succ, List.set_cons_zero]
  refine q_val (.int .i64 (n2 : Nat)) rfl (fun W _ => exec_lenD (.tmp 91) rfl s2 n2 c2 rfl) ?_
  simp only [Act.put, List.setIfInBounds_toArray, List.set_cons_succ, List.set_cons_zero]
  refine q_val (.pointer (some ⟨w.heap.size, 0, none⟩)) rfl (fun W _ => exec_way_at (.tmp 5) 0 (by decide) rfl w.heap.size rfl) ?_
  simp only [Act.put, List.setIfInBounds_toArray, List.set_cons_succ, List.set_cons_zero]
  refine q_val (.int .i64 (N : Nat)) rfl (fun W hW => exec_load1 3 (.tmp 93) rfl ⟨w.heap.size, 0, none⟩ rfl _ ((hw W hW).way.f0) _ Tryd.underlying3 rfl) ?_
  simp only [Act.put, List.setIfInBounds_toArray, List.set_cons_succ, List.set_cons_zero]
  refine q_val (.pointer (some ⟨w.heap.size, 1, none⟩)) rfl (fun W _ => exec_way_at (.tmp 5) 1 (by decide) rfl w.heap.size rfl) ?_
  simp only [Act.put, List.setIfInBounds_toArray, List.set_cons_succ, List.set_cons_zero]
  refine q_val (.int .i64 (I : Nat)) rfl (fun W hW => exec_load1 3 (.tmp 95) rfl ⟨w.heap.size, 1, none⟩ rfl _ ((hw W hW).way.f1) _ Tryd.underlying3 rfl) ?_
  simp only [Act.put, List.setIfInBounds_toArray, List.set_cons_succ, List.set_cons_zero]
  refine q_call 21 #[.int .i64 (N : Nat), .int .i64 (I : Nat)] (.int .i64 (dd : Nat)) rfl (fun _ _ => exec_call2 21 (.tmp 94) (.tmp 96) #[3, 3] _ _ rfl rfl rfl (cfDeep _ _)) (fun W hW => (HDp.out W).mono fun e W' h => ⟨h.1, hW.trans (h.2.mono hW.size)⟩) ?_
  simp only [Act.put, List.setIfInBounds_toArray, List.set_cons_succ, List.set_cons_zero]
  refine wpQuiet_nil ?_
  intro w9 hw9
  have H7 := Lib.hid (H7.out.later hw9)
  clear hw9 hw hc0 hc1
  go_wp2_with (first
    | (refine wpList_load_row rfl 24 (.tmp 9) rfl g rfl 24 (rowB (zs 32)) (0, 0) _ H7.out.dig Tryd.underlying24 rfl HZ.out ?_)
    | (refine wpList_val rfl (.agg (rowB (zs 32))) (exec_built 24 #[] rfl (rowB (zs 32)) (by kernel_rfl)) ?_)
    | (go_at_call 10; refine (awake_any _ (HE.out.below H7.out.way.below)).mono ?_; rintro e w8 ⟨rfl, hb⟩; have H8 := Lib.hid (H7.out.later hb)))
  go_ret
  exact ⟨rfl, H8.out.way.below⟩
set_option maxRecDepth 100000 in
set_option maxHeartbeats 4000000 in
theorem proves_yes_ok (w : World) (i : Nat) (N I : Nat) (sp s1 s2 : Option Addr) (n cap n1 n2 c1 c2 : Nat) (ls : List (List Int)) (hn : ls.length = n) (hP : Pcs w sp cap ls) (he : Env w) (hf : few ls = true) (h100 : n1 ≤ 100) (h70 : n2 ≤ 70) (l : List Int) (q : List (List Int)) (hl1 : l.length = n1) (hb1 : Byt w s1 c1 l) (hrl : rng l) (hq : q.length = n2) (hQ : Digs w s2 c2 q) (hqr : ∀ d ∈ q, rng d) (hr : ∀ l ∈ ls, rng l) (hi : i < n) (hI : I < N) (hN : N ≤ 9223372036854775807) (hlen : n2 = dp 63 N I) :
    Calls Tryd.prog 4 #[.slice sp n cap, .int .i64 i, .agg #[.int .i64 N, .int .i64 I, .slice s1 n1 c1, .slice s2 n2 c2]] w fun e w' => e = .returned (.bool true) ∧ Below w.heap.size w w' := by
  have HE := Lib.hid he
  have HF := Lib.hid (fun W (hb : Below w.heap.size w W) => few_any W sp n cap ls hn (hP.below hb))
  rw [hf] at HF
  have hd1 : decide ((100 : Int) < (n1 : Int)) = false := decide_eq_false (by omega)
  have hd2 : decide ((70 : Int) < (n2 : Int)) = false := decide_eq_false (by omega)
  have hn20 : n ≤ 20 := by rw [← hn]; exact (few_yes hf).2
  have HM : Hid (Mild ls) := few_mild hf
  have HS : Hid (Smal ls) := few_smal hf hr
  have hd3 : decide ((i : Int) < 0) = false := decide_eq_false (by omega)
  have hd4 : decide ((n : Int) ≤ (i : Int)) = false := decide_eq_false (by omega)
  have hd4' : decide (n ≤ i) = false := decide_eq_false (by omega)
  have HPv := Lib.hid (fun W (hb : Below w.heap.size w W) => prove_yes i W sp n cap ls hn (hP.below hb) (HE.out.below hb) HM.out hi)
  have HRp := Lib.hid (fun W (hb : Below w.heap.size w W) => refProve_any block_any W i sp n cap ls hn (hP.below hb) HS.out hi)
  obtain ⟨P, hPp⟩ : ∃ P, proofD i ls = P := ⟨_, rfl⟩
  rw [hPp] at HPv HRp
  obtain ⟨L, hLl⟩ : ∃ L, P.length = L := ⟨_, rfl⟩
  rw [hLl] at HPv HRp
  have HDg := Lib.hid (fun W (s s' : Option Addr) (c c' : Nat) (h : Digs W s c P) (h' : Digs W s' c' P) => digests_any W s s' L L c c' P P hLl hLl h h')
  rw [show decide (P = P) = true by simp] at HDg
  clear hPp hLl
  have HDp := Lib.hid (fun W => deep_any N I W hI hN)
  rw [← hlen] at HDp
  have HFd := Lib.hid (fun W (hb : Below w.heap.size w W) => fold_any I N W s1 s2 n1 n2 c1 c2 l q hI hN hl1 (hb1.below hb) (by omega) hq (hQ.below hb) (HE.out.below hb) hlen)
  have HRf := Lib.hid (fun W (hb : Below w.heap.size w W) => refFold_any block_any W s1 n1 c1 l hl1 (hb1.below hb) h100 hrl N I n2 s2 c2 q hI hN hq hlen (hQ.below hb) hqr)
  have h32 := fd_32 63 N I (leafD l) q (leafD_length l)
  obtain ⟨F, hF⟩ : ∃ F, fd nodeD 63 N I (leafD l) q = F := ⟨_, rfl⟩
  rw [hF] at HFd HRf h32
  clear hF hlen
  have hd6 : ((n2 : Int) != (n2 : Int)) = false := by simp
  have HZ := Lib.hid (row_dig (d := F) h32)
  have HY := Lib.hid (row_dig0 (d := F) h32)
  have HX := Lib.hid (rowB_one F)
  clear hn hP he hf hb1 hrl hQ hqr hr hi hq
  go_enter Tryd.func4, Tryd.ntmps4
  go_upto_region 1 with fail
  refine gen_world (Q := fun w => Code.wp _ _ _ _ w) _ (WayAt w (wayV N I s1 s2 n1 n2 c1 c2)) ⟨(Below.refl _ _).alloc (Nat.le_refl _) _, heap_alloc_new _ _⟩ ?_
  intro w1 h1
  have H1 := Lib.hid h1
  clear h1
  go_upto_region 9 with (first
    | (go_at_call 9; refine (HF.out _ H1.out.below).mono ?_; rintro e w' ⟨rfl, q1, rfl⟩; have H2 := Lib.hid (H1.out.later (below_drewN (Below.refl _ _) q1)); have hc2 := H2.out.f2; have hc3 := H2.out.f3)
    | (go_at_call 17; refine (HPv.out _ H2.out.below).mono ?_; rintro e w3 ⟨sp1, cp1, rfl, hd, hb⟩; have HD1 := Lib.hid hd; have H2 := Lib.hid (H2.out.later hb); clear hd hb)
    | (go_at_call 19; refine (HRp.out _ H2.out.below).mono ?_; rintro e w4 ⟨sp2, cp2, rfl, hd, hb⟩; have HD2 := Lib.hid hd; have HD1 := Lib.hid (HD1.out.below hb); have H2 := Lib.hid (H2.out.later hb); clear hd hb)
    | (go_at_call 18; refine (HDg.out _ _ _ _ _ HD1.out HD2.out).mono ?_; rintro e w' ⟨rfl, q2, rfl⟩; have H2 := Lib.hid (H2.out.later (below_drewN (Below.refl _ _) q2)); clear HD1 HD2))
  refine gen_world (Q := fun w => Code.wp _ _ _ _ w) _ (WayAt w (wayV N I s1 s2 n1 n2 c1 c2)) H2.out ?_
  intro w5 h5
  have H5 := Lib.hid h5
  have hc0 := h5.f0
  have hc1 := h5.f1
  have hc2 := h5.f2
  have hc3 := h5.f3
  clear h5 H2
  go_upto_region 10 with (first
    | (go_at_call 20; refine (HFd.out _ H5.out.below).mono ?_; rintro e w6 ⟨rfl, hb⟩; have H6 := Lib.hid (H5.out.later hb); clear hb)
    | (refine wpList_store_row rfl 24 (.tmp 9) (.tmp 68) rfl w6.heap.size (rowB F) rfl rfl 24 _ (heap_alloc_new _ _) HZ.out HY.out HX.out ?_))
  refine gen_world (Q := fun w => Code.wp _ _ _ _ w) _ (FdS w (wayV N I s1 s2 n1 n2 c1 c2) w6.heap.size F) (FdS.made H6.out _ _) ?_
  intro w7 h7
  obtain ⟨g, hg⟩ : ∃ g, w6.heap.size = g := ⟨_, rfl⟩
  rw [hg] at h7 ⊢
  have H7 := Lib.hid h7
  have hc0 := h7.way.f0
  have hc1 := h7.way.f1
  clear hg h7 H6
  have hd5 : decide ((I : Int) < 0) = false := decide_eq_false (by omega)
  have hd7 : decide ((N : Int) ≤ (I : Int)) = false := decide_eq_false (by omega)
  have hd7' : decide (N ≤ I) = false := decide_eq_false (by omega)
  go_upto_region 12 with fail
  have hw : ∀ W, Below w7.heap.size w7 W → FdS w (wayV N I s1 s2 n1 n2 c1 c2) g F W := fun W h => H7.out.later h
  refine wp_region_quiet_tail (C := fun W => Below w7.heap.size w7 W) 8 (by kernel_rfl) (by kernel_rfl) ⟨rfl, rfl, rfl, Nat.le_refl _, fun _ _ => rfl⟩ ?_
  simp only [List.take_succ_cons, List.take_zero, List.drop_succ_cons, List.drop_zero]
  refine q_val (.pointer (some ⟨w.heap.size, 3, none⟩)) rfl (fun W _ => exec_way_at (.tmp 5) 3 (by decide) rfl w.heap.size rfl) ?_
  simp only [Act.put, List.setIfInBounds_toArray, List.set_cons_succ, List.set_cons_zero]
  refine q_val (.slice s2 n2 c2) rfl (fun W hW => exec_load1 33 (.tmp 90) rfl ⟨w.heap.size, 3, none⟩ rfl _ ((hw W hW).way.f3) _ Tryd.underlying33 rfl) ?_
  simp only [Act.put, List.setIfInBounds_toArray, List.set_cons_succ, List.set_cons_zero]
  refine q_val (.int .i64 (n2 : Nat)) rfl (fun W _ => exec_lenD (.tmp 91) rfl s2 n2 c2 rfl) ?_
  simp only [Act.put, List.setIfInBounds_toArray, List.set_cons_succ, List.set_cons_zero]
  refine q_val (.pointer (some ⟨w.heap.size, 0, none⟩)) rfl (fun W _ => exec_way_at (.tmp 5) 0 (by decide) rfl w.heap.size rfl) ?_
  simp only [Act.put, List.setIfInBounds_toArray, List.set_cons_succ, List.set_cons_zero]
  refine q_val (.int .i64 (N : Nat)) rfl (fun W hW => exec_load1 3 (.tmp 93) rfl ⟨w.heap.size, 0, none⟩ rfl _ ((hw W hW).way.f0) _ Tryd.underlying3 rfl) ?_
  simp only [Act.put, List.setIfInBounds_toArray, List.set_cons_succ, List.set_cons_zero]
  refine q_val (.pointer (some ⟨w.heap.size, 1, none⟩)) rfl (fun W _ => exec_way_at (.tmp 5) 1 (by decide) rfl w.heap.size rfl) ?_
  simp only [Act.put, List.setIfInBounds_toArray, List.set_cons_succ, List.set_cons_zero]
  refine q_val (.int .i64 (I : Nat)) rfl (fun W hW => exec_load1 3 (.tmp 95) rfl ⟨w.heap.size, 1, none⟩ rfl _ ((hw W hW).way.f1) _ Tryd.underlying3 rfl) ?_
  simp only [Act.put, List.setIfInBounds_toArray, List.set_cons_succ, List.set_cons_zero]
  refine q_call 21 #[.int .i64 (N : Nat), .int .i64 (I : Nat)] (.int .i64 (n2 : Nat)) rfl (fun _ _ => exec_call2 21 (.tmp 94) (.tmp 96) #[3, 3] _ _ rfl rfl rfl (cfDeep _ _)) (fun W hW => (HDp.out W).mono fun e W' h => ⟨h.1, hW.trans (h.2.mono hW.size)⟩) ?_
  simp only [Act.put, List.setIfInBounds_toArray, List.set_cons_succ, List.set_cons_zero]
  refine wpQuiet_nil ?_
  intro w9 hw9
  have H7 := Lib.hid (H7.out.later hw9)
  clear hw9 hw hc0 hc1
  go_wp2
  have hw : ∀ W, Below w9.heap.size w9 W → FdS w (wayV N I s1 s2 n1 n2 c1 c2) g F W := fun W h => H7.out.later h
  refine wp_region_spec (C := fun W => Below w9.heap.size w9 W) (Le := fun w w' => Below w.heap.size w w') 18 (fun j _ v => v = ([.agg (rowB F), .pointer (some ⟨w.heap.size, 0, none⟩), .int .i64 (N : Nat), .pointer (some ⟨w.heap.size, 1, none⟩), .int .i64 (I : Nat), .pointer (some ⟨w.heap.size, 2, none⟩), .slice s1 n1 c1, .pointer (some ⟨w.heap.size, 3, none⟩), .slice s2 n2 c2, .agg (rowB F), .bool true, .bool true, .int .i64 0, .bool true, .bool true, .bool true, .bool true, .bool true] : List Value).getD j undef) (by kernel_rfl) (by kernel_rfl) ⟨rfl, rfl, rfl, Nat.le_refl _, fun _ _ => rfl⟩ (fun _ _ _ _ _ h => h) (fun j v => v = ([.agg (rowB F), .pointer (some ⟨w.heap.size, 0, none⟩), .int .i64 (N : Nat), .pointer (some ⟨w.heap.size, 1, none⟩), .int .i64 (I : Nat), .pointer (some ⟨w.heap.size, 2, none⟩), .slice s1 n1 c1, .pointer (some ⟨w.heap.size, 3, none⟩), .slice s2 n2 c2, .agg (rowB F), .bool true, .bool true, .int .i64 0, .bool true, .bool true, .bool true, .bool true, .bool true] : List Value).getD j undef) (fun _ _ _ h => h) (fun j => ([.agg (rowB F), .pointer (some ⟨w.heap.size, 0, none⟩), .int .i64 (N : Nat), .pointer (some ⟨w.heap.size, 1, none⟩), .int .i64 (I : Nat), .pointer (some ⟨w.heap.size, 2, none⟩), .slice s1 n1 c1, .pointer (some ⟨w.heap.size, 3, none⟩), .slice s2 n2 c2, .agg (rowB F), .bool true, .bool true, .int .i64 0, .bool true, .bool true, .bool true, .bool true, .bool true] : List Value).getD j undef) (fun _ => rfl) ?_ ?_
  · intro u hu
    have h0 : u 0 = .agg (rowB F) := hu 0
    have h1 : u 1 = .pointer (some ⟨w.heap.size, 0, none⟩) := hu 1
    have h2 : u 2 = .int .i64 (N : Nat) := hu 2
    have h3 : u 3 = .pointer (some ⟨w.heap.size, 1, none⟩) := hu 3
    have h4 : u 4 = .int .i64 (I : Nat) := hu 4
    have h5 : u 5 = .pointer (some ⟨w.heap.size, 2, none⟩) := hu 5
    have h6 : u 6 = .slice s1 n1 c1 := hu 6
    have h7 : u 7 = .pointer (some ⟨w.heap.size, 3, none⟩) := hu 7
    have h8 : u 8 = .slice s2 n2 c2 := hu 8
    have h9 : u 9 = .agg (rowB F) := hu 9
    have h10 : u 10 = .bool true := hu 10
    have h11 : u 11 = .bool true := hu 11
    have h12 : u 12 = .int .i64 0 := hu 12
    have h13 : u 13 = .bool true := hu 13
    have h14 : u 14 = .bool true := hu 14
    have h15 : u 15 = .bool true := hu 15
    have h16 : u 16 = .bool true := hu 16
    have h17 : u 17 = .bool true := hu 17
    clear hu
    simp only [List.take_succ_cons, List.take_zero]
    refine spec_cons (fun W hC hd => ⟨by rfl, ?_⟩) ?_
    · exact gives_val _ W (exec_load_row 24 (.tmp 9) rfl g rfl 24 (rowB F) (0, 0) _ ((hw W hC).dig) Tryd.underlying24 rfl HZ.out) ⟨hC, Below.refl _ _, rfl⟩
    simp only [Act.put, List.setIfInBounds_toArray, List.set_cons_succ, List.set_cons_zero, Nat.reduceAdd]
    rw [h0]
    refine spec_cons (fun W hC hd => ⟨by rfl, ?_⟩) ?_
    · exact gives_val _ W (exec_way_at (.tmp 5) 0 (by decide) rfl w.heap.size rfl) ⟨hC, Below.refl _ _, rfl⟩
    simp only [Act.put, List.setIfInBounds_toArray, List.set_cons_succ, List.set_cons_zero, Nat.reduceAdd]
    rw [h1]
    refine spec_cons (fun W hC hd => ⟨by rfl, ?_⟩) ?_
    · exact gives_val _ W (exec_load1 3 (.tmp 110) rfl ⟨w.heap.size, 0, none⟩ rfl _ ((hw W hC).way.f0) _ Tryd.underlying3 rfl) ⟨hC, Below.refl _ _, rfl⟩
    simp only [Act.put, List.setIfInBounds_toArray, List.set_cons_succ, List.set_cons_zero, Nat.reduceAdd]
    rw [h2]
    refine spec_cons (fun W hC hd => ⟨by rfl, ?_⟩) ?_
    · exact gives_val _ W (exec_way_at (.tmp 5) 1 (by decide) rfl w.heap.size rfl) ⟨hC, Below.refl _ _, rfl⟩
    simp only [Act.put, List.setIfInBounds_toArray, List.set_cons_succ, List.set_cons_zero, Nat.reduceAdd]
    rw [h3]
    refine spec_cons (fun W hC hd => ⟨by rfl, ?_⟩) ?_
    · exact gives_val _ W (exec_load1 3 (.tmp 112) rfl ⟨w.heap.size, 1, none⟩ rfl _ ((hw W hC).way.f1) _ Tryd.underlying3 rfl) ⟨hC, Below.refl _ _, rfl⟩
    simp only [Act.put, List.setIfInBounds_toArray, List.set_cons_succ, List.set_cons_zero, Nat.reduceAdd]
    rw [h4]
    refine spec_cons (fun W hC hd => ⟨by rfl, ?_⟩) ?_
    · exact gives_val _ W (exec_way_at (.tmp 5) 2 (by decide) rfl w.heap.size rfl) ⟨hC, Below.refl _ _, rfl⟩
    simp only [Act.put, List.setIfInBounds_toArray, List.set_cons_succ, List.set_cons_zero, Nat.reduceAdd]
    rw [h5]
    refine spec_cons (fun W hC hd => ⟨by rfl, ?_⟩) ?_
    · exact gives_val _ W (exec_load1 28 (.tmp 114) rfl ⟨w.heap.size, 2, none⟩ rfl _ ((hw W hC).way.f2) _ Tryd.underlying28 rfl) ⟨hC, Below.refl _ _, rfl⟩
    simp only [Act.put, List.setIfInBounds_toArray, List.set_cons_succ, List.set_cons_zero, Nat.reduceAdd]
    rw [h6]
    refine spec_cons (fun W hC hd => ⟨by rfl, ?_⟩) ?_
    · exact gives_val _ W (exec_way_at (.tmp 5) 3 (by decide) rfl w.heap.size rfl) ⟨hC, Below.refl _ _, rfl⟩
    simp only [Act.put, List.setIfInBounds_toArray, List.set_cons_succ, List.set_cons_zero, Nat.reduceAdd]
    rw [h7]
    refine spec_cons (fun W hC hd => ⟨by rfl, ?_⟩) ?_
    · exact gives_val _ W (exec_load1 33 (.tmp 116) rfl ⟨w.heap.size, 3, none⟩ rfl _ ((hw W hC).way.f3) _ Tryd.underlying33 rfl) ⟨hC, Below.refl _ _, rfl⟩
    simp only [Act.put, List.setIfInBounds_toArray, List.set_cons_succ, List.set_cons_zero, Nat.reduceAdd]
    rw [h8]
    refine spec_cons (fun W hC hd => ⟨by rfl, ?_⟩) ?_
    · exact gives_call _ _ (exec_call4 22 (.tmp 111) (.tmp 113) (.tmp 115) (.tmp 117) #[3, 3, 28, 33] _ _ _ _ rfl rfl rfl rfl rfl (cfRefFold _ _)) (((fun W hC => HRf.out W (hw W hC).way.below) W hC).mono fun e W' h => ⟨_, h.1, hC.trans (h.2.mono hC.size), h.2, rfl⟩)
    simp only [Act.put, List.setIfInBounds_toArray, List.set_cons_succ, List.set_cons_zero, Nat.reduceAdd]
    rw [h9]
    refine spec_cons (fun W hC hd => ⟨by rfl, ?_⟩) ?_
    · exact gives_val _ W (exec_eqD (.tmp 109) (.tmp 118) rfl F F rfl rfl h32 h32) ⟨hC, Below.refl _ _, by simp⟩
    simp only [Act.put, List.setIfInBounds_toArray, List.set_cons_succ, List.set_cons_zero, Nat.reduceAdd]
    rw [h10]
    refine spec_cons (fun W hC hd => ⟨by rfl, ?_⟩) ?_
    · exact gives_val _ W (rfl) ⟨hC, Below.refl _ _, rfl⟩
    simp only [Act.put, List.setIfInBounds_toArray, List.set_cons_succ, List.set_cons_zero, Nat.reduceAdd]
    rw [h11]
    refine spec_cons (fun W hC hd => ⟨by rfl, ?_⟩) ?_
    · exact gives_val _ W (rfl) ⟨hC, Below.refl _ _, rfl⟩
    simp only [Act.put, List.setIfInBounds_toArray, List.set_cons_succ, List.set_cons_zero, Nat.reduceAdd]
    rw [h12]
    refine spec_cons (fun W hC hd => ⟨by rfl, ?_⟩) ?_
    · exact gives_val _ W (rfl) ⟨hC, Below.refl _ _, rfl⟩
    simp only [Act.put, List.setIfInBounds_toArray, List.set_cons_succ, List.set_cons_zero, Nat.reduceAdd]
    rw [h13]
    refine spec_cons (fun W hC hd => ⟨by rfl, ?_⟩) ?_
    · exact gives_val _ W (rfl) ⟨hC, Below.refl _ _, rfl⟩
    simp only [Act.put, List.setIfInBounds_toArray, List.set_cons_succ, List.set_cons_zero, Nat.reduceAdd]
    rw [h14]
    refine spec_cons (fun W hC hd => ⟨by rfl, ?_⟩) ?_
    · exact gives_val _ W (rfl) ⟨hC, Below.refl _ _, rfl⟩
    simp only [Act.put, List.setIfInBounds_toArray, List.set_cons_succ, List.set_cons_zero, Nat.reduceAdd]
    rw [h15]
    refine spec_cons (fun W hC hd => ⟨by rfl, ?_⟩) ?_
    · exact gives_call _ _ (exec_call0 10 #[] rfl (cfAwake _ _)) (((fun W hC => awake_any W (HE.out.below (hw W hC).way.below)) W hC).mono fun e W' h => ⟨_, h.1, hC.trans (h.2.mono hC.size), h.2, rfl⟩)
    simp only [Act.put, List.setIfInBounds_toArray, List.set_cons_succ, List.set_cons_zero, Nat.reduceAdd]
    rw [h16]
    refine spec_cons (fun W hC hd => ⟨by rfl, ?_⟩) ?_
    · exact gives_val _ W (rfl) ⟨hC, Below.refl _ _, rfl⟩
    simp only [Act.put, List.setIfInBounds_toArray, List.set_cons_succ, List.set_cons_zero, Nat.reduceAdd]
    rw [h17]
    exact spec_nil
  · intro u W hu hC hF
    have h0 : u 0 = .agg (rowB F) := hu 0
    have h1 : u 1 = .pointer (some ⟨w.heap.size, 0, none⟩) := hu 1
    have h2 : u 2 = .int .i64 (N : Nat) := hu 2
    have h3 : u 3 = .pointer (some ⟨w.heap.size, 1, none⟩) := hu 3
    have h4 : u 4 = .int .i64 (I : Nat) := hu 4
    have h5 : u 5 = .pointer (some ⟨w.heap.size, 2, none⟩) := hu 5
    have h6 : u 6 = .slice s1 n1 c1 := hu 6
    have h7 : u 7 = .pointer (some ⟨w.heap.size, 3, none⟩) := hu 7
    have h8 : u 8 = .slice s2 n2 c2 := hu 8
    have h9 : u 9 = .agg (rowB F) := hu 9
    have h10 : u 10 = .bool true := hu 10
    have h11 : u 11 = .bool true := hu 11
    have h12 : u 12 = .int .i64 0 := hu 12
    have h13 : u 13 = .bool true := hu 13
    have h14 : u 14 = .bool true := hu 14
    have h15 : u 15 = .bool true := hu 15
    have h16 : u 16 = .bool true := hu 16
    have h17 : u 17 = .bool true := hu 17
    simp only [List.take_succ_cons, List.take_zero, List.drop_succ_cons, List.drop_zero, putAll, Act.put, List.setIfInBounds_toArray, List.set_cons_succ, List.set_cons_zero, Nat.reduceAdd]
    rw [h0, h1, h2, h3, h4, h5, h6, h7, h8, h9, h10, h11, h12, h13, h14, h15, h16, h17]
    have H8 := Lib.hid (H7.out.later hC)
    clear hu hC hF hw HRf h0 h1 h2 h3 h4 h5 h6 h7 h8 h9 h10 h11 h12 h13 h14 h15 h16 h17
    go_wp2
    go_ret
    exact ⟨rfl, H8.out.way.below⟩
end Go.Proofs.YtighmhoekbnagaaDoor
