import Derived.Test.YtighmhoekbnagaaDoorOm
namespace Go.Proofs.YtighmhoekbnagaaDoor
open Go.ChangeShapes Go.WideShapes Go.ChangeAt Go.RowKit

/-- the way of the i-th leaf leads to the root -/
theorem go_root (ls : List (List Int)) (i : Nat) (hi : i < ls.length) (hl : ls.length ≤ 9223372036854775807) : go nodeD (wy ls.length i 63) (leafD (ls.getD i [])) (proofD i ls) = rootD ls := by
  have hpf := proofD_pf i ls 63 (by omega)
  have hlen : (proofD i ls).length = dp 63 ls.length i := by rw [hpf, pf_length, List.length_map]
  rw [← fd_go nodeD 63 ls.length i _ _ hi (by omega) hlen, hpf, rootD_rt ls (fun e => by rw [e] at hi; simp at hi) 63 (by omega)]
  have h := fd_root nodeD 63 i (ls.map leafD) (by simpa using hi) (by rw [List.length_map]; omega)
  have e : (ls.map leafD).getD i [] = leafD (ls.getD i []) := by simp [hi]
  rw [List.length_map, e] at h
  exact h
theorem cfBytes (vs : Array Value) (W : World) : (callFunc 27 vs).run Tryd.prog W = .ok (.enter 27 vs) W := cf Tryd.func27 (by kernel_rfl) (by kernel_rfl) vs W
theorem cfFound (vs : Array Value) (W : World) : (callFunc 28 vs).run Tryd.prog W = .ok (.enter 28 vs) W := cf Tryd.func28 (by kernel_rfl) (by kernel_rfl) vs W
theorem sizeWay : (Tryd.prog.info? 35).map (·.size) = some 4 := by kernel_rfl
theorem exec_pcO {a : Act} {o : Oper} {W : World} (x y : Operand) (ho : o.op = .indexAddr 22 x y) (c k n cap i : Nat) (hx : a.eval x = .slice (some ⟨c, k, none⟩) n cap) (hy : a.eval y = .int .i64 (i : Int)) (hi : i < n) : (execOp a.eval o).run Tryd.prog W = .ok (.value (.pointer (some ⟨c, k + i, none⟩))) W := by
  have hadd := add_plain c k i
  cases hq : Tryd.prog.info? 28 with
  | none => have := size28; simp [hq] at this
  | some j =>
    have hj : j.size = 1 := by have := size28; simpa [hq] using this
    unfold execOp
    simp [ho, hx, hy, Instr.indexAt, asIntOf, run_underlying Tryd.underlying22, sizeOf, typeInfo, hq, hj, hi, hadd]
theorem exec_way {a : Act} {o : Oper} {W : World} (x y : Operand) (ho : o.op = .build 35 #[(2, x), (3, y)]) (s1 s2 : Option Addr) (n1 n2 c1 c2 : Nat) (hx : a.eval x = .slice s1 n1 c1) (hy : a.eval y = .slice s2 n2 c2) : (execOp a.eval o).run Tryd.prog W = .ok (.value (.agg #[.int .i64 0, .int .i64 0, .slice s1 n1 c1, .slice s2 n2 c2])) W := by
  have hb : Tryd.prog.built 35 [(2, .slice s1 n1 c1), (3, .slice s2 n2 c2)] = some #[.int .i64 0, .int .i64 0, .slice s1 n1 c1, .slice s2 n2 c2] := by kernel_rfl
  refine exec_built 35 #[(2, x), (3, y)] ho #[.int .i64 0, .int .i64 0, .slice s1 n1 c1, .slice s2 n2 c2] ?_
  have e : (#[((2 : Nat), x), (3, y)].map fun (i, x) => (i, a.eval x)).toList = [(2, .slice s1 n1 c1), (3, .slice s2 n2 c2)] := by simp [hx, hy]
  rw [e, hb]
theorem exec_lenP {a : Act} {o : Oper} {W : World} (x : Operand) (ho : o.op = .call { callee := .builtin .len, args := #[x], argTypes := #[22] }) (sp : Option Addr) (n cap : Nat) (hx : a.eval x = .slice sp n cap) : (execOp a.eval o).run Tryd.prog W = .ok (.value (.int .i64 n)) W := by
  unfold execOp
  simp only [ho, resolve, invoke, Sem.run_bind, Sem.run_pure, Result.andThen_ok, List.map_toArray, List.map_cons, List.map_nil, hx, BigFrame.builtin_len]
  simp [go_sem]
set_option maxRecDepth 100000 in
set_option maxHeartbeats 4000000 in
theorem only_few (w : World) (i N I : Int) (sp s1 s2 : Option Addr) (n cap n1 n2 c1 c2 : Nat) (ls : List (List Int)) (hn : ls.length = n) (hP : Pcs w sp cap ls) (he : Env w) (hf : few ls = false) :
    Calls Tryd.prog 6 #[.slice sp n cap, .int .i64 i, .agg #[.int .i64 N, .int .i64 I, .slice s1 n1 c1, .slice s2 n2 c2]] w fun e w' => e = .returned (.bool true) ∧ Below w.heap.size w w' := by
  have HE := Lib.hid he
  have HF := Lib.hid (fun W (hb : Below w.heap.size w W) => few_any W sp n cap ls hn (hP.below hb))
  rw [hf] at HF
  clear hn hP he hf
  go_enter Tryd.func6, Tryd.ntmps6
  go_upto_region 1 with fail
  refine gen_world (Q := fun w => Code.wp _ _ _ _ w) _ (WayAt w (wayV N I s1 s2 n1 n2 c1 c2)) ⟨(Below.refl _ _).alloc (Nat.le_refl _) _, heap_alloc_new _ _⟩ ?_
  intro w1 h1
  have H1 := Lib.hid h1
  clear h1
  go_wp2_with (first
    | (go_at_call 9; refine (HF.out _ H1.out.below).mono ?_; rintro e w' ⟨rfl, q, rfl⟩; have H2 := Lib.hid (H1.out.later (below_drewN (Below.refl _ _) q)); have hc2 := H2.out.f2; have hc3 := H2.out.f3)
    | (go_at_call 10; refine (awake_any _ (HE.out.below H2.out.below)).mono ?_; rintro e w' ⟨rfl, hb⟩; have H3 := Lib.hid (H2.out.later hb)))
  go_ret
  exact ⟨rfl, H3.out.below⟩
set_option maxRecDepth 100000 in
set_option maxHeartbeats 4000000 in
theorem only_leaf (w : World) (i N I : Int) (sp s1 s2 : Option Addr) (n cap n1 n2 c1 c2 : Nat) (ls : List (List Int)) (hn : ls.length = n) (hP : Pcs w sp cap ls) (he : Env w) (hf : few ls = true) (h100 : 100 < n1) :
    Calls Tryd.prog 6 #[.slice sp n cap, .int .i64 i, .agg #[.int .i64 N, .int .i64 I, .slice s1 n1 c1, .slice s2 n2 c2]] w fun e w' => e = .returned (.bool true) ∧ Below w.heap.size w w' := by
  have HE := Lib.hid he
  have HF := Lib.hid (fun W (hb : Below w.heap.size w W) => few_any W sp n cap ls hn (hP.below hb))
  rw [hf] at HF
  have hd1 : decide ((100 : Int) < (n1 : Int)) = true := decide_eq_true (by omega)
  clear hn hP he hf
  go_enter Tryd.func6, Tryd.ntmps6
  go_upto_region 1 with fail
  refine gen_world (Q := fun w => Code.wp _ _ _ _ w) _ (WayAt w (wayV N I s1 s2 n1 n2 c1 c2)) ⟨(Below.refl _ _).alloc (Nat.le_refl _) _, heap_alloc_new _ _⟩ ?_
  intro w1 h1
  have H1 := Lib.hid h1
  clear h1
  go_wp2_with (first
    | (go_at_call 9; refine (HF.out _ H1.out.below).mono ?_; rintro e w' ⟨rfl, q, rfl⟩; have H2 := Lib.hid (H1.out.later (below_drewN (Below.refl _ _) q)); have hc2 := H2.out.f2; have hc3 := H2.out.f3)
    | (go_at_call 10; refine (awake_any _ (HE.out.below H2.out.below)).mono ?_; rintro e w' ⟨rfl, hb⟩; have H3 := Lib.hid (H2.out.later hb)))
  go_ret
  exact ⟨rfl, H3.out.below⟩
set_option maxRecDepth 100000 in
set_option maxHeartbeats 4000000 in
theorem only_proof (w : World) (i N I : Int) (sp s1 s2 : Option Addr) (n cap n1 n2 c1 c2 : Nat) (ls : List (List Int)) (hn : ls.length = n) (hP : Pcs w sp cap ls) (he : Env w) (hf : few ls = true) (h100 : n1 ≤ 100) (h70 : 70 < n2) :
    Calls Tryd.prog 6 #[.slice sp n cap, .int .i64 i, .agg #[.int .i64 N, .int .i64 I, .slice s1 n1 c1, .slice s2 n2 c2]] w fun e w' => e = .returned (.bool true) ∧ Below w.heap.size w w' := by
  have HE := Lib.hid he
  have HF := Lib.hid (fun W (hb : Below w.heap.size w W) => few_any W sp n cap ls hn (hP.below hb))
  rw [hf] at HF
  have hd1 : decide ((100 : Int) < (n1 : Int)) = false := decide_eq_false (by omega)
  have hd2 : decide ((70 : Int) < (n2 : Int)) = true := decide_eq_true (by omega)
  clear hn hP he hf
  go_enter Tryd.func6, Tryd.ntmps6
  go_upto_region 1 with fail
  refine gen_world (Q := fun w => Code.wp _ _ _ _ w) _ (WayAt w (wayV N I s1 s2 n1 n2 c1 c2)) ⟨(Below.refl _ _).alloc (Nat.le_refl _) _, heap_alloc_new _ _⟩ ?_
  intro w1 h1
  have H1 := Lib.hid h1
  clear h1
  go_wp2_with (first
    | (go_at_call 9; refine (HF.out _ H1.out.below).mono ?_; rintro e w' ⟨rfl, q, rfl⟩; have H2 := Lib.hid (H1.out.later (below_drewN (Below.refl _ _) q)); have hc2 := H2.out.f2; have hc3 := H2.out.f3)
    | (go_at_call 10; refine (awake_any _ (HE.out.below H2.out.below)).mono ?_; rintro e w' ⟨rfl, hb⟩; have H3 := Lib.hid (H2.out.later hb)))
  go_ret
  exact ⟨rfl, H3.out.below⟩
set_option maxRecDepth 100000 in
set_option maxHeartbeats 4000000 in
theorem only_neg (w : World) (i N I : Int) (sp s1 s2 : Option Addr) (n cap n1 n2 c1 c2 : Nat) (ls : List (List Int)) (hn : ls.length = n) (hP : Pcs w sp cap ls) (he : Env w) (hf : few ls = true) (h100 : n1 ≤ 100) (h70 : n2 ≤ 70) (hi : i < 0) :
    Calls Tryd.prog 6 #[.slice sp n cap, .int .i64 i, .agg #[.int .i64 N, .int .i64 I, .slice s1 n1 c1, .slice s2 n2 c2]] w fun e w' => e = .returned (.bool true) ∧ Below w.heap.size w w' := by
  have HE := Lib.hid he
  have HF := Lib.hid (fun W (hb : Below w.heap.size w W) => few_any W sp n cap ls hn (hP.below hb))
  rw [hf] at HF
  have hd1 : decide ((100 : Int) < (n1 : Int)) = false := decide_eq_false (by omega)
  have hd2 : decide ((70 : Int) < (n2 : Int)) = false := decide_eq_false (by omega)
  have hd3 : decide (i < 0) = true := decide_eq_true (by omega)
  clear hn hP he hf
  go_enter Tryd.func6, Tryd.ntmps6
  go_upto_region 1 with fail
  refine gen_world (Q := fun w => Code.wp _ _ _ _ w) _ (WayAt w (wayV N I s1 s2 n1 n2 c1 c2)) ⟨(Below.refl _ _).alloc (Nat.le_refl _) _, heap_alloc_new _ _⟩ ?_
  intro w1 h1
  have H1 := Lib.hid h1
  clear h1
  go_wp2_with (first
    | (go_at_call 9; refine (HF.out _ H1.out.below).mono ?_; rintro e w' ⟨rfl, q, rfl⟩; have H2 := Lib.hid (H1.out.later (below_drewN (Below.refl _ _) q)); have hc2 := H2.out.f2; have hc3 := H2.out.f3)
    | (go_at_call 10; refine (awake_any _ (HE.out.below H2.out.below)).mono ?_; rintro e w' ⟨rfl, hb⟩; have H3 := Lib.hid (H2.out.later hb)))
  go_ret
  exact ⟨rfl, H3.out.below⟩
set_option maxRecDepth 100000 in
set_option maxHeartbeats 4000000 in
theorem only_high (w : World) (i N I : Int) (sp s1 s2 : Option Addr) (n cap n1 n2 c1 c2 : Nat) (ls : List (List Int)) (hn : ls.length = n) (hP : Pcs w sp cap ls) (he : Env w) (hf : few ls = true) (h100 : n1 ≤ 100) (h70 : n2 ≤ 70) (hi0 : 0 ≤ i) (hi : n ≤ i) :
    Calls Tryd.prog 6 #[.slice sp n cap, .int .i64 i, .agg #[.int .i64 N, .int .i64 I, .slice s1 n1 c1, .slice s2 n2 c2]] w fun e w' => e = .returned (.bool true) ∧ Below w.heap.size w w' := by
  have HE := Lib.hid he
  have HF := Lib.hid (fun W (hb : Below w.heap.size w W) => few_any W sp n cap ls hn (hP.below hb))
  rw [hf] at HF
  have hd1 : decide ((100 : Int) < (n1 : Int)) = false := decide_eq_false (by omega)
  have hd2 : decide ((70 : Int) < (n2 : Int)) = false := decide_eq_false (by omega)
  have hd3 : decide (i < 0) = false := decide_eq_false (by omega)
  have hd4 : decide ((n : Int) ≤ i) = true := decide_eq_true (by omega)
  clear hn hP he hf
  go_enter Tryd.func6, Tryd.ntmps6
  go_upto_region 1 with fail
  refine gen_world (Q := fun w => Code.wp _ _ _ _ w) _ (WayAt w (wayV N I s1 s2 n1 n2 c1 c2)) ⟨(Below.refl _ _).alloc (Nat.le_refl _) _, heap_alloc_new _ _⟩ ?_
  intro w1 h1
  have H1 := Lib.hid h1
  clear h1
  go_wp2_with (first
    | (go_at_call 9; refine (HF.out _ H1.out.below).mono ?_; rintro e w' ⟨rfl, q, rfl⟩; have H2 := Lib.hid (H1.out.later (below_drewN (Below.refl _ _) q)); have hc2 := H2.out.f2; have hc3 := H2.out.f3)
    | (go_at_call 10; refine (awake_any _ (HE.out.below H2.out.below)).mono ?_; rintro e w' ⟨rfl, hb⟩; have H3 := Lib.hid (H2.out.later hb)))
  go_ret
  exact ⟨rfl, H3.out.below⟩
set_option maxRecDepth 100000 in
set_option maxHeartbeats 4000000 in
theorem only_len (w : World) (i : Nat) (N I : Int) (sp s1 s2 : Option Addr) (n cap n1 n2 c1 c2 : Nat) (ls : List (List Int)) (hn : ls.length = n) (hP : Pcs w sp cap ls) (he : Env w) (hf : few ls = true) (h100 : n1 ≤ 100) (h70 : n2 ≤ 70) (hi : i < n) (hlen : n2 ≠ dp 63 n i) :
    Calls Tryd.prog 6 #[.slice sp n cap, .int .i64 i, .agg #[.int .i64 N, .int .i64 I, .slice s1 n1 c1, .slice s2 n2 c2]] w fun e w' => e = .returned (.bool true) ∧ Below w.heap.size w w' := by
  have HE := Lib.hid he
  have HF := Lib.hid (fun W (hb : Below w.heap.size w W) => few_any W sp n cap ls hn (hP.below hb))
  rw [hf] at HF
  have hd1 : decide ((100 : Int) < (n1 : Int)) = false := decide_eq_false (by omega)
  have hd2 : decide ((70 : Int) < (n2 : Int)) = false := decide_eq_false (by omega)
  have hd3 : decide ((i : Int) < 0) = false := decide_eq_false (by omega)
  have hd4 : decide ((n : Int) ≤ (i : Int)) = false := decide_eq_false (by omega)
  have hd4' : decide (n ≤ i) = false := decide_eq_false (by omega)
  have hn20 : n ≤ 20 := by rw [← hn]; exact (few_yes hf).2
  have HM : Hid (Mild ls) := few_mild hf
  have HPv := Lib.hid (fun W (hb : Below w.heap.size w W) => prove_yes i W sp n cap ls hn (hP.below hb) (HE.out.below hb) HM.out hi)
  have HFd := Lib.hid (fun W (_ : Below w.heap.size w W) => fold_len i n W s1 s2 n1 n2 c1 c2 hi (by omega) (by rw [← dp_wy 63 n i hi (by omega)]; exact hlen))
  have HZ := Lib.hid (row_dig (d := (zs 32)) rfl)
  have HY := Lib.hid (row_dig0 (d := (zs 32)) rfl)
  have HX := Lib.hid (rowB_one (zs 32))
  clear hn hP he hf hlen
  go_enter Tryd.func6, Tryd.ntmps6
  go_upto_region 1 with fail
  refine gen_world (Q := fun w => Code.wp _ _ _ _ w) _ (WayAt w (wayV N I s1 s2 n1 n2 c1 c2)) ⟨(Below.refl _ _).alloc (Nat.le_refl _) _, heap_alloc_new _ _⟩ ?_
  intro w1 h1
  have H1 := Lib.hid h1
  clear h1
  go_upto_region 4 with (first
    | (go_at_call 9; refine (HF.out _ H1.out.below).mono ?_; rintro e w' ⟨rfl, q1, rfl⟩; have H2 := Lib.hid (H1.out.later (below_drewN (Below.refl _ _) q1)); have hc2 := H2.out.f2; have hc3 := H2.out.f3)
    | (go_at_call 17; refine (HPv.out _ H2.out.below).mono ?_; rintro e w3 ⟨sp1, cp1, rfl, hd, hb⟩; have HD1 := Lib.hid hd; have H3 := Lib.hid (H2.out.later hb); clear hd hb))
  have hc2 := H3.out.f2
  have hc3 := H3.out.f3
  clear H2
  go_upto_region 5 with (first
    | (go_at_call 20; refine (HFd.out _ H3.out.below).mono ?_; rintro e w6 ⟨rfl, hb⟩; have H6 := Lib.hid (H3.out.later hb); have HD1 := Lib.hid (HD1.out.below hb); clear hb)
    | (refine wpList_store_row rfl 24 (.tmp 9) (.tmp 53) rfl w6.heap.size (rowB (zs 32)) rfl rfl 24 _ (heap_alloc_new _ _) HZ.out HY.out HX.out ?_))
  refine gen_world (Q := fun w => Code.wp _ _ _ _ w) _ (fun W => FdS w (wayV N I s1 s2 n1 n2 c1 c2) w6.heap.size (zs 32) W ∧ Below w6.heap.size w6 W) ⟨FdS.made H6.out _ _, below_setRow ((Below.refl _ _).alloc (Nat.le_refl _) _) (Nat.le_refl _) _⟩ ?_
  rintro w7 ⟨h7, hb7⟩
  have HD1 := Lib.hid (HD1.out.below hb7)
  obtain ⟨g, hg⟩ : ∃ g, w6.heap.size = g := ⟨_, rfl⟩
  rw [hg] at h7 ⊢
  have H7 := Lib.hid h7
  clear hg h7 H6 hb7 H3
  go_upto_region 7 with fail
  go_quiet (fail)
  have H7 := Lib.hid (H7.out.later (below_drewN (Below.refl _ _) nq))
  go_wp2_with (go_at_call 10; refine (awake_any _ (HE.out.below H7.out.way.below)).mono ?_; rintro e w8 ⟨rfl, hb⟩; have H8 := Lib.hid (H7.out.later hb))
  go_ret
  exact ⟨rfl, H8.out.way.below⟩
set_option maxRecDepth 100000 in
set_option maxHeartbeats 4000000 in
theorem only_off (w : World) (i : Nat) (N I : Int) (sp s1 s2 : Option Addr) (n cap n1 n2 c1 c2 : Nat) (ls : List (List Int)) (hn : ls.length = n) (hP : Pcs w sp cap ls) (he : Env w) (hf : few ls = true) (h100 : n1 ≤ 100) (h70 : n2 ≤ 70) (hi : i < n) (l : List Int) (q : List (List Int)) (hl1 : l.length = n1) (hb1 : Byt w s1 c1 l) (hq : q.length = n2) (hQ : Digs w s2 c2 q) (hlen : n2 = dp 63 n i) (hoff : fd nodeD 63 n i (leafD l) q ≠ rootD ls) :
    Calls Tryd.prog 6 #[.slice sp n cap, .int .i64 i, .agg #[.int .i64 N, .int .i64 I, .slice s1 n1 c1, .slice s2 n2 c2]] w fun e w' => e = .returned (.bool true) ∧ Below w.heap.size w w' := by
  have HE := Lib.hid he
  have HF := Lib.hid (fun W (hb : Below w.heap.size w W) => few_any W sp n cap ls hn (hP.below hb))
  rw [hf] at HF
  have hd1 : decide ((100 : Int) < (n1 : Int)) = false := decide_eq_false (by omega)
  have hd2 : decide ((70 : Int) < (n2 : Int)) = false := decide_eq_false (by omega)
  have hd3 : decide ((i : Int) < 0) = false := decide_eq_false (by omega)
  have hd4 : decide ((n : Int) ≤ (i : Int)) = false := decide_eq_false (by omega)
  have hd4' : decide (n ≤ i) = false := decide_eq_false (by omega)
  have hn20 : n ≤ 20 := by rw [← hn]; exact (few_yes hf).2
  have HM : Hid (Mild ls) := few_mild hf
  have HPv := Lib.hid (fun W (hb : Below w.heap.size w W) => prove_yes i W sp n cap ls hn (hP.below hb) (HE.out.below hb) HM.out hi)
  have HFd := Lib.hid (fun W (hb : Below w.heap.size w W) => fold_any i n W s1 s2 n1 n2 c1 c2 l q hi (by omega) hl1 (hb1.below hb) (by omega) hq (hQ.below hb) (HE.out.below hb) hlen)
  have HRt := Lib.hid (fun W (hb : Below w.heap.size w W) => root_any W sp n cap ls hn (hP.below hb) (HE.out.below hb) HM.out)
  have h32 := fd_32 63 n i (leafD l) q (leafD_length l)
  have r32 := rootD_length ls
  obtain ⟨F, hF⟩ : ∃ F, fd nodeD 63 n i (leafD l) q = F := ⟨_, rfl⟩
  obtain ⟨R, hR⟩ : ∃ F, rootD ls = F := ⟨_, rfl⟩
  rw [hF] at HFd h32 hoff
  rw [hR] at HRt r32 hoff
  have HZ := Lib.hid (row_dig (d := F) h32)
  have HY := Lib.hid (row_dig0 (d := F) h32)
  have HX := Lib.hid (rowB_one F)
  clear hn hP he hf hlen hb1 hQ hF hR
  go_enter Tryd.func6, Tryd.ntmps6
  go_upto_region 1 with fail
  refine gen_world (Q := fun w => Code.wp _ _ _ _ w) _ (WayAt w (wayV N I s1 s2 n1 n2 c1 c2)) ⟨(Below.refl _ _).alloc (Nat.le_refl _) _, heap_alloc_new _ _⟩ ?_
  intro w1 h1
  have H1 := Lib.hid h1
  clear h1
  go_upto_region 4 with (first
    | (go_at_call 9; refine (HF.out _ H1.out.below).mono ?_; rintro e w' ⟨rfl, q1, rfl⟩; have H2 := Lib.hid (H1.out.later (below_drewN (Below.refl _ _) q1)); have hc2 := H2.out.f2; have hc3 := H2.out.f3)
    | (go_at_call 17; refine (HPv.out _ H2.out.below).mono ?_; rintro e w3 ⟨sp1, cp1, rfl, hd, hb⟩; have HD1 := Lib.hid hd; have H3 := Lib.hid (H2.out.later hb); clear hd hb))
  have hc2 := H3.out.f2
  have hc3 := H3.out.f3
  clear H2
  go_upto_region 5 with (first
    | (go_at_call 20; refine (HFd.out _ H3.out.below).mono ?_; rintro e w6 ⟨rfl, hb⟩; have H6 := Lib.hid (H3.out.later hb); have HD1 := Lib.hid (HD1.out.below hb); clear hb)
    | (refine wpList_store_row rfl 24 (.tmp 9) (.tmp 53) rfl w6.heap.size (rowB F) rfl rfl 24 _ (heap_alloc_new _ _) HZ.out HY.out HX.out ?_))
  refine gen_world (Q := fun w => Code.wp _ _ _ _ w) _ (fun W => FdS w (wayV N I s1 s2 n1 n2 c1 c2) w6.heap.size F W ∧ Below w6.heap.size w6 W) ⟨FdS.made H6.out _ _, below_setRow ((Below.refl _ _).alloc (Nat.le_refl _) _) (Nat.le_refl _) _⟩ ?_
  rintro w7 ⟨h7, hb7⟩
  have HD1 := Lib.hid (HD1.out.below hb7)
  obtain ⟨g, hg⟩ : ∃ g, w6.heap.size = g := ⟨_, rfl⟩
  rw [hg] at h7 ⊢
  have H7 := Lib.hid h7
  clear hg h7 H6 hb7 H3
  go_upto_region 7 with fail
  have hw : ∀ W, Below w7.heap.size w7 W → FdS w (wayV N I s1 s2 n1 n2 c1 c2) g F W := fun W h => H7.out.later h
  refine wp_region_quiet_tail (C := fun W => Below w7.heap.size w7 W) 7 (by kernel_rfl) (by kernel_rfl) ⟨rfl, rfl, rfl, Nat.le_refl _, fun _ _ => rfl⟩ ?_
  simp only [List.take_succ_cons, List.take_zero, List.drop_succ_cons, List.drop_zero]
  refine q_val (.int .i64 0) rfl (fun _ _ => rfl) ?_
  simp only [Act.put, List.setIfInBounds_toArray, List.set_cons_succ, List.set_cons_zero]
  refine q_val (.bool false) rfl (fun _ _ => rfl) ?_
  simp only [Act.put, List.setIfInBounds_toArray, List.set_cons_succ, List.set_cons_zero]
  refine q_val (.bool false) rfl (fun _ _ => rfl) ?_
  simp only [Act.put, List.setIfInBounds_toArray, List.set_cons_succ, List.set_cons_zero]
  refine q_val (.agg (rowB F)) rfl (fun W hW => exec_load_row 24 (.tmp 9) rfl g rfl 24 (rowB F) (0, 0) _ ((hw W hW).dig) Tryd.underlying24 rfl HZ.out) ?_
  simp only [Act.put, List.setIfInBounds_toArray, List.set_cons_succ, List.set_cons_zero]
  refine q_val (.slice sp n cap) rfl (fun _ _ => rfl) ?_
  simp only [Act.put, List.setIfInBounds_toArray, List.set_cons_succ, List.set_cons_zero]
  refine q_call 13 #[.slice sp n cap] (.agg (rowB R)) rfl (fun _ _ => exec_call1 13 (.tmp 61) #[22] _ rfl rfl (cfRoot _ _)) (fun W hW => (HRt.out W (hw W hW).way.below).mono fun e W' h => ⟨h.1, hW.trans (h.2.mono hW.size)⟩) ?_
  simp only [Act.put, List.setIfInBounds_toArray, List.set_cons_succ, List.set_cons_zero]
  refine q_val (.bool true) rfl (fun W _ => by rw [exec_neD (.tmp 60) (.tmp 62) rfl F R rfl rfl h32 r32]; simp [hoff]) ?_
  simp only [Act.put, List.setIfInBounds_toArray, List.set_cons_succ, List.set_cons_zero]
  refine wpQuiet_nil ?_
  intro w9 hw9
  have H7 := Lib.hid (H7.out.later hw9)
  have HD1 := Lib.hid (HD1.out.below hw9)
  clear hw9 hw HRt
  go_wp2_with (go_at_call 10; refine (awake_any _ (HE.out.below H7.out.way.below)).mono ?_; rintro e w8 ⟨rfl, hb⟩; have H8 := Lib.hid (H7.out.later hb))
  go_ret
  exact ⟨rfl, H8.out.way.below⟩
set_option maxRecDepth 100000 in
set_option maxHeartbeats 4000000 in
theorem only_same (w : World) (i : Nat) (N I : Int) (sp s1 s2 : Option Addr) (n cap n1 n2 c1 c2 : Nat) (ls : List (List Int)) (hn : ls.length = n) (hP : Pcs w sp cap ls) (he : Env w) (hf : few ls = true) (h100 : n1 ≤ 100) (h70 : n2 ≤ 70) (hi : i < n) (l : List Int) (q : List (List Int)) (hl1 : l.length = n1) (hb1 : Byt w s1 c1 l) (hq : q.length = n2) (hQ : Digs w s2 c2 q) (hlen : n2 = dp 63 n i) (hon : fd nodeD 63 n i (leafD l) q = rootD ls) (hs1 : l = ls.getD i []) (hs2 : proofD i ls = q) :
    Calls Tryd.prog 6 #[.slice sp n cap, .int .i64 i, .agg #[.int .i64 N, .int .i64 I, .slice s1 n1 c1, .slice s2 n2 c2]] w fun e w' => e = .returned (.bool true) ∧ Below w.heap.size w w' := by
  have HE := Lib.hid he
  have HF := Lib.hid (fun W (hb : Below w.heap.size w W) => few_any W sp n cap ls hn (hP.below hb))
  rw [hf] at HF
  have hd1 : decide ((100 : Int) < (n1 : Int)) = false := decide_eq_false (by omega)
  have hd2 : decide ((70 : Int) < (n2 : Int)) = false := decide_eq_false (by omega)
  have hd3 : decide ((i : Int) < 0) = false := decide_eq_false (by omega)
  have hd4 : decide ((n : Int) ≤ (i : Int)) = false := decide_eq_false (by omega)
  have hd4' : decide (n ≤ i) = false := decide_eq_false (by omega)
  have hn20 : n ≤ 20 := by rw [← hn]; exact (few_yes hf).2
  have HM : Hid (Mild ls) := few_mild hf
  have HPv := Lib.hid (fun W (hb : Below w.heap.size w W) => prove_yes i W sp n cap ls hn (hP.below hb) (HE.out.below hb) HM.out hi)
  have HFd := Lib.hid (fun W (hb : Below w.heap.size w W) => fold_any i n W s1 s2 n1 n2 c1 c2 l q hi (by omega) hl1 (hb1.below hb) (by omega) hq (hQ.below hb) (HE.out.below hb) hlen)
  have HRt := Lib.hid (fun W (hb : Below w.heap.size w W) => root_any W sp n cap ls hn (hP.below hb) (HE.out.below hb) HM.out)
  have h32 := fd_32 63 n i (leafD l) q (leafD_length l)
  have r32 := rootD_length ls
  have hgr := go_root ls i (by omega) (by omega)
  rw [hn] at hgr
  have hgf := fd_go nodeD 63 n i (leafD l) q hi (by omega) (by rw [hq, hlen])
  have hpl : (proofD i ls).length = n2 := by rw [proofD_pf i ls 63 (by omega), pf_length, List.length_map, hn, hlen]
  have hlw : n2 = (wy n i 63).length := by rw [hlen, dp_wy 63 n i hi (by omega)]
  have hpc := (few_yes hf).1
  obtain ⟨cl, ol, sl, kl, hsp, hcl, hbl⟩ := hP.at_ i (by omega)
  have HSp := Lib.hid hsp
  obtain ⟨L, hL⟩ : ∃ L, ls.getD i [] = L := ⟨_, rfl⟩
  have hL100 : L.length ≤ 100 := by rw [← hL]; exact hpc _ (getD_mem ls i (by omega))
  rw [hL] at hgr hbl hcl hs1
  obtain ⟨ml, hml⟩ : ∃ m, L.length = m := ⟨_, rfl⟩
  rw [hml] at hcl hL100
  rw [hon] at hgf
  obtain ⟨P, hPp⟩ : ∃ P, proofD i ls = P := ⟨_, rfl⟩
  rw [hPp] at HPv hgr hpl hs2
  rw [hpl] at HPv
  have HBy := Lib.hid (fun W (hB : Below w.heap.size w W) => bytes_any W s1 sl n1 ml c1 kl l L hl1 hml (hb1.below hB) (hbl.below hB))
  rw [decide_eq_true hs1] at HBy
  have HDg := Lib.hid (fun W (s : Option Addr) (c : Nat) (h : Digs W s c P) (hB : Below w.heap.size w W) => digests_any W s s2 n2 n2 c c2 P q hpl hq h (hQ.below hB))
  rw [decide_eq_true hs2] at HDg
  have HCl := Lib.hid (fun W (hB : Below w.heap.size w W) => ((hB.cell (block_lt_of_cell hcl)).trans hcl : W.cell? ⟨cl, ol + i, none⟩ = some (.slice sl ml kl)))
  obtain ⟨F, hF⟩ : ∃ F, fd nodeD 63 n i (leafD l) q = F := ⟨_, rfl⟩
  obtain ⟨R, hR⟩ : ∃ F, rootD ls = F := ⟨_, rfl⟩
  rw [hF] at HFd h32 hon
  rw [hR] at HRt r32 hon
  subst hon
  have HZ := Lib.hid (row_dig (d := F) h32)
  have HY := Lib.hid (row_dig0 (d := F) h32)
  have HX := Lib.hid (rowB_one F)
  clear hn hP he hf hlen hb1 hQ hF hR hgr hgf hpl hlw hpc hsp hcl hbl hL hml hPp hs1 hs2
  go_enter Tryd.func6, Tryd.ntmps6
  go_upto_region 1 with fail
  refine gen_world (Q := fun w => Code.wp _ _ _ _ w) _ (WayAt w (wayV N I s1 s2 n1 n2 c1 c2)) ⟨(Below.refl _ _).alloc (Nat.le_refl _) _, heap_alloc_new _ _⟩ ?_
  intro w1 h1
  have H1 := Lib.hid h1
  clear h1
  go_upto_region 4 with (first
    | (go_at_call 9; refine (HF.out _ H1.out.below).mono ?_; rintro e w' ⟨rfl, q1, rfl⟩; have H2 := Lib.hid (H1.out.later (below_drewN (Below.refl _ _) q1)); have hc2 := H2.out.f2; have hc3 := H2.out.f3)
    | (go_at_call 17; refine (HPv.out _ H2.out.below).mono ?_; rintro e w3 ⟨sp1, cp1, rfl, hd, hb⟩; have HD1 := Lib.hid hd; have H3 := Lib.hid (H2.out.later hb); clear hd hb))
  have hc2 := H3.out.f2
  have hc3 := H3.out.f3
  clear H2
  go_upto_region 5 with (first
    | (go_at_call 20; refine (HFd.out _ H3.out.below).mono ?_; rintro e w6 ⟨rfl, hb⟩; have H6 := Lib.hid (H3.out.later hb); have HD1 := Lib.hid (HD1.out.below hb); clear hb)
    | (refine wpList_store_row rfl 24 (.tmp 9) (.tmp 53) rfl w6.heap.size (rowB F) rfl rfl 24 _ (heap_alloc_new _ _) HZ.out HY.out HX.out ?_))
  refine gen_world (Q := fun w => Code.wp _ _ _ _ w) _ (fun W => FdS w (wayV N I s1 s2 n1 n2 c1 c2) w6.heap.size F W ∧ Below w6.heap.size w6 W) ⟨FdS.made H6.out _ _, below_setRow ((Below.refl _ _).alloc (Nat.le_refl _) _) (Nat.le_refl _) _⟩ ?_
  rintro w7 ⟨h7, hb7⟩
  have HD1 := Lib.hid (HD1.out.below hb7)
  obtain ⟨g, hg⟩ : ∃ g, w6.heap.size = g := ⟨_, rfl⟩
  rw [hg] at h7 ⊢
  have H7 := Lib.hid h7
  clear hg h7 H6 hb7 H3
  go_upto_region 7 with fail
  have hw : ∀ W, Below w7.heap.size w7 W → FdS w (wayV N I s1 s2 n1 n2 c1 c2) g F W := fun W h => H7.out.later h
  refine wp_region_quiet_tail (C := fun W => Below w7.heap.size w7 W) 7 (by kernel_rfl) (by kernel_rfl) ⟨rfl, rfl, rfl, Nat.le_refl _, fun _ _ => rfl⟩ ?_
  simp only [List.take_succ_cons, List.take_zero, List.drop_succ_cons, List.drop_zero]
  refine q_val (.int .i64 0) rfl (fun _ _ => rfl) ?_
  simp only [Act.put, List.setIfInBounds_toArray, List.set_cons_succ, List.set_cons_zero]
  refine q_val (.bool false) rfl (fun _ _ => rfl) ?_
  simp only [Act.put, List.setIfInBounds_toArray, List.set_cons_succ, List.set_cons_zero]
  refine q_val (.bool false) rfl (fun _ _ => rfl) ?_
  simp only [Act.put, List.setIfInBounds_toArray, List.set_cons_succ, List.set_cons_zero]
  refine q_val (.agg (rowB F)) rfl (fun W hW => exec_load_row 24 (.tmp 9) rfl g rfl 24 (rowB F) (0, 0) _ ((hw W hW).dig) Tryd.underlying24 rfl HZ.out) ?_
  simp only [Act.put, List.setIfInBounds_toArray, List.set_cons_succ, List.set_cons_zero]
  refine q_val (.slice sp n cap) rfl (fun _ _ => rfl) ?_
  simp only [Act.put, List.setIfInBounds_toArray, List.set_cons_succ, List.set_cons_zero]
  refine q_call 13 #[.slice sp n cap] (.agg (rowB F)) rfl (fun _ _ => exec_call1 13 (.tmp 61) #[22] _ rfl rfl (cfRoot _ _)) (fun W hW => (HRt.out W (hw W hW).way.below).mono fun e W' h => ⟨h.1, hW.trans (h.2.mono hW.size)⟩) ?_
  simp only [Act.put, List.setIfInBounds_toArray, List.set_cons_succ, List.set_cons_zero]
  refine q_val (.bool false) rfl (fun W _ => by rw [exec_neD (.tmp 60) (.tmp 62) rfl F F rfl rfl h32 h32]; simp) ?_
  simp only [Act.put, List.setIfInBounds_toArray, List.set_cons_succ, List.set_cons_zero]
  refine wpQuiet_nil ?_
  intro w9 hw9
  have H7 := Lib.hid (H7.out.later hw9)
  have HD1 := Lib.hid (HD1.out.below hw9)
  clear hw9 hw HRt
  go_upto_region 9 with fail
  have hw : ∀ W, Below w9.heap.size w9 W → FdS w (wayV N I s1 s2 n1 n2 c1 c2) g F W := fun W h => H7.out.later h
  refine wp_region_quiet_tail (C := fun W => Below w9.heap.size w9 W) 13 (by kernel_rfl) (by kernel_rfl) ⟨rfl, rfl, rfl, Nat.le_refl _, fun _ _ => rfl⟩ ?_
  simp only [List.take_succ_cons, List.take_zero, List.drop_succ_cons, List.drop_zero]
  refine q_val (.pointer (some ⟨w.heap.size, 2, none⟩)) rfl (fun W _ => exec_way_at (.tmp 5) 2 (by decide) rfl w.heap.size rfl) ?_
  simp only [Act.put, List.setIfInBounds_toArray, List.set_cons_succ, List.set_cons_zero]
  refine q_val (.slice s1 n1 c1) rfl (fun W hW => exec_load1 28 (.tmp 66) rfl ⟨w.heap.size, 2, none⟩ rfl _ ((hw W hW).way.f2) _ Tryd.underlying28 rfl) ?_
  simp only [Act.put, List.setIfInBounds_toArray, List.set_cons_succ, List.set_cons_zero]
  refine q_val (.slice sp n cap) rfl (fun _ _ => rfl) ?_
  simp only [Act.put, List.setIfInBounds_toArray, List.set_cons_succ, List.set_cons_zero]
  refine q_val (.int .i64 (i : Nat)) rfl (fun _ _ => rfl) ?_
  simp only [Act.put, List.setIfInBounds_toArray, List.set_cons_succ, List.set_cons_zero]
  refine q_val (.pointer (some ⟨cl, ol + i, none⟩)) rfl (fun W hW => exec_pcO (.tmp 68) (.tmp 69) rfl cl ol n cap i (congrArg (fun s => Value.slice s n cap) HSp.out) rfl hi) ?_
  simp only [Act.put, List.setIfInBounds_toArray, List.set_cons_succ, List.set_cons_zero]
  refine q_val (.slice sl ml kl) rfl (fun W hW => exec_load1 28 (.tmp 70) rfl ⟨cl, ol + i, none⟩ rfl _ (HCl.out W (hw W hW).way.below) _ Tryd.underlying28 rfl) ?_
  simp only [Act.put, List.setIfInBounds_toArray, List.set_cons_succ, List.set_cons_zero]
  refine q_call 27 #[.slice s1 n1 c1, .slice sl ml kl] (.bool true) rfl (fun _ _ => exec_call2 27 (.tmp 67) (.tmp 71) #[28, 28] _ _ rfl rfl rfl (cfBytes _ _)) (fun W hW => (HBy.out W (hw W hW).way.below).mono fun e W' h => ⟨h.below.1, hW.trans (h.below.2.mono hW.size)⟩) ?_
  simp only [Act.put, List.setIfInBounds_toArray, List.set_cons_succ, List.set_cons_zero]
  refine q_val (.bool true) rfl (fun _ _ => rfl) ?_
  simp only [Act.put, List.setIfInBounds_toArray, List.set_cons_succ, List.set_cons_zero]
  refine q_val (.slice sp1 n2 cp1) rfl (fun _ _ => rfl) ?_
  simp only [Act.put, List.setIfInBounds_toArray, List.set_cons_succ, List.set_cons_zero]
  refine q_val (.pointer (some ⟨w.heap.size, 3, none⟩)) rfl (fun W _ => exec_way_at (.tmp 5) 3 (by decide) rfl w.heap.size rfl) ?_
  simp only [Act.put, List.setIfInBounds_toArray, List.set_cons_succ, List.set_cons_zero]
  refine q_val (.slice s2 n2 c2) rfl (fun W hW => exec_load1 33 (.tmp 75) rfl ⟨w.heap.size, 3, none⟩ rfl _ ((hw W hW).way.f3) _ Tryd.underlying33 rfl) ?_
  simp only [Act.put, List.setIfInBounds_toArray, List.set_cons_succ, List.set_cons_zero]
  refine q_call 18 #[.slice sp1 n2 cp1, .slice s2 n2 c2] (.bool true) rfl (fun _ _ => exec_call2 18 (.tmp 74) (.tmp 76) #[33, 33] _ _ rfl rfl rfl (cfDigests _ _)) (fun W hW => (HDg.out W sp1 cp1 (HD1.out.below hW) (hw W hW).way.below).mono fun e W' h => ⟨h.below.1, hW.trans (h.below.2.mono hW.size)⟩) ?_
  simp only [Act.put, List.setIfInBounds_toArray, List.set_cons_succ, List.set_cons_zero]
  refine q_val (.bool true) rfl (fun _ _ => rfl) ?_
  simp only [Act.put, List.setIfInBounds_toArray, List.set_cons_succ, List.set_cons_zero]
  refine wpQuiet_nil ?_
  intro v1 hv1
  have H7 := Lib.hid (H7.out.later hv1)
  have HD1 := Lib.hid (HD1.out.below hv1)
  clear hv1 hw HBy
  go_upto_region 10 with fail
  have hw : ∀ W, Below v1.heap.size v1 W → FdS w (wayV N I s1 s2 n1 n2 c1 c2) g F W := fun W h => H7.out.later h
  refine wp_region_quiet_tail (C := fun W => Below v1.heap.size v1 W) 17 (by kernel_rfl) (by kernel_rfl) ⟨rfl, rfl, rfl, Nat.le_refl _, fun _ _ => rfl⟩ ?_
  simp only [List.take_succ_cons, List.take_zero, List.drop_succ_cons, List.drop_zero]
  go_big_quiet_step (fail)
  go_big_quiet_step (fail)
  go_big_quiet_step (fail)
  go_big_quiet_step (fail)
  go_big_quiet_step (fail)
  go_big_quiet_step (fail)
  go_big_quiet_step (fail)
  go_big_quiet_step (fail)
  go_big_quiet_step (fail)
  go_big_quiet_step (fail)
  go_big_quiet_step (fail)
  go_big_quiet_step (fail)
  go_big_quiet_step (fail)
  refine q_val (.bool true) rfl (fun _ _ => rfl) ?_
  simp only [Act.put, List.setIfInBounds_toArray, List.set_cons_succ, List.set_cons_zero]
  go_big_quiet_step (fail)
  refine q_call 10 #[] (.bool true) rfl (fun _ _ => exec_call0 10 #[] rfl (cfAwake _ _)) (fun W hW => (awake_any W (HE.out.below (hw W hW).way.below)).mono fun e W' h => ⟨h.1, hW.trans (h.2.mono hW.size)⟩) ?_
  simp only [Act.put, List.setIfInBounds_toArray, List.set_cons_succ, List.set_cons_zero]
  refine q_val (.bool true) rfl (fun _ _ => rfl) ?_
  simp only [Act.put, List.setIfInBounds_toArray, List.set_cons_succ, List.set_cons_zero]
  refine wpQuiet_nil ?_
  intro v2 hv2
  have H8 := Lib.hid (H7.out.later hv2)
  clear hv2 hw
  go_wp2
  go_ret
  exact ⟨rfl, H8.out.way.below⟩
set_option maxRecDepth 100000 in
set_option maxHeartbeats 4000000 in
theorem only_one (w : World) (i : Nat) (N I : Int) (sp s1 s2 : Option Addr) (n cap n1 n2 c1 c2 : Nat) (ls : List (List Int)) (hn : ls.length = n) (hP : Pcs w sp cap ls) (he : Env w) (hf : few ls = true) (h100 : n1 ≤ 100) (h70 : n2 ≤ 70) (hi : i < n) (l : List Int) (q : List (List Int)) (hl1 : l.length = n1) (hb1 : Byt w s1 c1 l) (hq : q.length = n2) (hQ : Digs w s2 c2 q) (hlen : n2 = dp 63 n i) (hon : fd nodeD 63 n i (leafD l) q = rootD ls) (hs1 : l ≠ ls.getD i []) :
    Calls Tryd.prog 6 #[.slice sp n cap, .int .i64 i, .agg #[.int .i64 N, .int .i64 I, .slice s1 n1 c1, .slice s2 n2 c2]] w fun e w' => e = .returned (.bool true) ∧ Below w.heap.size w w' := by
  have HE := Lib.hid he
  have HF := Lib.hid (fun W (hb : Below w.heap.size w W) => few_any W sp n cap ls hn (hP.below hb))
  rw [hf] at HF
  have hd1 : decide ((100 : Int) < (n1 : Int)) = false := decide_eq_false (by omega)
  have hd2 : decide ((70 : Int) < (n2 : Int)) = false := decide_eq_false (by omega)
  have hd3 : decide ((i : Int) < 0) = false := decide_eq_false (by omega)
  have hd4 : decide ((n : Int) ≤ (i : Int)) = false := decide_eq_false (by omega)
  have hd4' : decide (n ≤ i) = false := decide_eq_false (by omega)
  have hn20 : n ≤ 20 := by rw [← hn]; exact (few_yes hf).2
  have HM : Hid (Mild ls) := few_mild hf
  have HPv := Lib.hid (fun W (hb : Below w.heap.size w W) => prove_yes i W sp n cap ls hn (hP.below hb) (HE.out.below hb) HM.out hi)
  have HFd := Lib.hid (fun W (hb : Below w.heap.size w W) => fold_any i n W s1 s2 n1 n2 c1 c2 l q hi (by omega) hl1 (hb1.below hb) (by omega) hq (hQ.below hb) (HE.out.below hb) hlen)
  have HRt := Lib.hid (fun W (hb : Below w.heap.size w W) => root_any W sp n cap ls hn (hP.below hb) (HE.out.below hb) HM.out)
  have h32 := fd_32 63 n i (leafD l) q (leafD_length l)
  have r32 := rootD_length ls
  have hgr := go_root ls i (by omega) (by omega)
  rw [hn] at hgr
  have hgf := fd_go nodeD 63 n i (leafD l) q hi (by omega) (by rw [hq, hlen])
  have hpl : (proofD i ls).length = n2 := by rw [proofD_pf i ls 63 (by omega), pf_length, List.length_map, hn, hlen]
  have hlw : n2 = (wy n i 63).length := by rw [hlen, dp_wy 63 n i hi (by omega)]
  have hpc := (few_yes hf).1
  obtain ⟨cl, ol, sl, kl, hsp, hcl, hbl⟩ := hP.at_ i (by omega)
  have HSp := Lib.hid hsp
  obtain ⟨L, hL⟩ : ∃ L, ls.getD i [] = L := ⟨_, rfl⟩
  have hL100 : L.length ≤ 100 := by rw [← hL]; exact hpc _ (getD_mem ls i (by omega))
  rw [hL] at hgr hbl hcl hs1
  obtain ⟨ml, hml⟩ : ∃ m, L.length = m := ⟨_, rfl⟩
  rw [hml] at hcl hL100
  rw [hon] at hgf
  obtain ⟨P, hPp⟩ : ∃ P, proofD i ls = P := ⟨_, rfl⟩
  rw [hPp] at HPv hgr hpl
  rw [hpl] at HPv
  have HBy := Lib.hid (fun W (hB : Below w.heap.size w W) => bytes_any W s1 sl n1 ml c1 kl l L hl1 hml (hb1.below hB) (hbl.below hB))
  rw [decide_eq_false hs1] at HBy
  have HFn := Lib.hid (fun W (hB : Below w.heap.size w W) (s : Option Addr) (c : Nat) (h : Digs W s c P) => found_any n i W 0 0 N I sl s s1 s2 ml n1 n2 kl c c1 c2 L l P q hi (by omega) hml hl1 hL100 h100 hpl hq hlw (hbl.below hB) (hb1.below hB) h (hQ.below hB) (HE.out.below hB) (hgr.trans hgf) (fun e => hs1 e.1.symm))
  have HCl := Lib.hid (fun W (hB : Below w.heap.size w W) => ((hB.cell (block_lt_of_cell hcl)).trans hcl : W.cell? ⟨cl, ol + i, none⟩ = some (.slice sl ml kl)))
  obtain ⟨F, hF⟩ : ∃ F, fd nodeD 63 n i (leafD l) q = F := ⟨_, rfl⟩
  obtain ⟨R, hR⟩ : ∃ F, rootD ls = F := ⟨_, rfl⟩
  rw [hF] at HFd h32 hon
  rw [hR] at HRt r32 hon
  subst hon
  have HZ := Lib.hid (row_dig (d := F) h32)
  have HY := Lib.hid (row_dig0 (d := F) h32)
  have HX := Lib.hid (rowB_one F)
  clear hn hP he hf hlen hb1 hQ hF hR hgr hgf hpl hlw hpc hsp hcl hbl hL hml hPp hs1
  go_enter Tryd.func6, Tryd.ntmps6
  go_upto_region 1 with fail
  refine gen_world (Q := fun w => Code.wp _ _ _ _ w) _ (WayAt w (wayV N I s1 s2 n1 n2 c1 c2)) ⟨(Below.refl _ _).alloc (Nat.le_refl _) _, heap_alloc_new _ _⟩ ?_
  intro w1 h1
  have H1 := Lib.hid h1
  clear h1
  go_upto_region 4 with (first
    | (go_at_call 9; refine (HF.out _ H1.out.below).mono ?_; rintro e w' ⟨rfl, q1, rfl⟩; have H2 := Lib.hid (H1.out.later (below_drewN (Below.refl _ _) q1)); have hc2 := H2.out.f2; have hc3 := H2.out.f3)
    | (go_at_call 17; refine (HPv.out _ H2.out.below).mono ?_; rintro e w3 ⟨sp1, cp1, rfl, hd, hb⟩; have HD1 := Lib.hid hd; have H3 := Lib.hid (H2.out.later hb); clear hd hb))
  have hc2 := H3.out.f2
  have hc3 := H3.out.f3
  clear H2
  go_upto_region 5 with (first
    | (go_at_call 20; refine (HFd.out _ H3.out.below).mono ?_; rintro e w6 ⟨rfl, hb⟩; have H6 := Lib.hid (H3.out.later hb); have HD1 := Lib.hid (HD1.out.below hb); clear hb)
    | (refine wpList_store_row rfl 24 (.tmp 9) (.tmp 53) rfl w6.heap.size (rowB F) rfl rfl 24 _ (heap_alloc_new _ _) HZ.out HY.out HX.out ?_))
  refine gen_world (Q := fun w => Code.wp _ _ _ _ w) _ (fun W => FdS w (wayV N I s1 s2 n1 n2 c1 c2) w6.heap.size F W ∧ Below w6.heap.size w6 W) ⟨FdS.made H6.out _ _, below_setRow ((Below.refl _ _).alloc (Nat.le_refl _) _) (Nat.le_refl _) _⟩ ?_
  rintro w7 ⟨h7, hb7⟩
  have HD1 := Lib.hid (HD1.out.below hb7)
  obtain ⟨g, hg⟩ : ∃ g, w6.heap.size = g := ⟨_, rfl⟩
  rw [hg] at h7 ⊢
  have H7 := Lib.hid h7
  clear hg h7 H6 hb7 H3
  go_upto_region 7 with fail
  have hw : ∀ W, Below w7.heap.size w7 W → FdS w (wayV N I s1 s2 n1 n2 c1 c2) g F W := fun W h => H7.out.later h
  refine wp_region_quiet_tail (C := fun W => Below w7.heap.size w7 W) 7 (by kernel_rfl) (by kernel_rfl) ⟨rfl, rfl, rfl, Nat.le_refl _, fun _ _ => rfl⟩ ?_
  simp only [List.take_succ_cons, List.take_zero, List.drop_succ_cons, List.drop_zero]
  refine q_val (.int .i64 0) rfl (fun _ _ => rfl) ?_
  simp only [Act.put, List.setIfInBounds_toArray, List.set_cons_succ, List.set_cons_zero]
  refine q_val (.bool false) rfl (fun _ _ => rfl) ?_
  simp only [Act.put, List.setIfInBounds_toArray, List.set_cons_succ, List.set_cons_zero]
  refine q_val (.bool false) rfl (fun _ _ => rfl) ?_
  simp only [Act.put, List.setIfInBounds_toArray, List.set_cons_succ, List.set_cons_zero]
  refine q_val (.agg (rowB F)) rfl (fun W hW => exec_load_row 24 (.tmp 9) rfl g rfl 24 (rowB F) (0, 0) _ ((hw W hW).dig) Tryd.underlying24 rfl HZ.out) ?_
  simp only [Act.put, List.setIfInBounds_toArray, List.set_cons_succ, List.set_cons_zero]
  refine q_val (.slice sp n cap) rfl (fun _ _ => rfl) ?_
  simp only [Act.put, List.setIfInBounds_toArray, List.set_cons_succ, List.set_cons_zero]
  refine q_call 13 #[.slice sp n cap] (.agg (rowB F)) rfl (fun _ _ => exec_call1 13 (.tmp 61) #[22] _ rfl rfl (cfRoot _ _)) (fun W hW => (HRt.out W (hw W hW).way.below).mono fun e W' h => ⟨h.1, hW.trans (h.2.mono hW.size)⟩) ?_
  simp only [Act.put, List.setIfInBounds_toArray, List.set_cons_succ, List.set_cons_zero]
  refine q_val (.bool false) rfl (fun W _ => by rw [exec_neD (.tmp 60) (.tmp 62) rfl F F rfl rfl h32 h32]; simp) ?_
  simp only [Act.put, List.setIfInBounds_toArray, List.set_cons_succ, List.set_cons_zero]
  refine wpQuiet_nil ?_
  intro w9 hw9
  have H7 := Lib.hid (H7.out.later hw9)
  have HD1 := Lib.hid (HD1.out.below hw9)
  clear hw9 hw HRt
  go_upto_region 9 with fail
  have hw : ∀ W, Below w9.heap.size w9 W → FdS w (wayV N I s1 s2 n1 n2 c1 c2) g F W := fun W h => H7.out.later h
  refine wp_region_quiet_tail (C := fun W => Below w9.heap.size w9 W) 13 (by kernel_rfl) (by kernel_rfl) ⟨rfl, rfl, rfl, Nat.le_refl _, fun _ _ => rfl⟩ ?_
  simp only [List.take_succ_cons, List.take_zero, List.drop_succ_cons, List.drop_zero]
  refine q_val (.pointer (some ⟨w.heap.size, 2, none⟩)) rfl (fun W _ => exec_way_at (.tmp 5) 2 (by decide) rfl w.heap.size rfl) ?_
  simp only [Act.put, List.setIfInBounds_toArray, List.set_cons_succ, List.set_cons_zero]
  refine q_val (.slice s1 n1 c1) rfl (fun W hW => exec_load1 28 (.tmp 66) rfl ⟨w.heap.size, 2, none⟩ rfl _ ((hw W hW).way.f2) _ Tryd.underlying28 rfl) ?_
  simp only [Act.put, List.setIfInBounds_toArray, List.set_cons_succ, List.set_cons_zero]
  refine q_val (.slice sp n cap) rfl (fun _ _ => rfl) ?_
  simp only [Act.put, List.setIfInBounds_toArray, List.set_cons_succ, List.set_cons_zero]
  refine q_val (.int .i64 (i : Nat)) rfl (fun _ _ => rfl) ?_
  simp only [Act.put, List.setIfInBounds_toArray, List.set_cons_succ, List.set_cons_zero]
  refine q_val (.pointer (some ⟨cl, ol + i, none⟩)) rfl (fun W hW => exec_pcO (.tmp 68) (.tmp 69) rfl cl ol n cap i (congrArg (fun s => Value.slice s n cap) HSp.out) rfl hi) ?_
  simp only [Act.put, List.setIfInBounds_toArray, List.set_cons_succ, List.set_cons_zero]
  refine q_val (.slice sl ml kl) rfl (fun W hW => exec_load1 28 (.tmp 70) rfl ⟨cl, ol + i, none⟩ rfl _ (HCl.out W (hw W hW).way.below) _ Tryd.underlying28 rfl) ?_
  simp only [Act.put, List.setIfInBounds_toArray, List.set_cons_succ, List.set_cons_zero]
  refine q_call 27 #[.slice s1 n1 c1, .slice sl ml kl] (.bool false) rfl (fun _ _ => exec_call2 27 (.tmp 67) (.tmp 71) #[28, 28] _ _ rfl rfl rfl (cfBytes _ _)) (fun W hW => (HBy.out W (hw W hW).way.below).mono fun e W' h => ⟨h.below.1, hW.trans (h.below.2.mono hW.size)⟩) ?_
  simp only [Act.put, List.setIfInBounds_toArray, List.set_cons_succ, List.set_cons_zero]
  refine q_val (.bool false) rfl (fun _ _ => rfl) ?_
  simp only [Act.put, List.setIfInBounds_toArray, List.set_cons_succ, List.set_cons_zero]
  refine BigFrame.wpQuiet_skip rfl ?_
  simp only [Act.put, List.setIfInBounds_toArray, List.set_cons_succ, List.set_cons_zero]
  refine BigFrame.wpQuiet_skip rfl ?_
  simp only [Act.put, List.setIfInBounds_toArray, List.set_cons_succ, List.set_cons_zero]
  refine BigFrame.wpQuiet_skip rfl ?_
  simp only [Act.put, List.setIfInBounds_toArray, List.set_cons_succ, List.set_cons_zero]
  refine BigFrame.wpQuiet_skip rfl ?_
  simp only [Act.put, List.setIfInBounds_toArray, List.set_cons_succ, List.set_cons_zero]
  refine q_val (.bool false) rfl (fun _ _ => rfl) ?_
  simp only [Act.put, List.setIfInBounds_toArray, List.set_cons_succ, List.set_cons_zero]
  refine wpQuiet_nil ?_
  intro v1 hv1
  have H7 := Lib.hid (H7.out.later hv1)
  have HD1 := Lib.hid (HD1.out.below hv1)
  clear hv1 hw HBy
  go_upto_region 10 with fail
  have hw : ∀ W, Below v1.heap.size v1 W → FdS w (wayV N I s1 s2 n1 n2 c1 c2) g F W := fun W h => H7.out.later h
  refine wp_region_quiet_tail (C := fun W => Below v1.heap.size v1 W) 17 (by kernel_rfl) (by kernel_rfl) ⟨rfl, rfl, rfl, Nat.le_refl _, fun _ _ => rfl⟩ ?_
  simp only [List.take_succ_cons, List.take_zero, List.drop_succ_cons, List.drop_zero]
  refine q_val (.bool false) rfl (fun _ _ => rfl) ?_
  simp only [Act.put, List.setIfInBounds_toArray, List.set_cons_succ, List.set_cons_zero]
  refine q_val (.bool false) rfl (fun _ _ => rfl) ?_
  simp only [Act.put, List.setIfInBounds_toArray, List.set_cons_succ, List.set_cons_zero]
  refine q_val (.slice sp n cap) rfl (fun _ _ => rfl) ?_
  simp only [Act.put, List.setIfInBounds_toArray, List.set_cons_succ, List.set_cons_zero]
  refine q_val (.int .i64 (n : Nat)) rfl (fun _ _ => exec_lenP (.tmp 81) rfl sp n cap rfl) ?_
  simp only [Act.put, List.setIfInBounds_toArray, List.set_cons_succ, List.set_cons_zero]
  refine q_val (.int .i64 (i : Nat)) rfl (fun _ _ => rfl) ?_
  simp only [Act.put, List.setIfInBounds_toArray, List.set_cons_succ, List.set_cons_zero]
  refine q_val (.slice sp n cap) rfl (fun _ _ => rfl) ?_
  simp only [Act.put, List.setIfInBounds_toArray, List.set_cons_succ, List.set_cons_zero]
  refine q_val (.int .i64 (i : Nat)) rfl (fun _ _ => rfl) ?_
  simp only [Act.put, List.setIfInBounds_toArray, List.set_cons_succ, List.set_cons_zero]
  refine q_val (.pointer (some ⟨cl, ol + i, none⟩)) rfl (fun W hW => exec_pcO (.tmp 84) (.tmp 85) rfl cl ol n cap i (congrArg (fun s => Value.slice s n cap) HSp.out) rfl hi) ?_
  simp only [Act.put, List.setIfInBounds_toArray, List.set_cons_succ, List.set_cons_zero]
  refine q_val (.slice sl ml kl) rfl (fun W hW => exec_load1 28 (.tmp 86) rfl ⟨cl, ol + i, none⟩ rfl _ (HCl.out W (hw W hW).way.below) _ Tryd.underlying28 rfl) ?_
  simp only [Act.put, List.setIfInBounds_toArray, List.set_cons_succ, List.set_cons_zero]
  refine q_val (.slice sp1 n2 cp1) rfl (fun _ _ => rfl) ?_
  simp only [Act.put, List.setIfInBounds_toArray, List.set_cons_succ, List.set_cons_zero]
  refine q_val (.agg #[.int .i64 0, .int .i64 0, .slice sl ml kl, .slice sp1 n2 cp1]) rfl (fun _ _ => exec_way (.tmp 87) (.tmp 88) rfl sl sp1 ml n2 kl cp1 rfl rfl) ?_
  simp only [Act.put, List.setIfInBounds_toArray, List.set_cons_succ, List.set_cons_zero]
  refine q_val (.agg #[.int .i64 N, .int .i64 I, .slice s1 n1 c1, .slice s2 n2 c2]) rfl (fun W hW => exec_load_row 35 (.tmp 5) rfl w.heap.size rfl 35 _ (0, 0) _ ((hw W hW).way.box) Tryd.underlying35 rfl sizeWay) ?_
  simp only [Act.put, List.setIfInBounds_toArray, List.set_cons_succ, List.set_cons_zero]
  refine q_call 28 #[.int .i64 (n : Nat), .int .i64 (i : Nat), .agg #[.int .i64 0, .int .i64 0, .slice sl ml kl, .slice sp1 n2 cp1], .agg #[.int .i64 N, .int .i64 I, .slice s1 n1 c1, .slice s2 n2 c2]] (.bool true) rfl (fun _ _ => exec_call4 28 (.tmp 82) (.tmp 83) (.tmp 89) (.tmp 90) #[3, 3, 35, 35] _ _ _ _ rfl rfl rfl rfl rfl (cfFound _ _)) (fun W hW => (HFn.out W (hw W hW).way.below sp1 cp1 (HD1.out.below hW)).mono fun e W' h => ⟨h.1, hW.trans (h.2.mono hW.size)⟩) ?_
  simp only [Act.put, List.setIfInBounds_toArray, List.set_cons_succ, List.set_cons_zero]
  refine q_val (.bool true) rfl (fun _ _ => rfl) ?_
  simp only [Act.put, List.setIfInBounds_toArray, List.set_cons_succ, List.set_cons_zero]
  refine q_val (.bool true) rfl (fun _ _ => rfl) ?_
  simp only [Act.put, List.setIfInBounds_toArray, List.set_cons_succ, List.set_cons_zero]
  refine q_call 10 #[] (.bool true) rfl (fun _ _ => exec_call0 10 #[] rfl (cfAwake _ _)) (fun W hW => (awake_any W (HE.out.below (hw W hW).way.below)).mono fun e W' h => ⟨h.1, hW.trans (h.2.mono hW.size)⟩) ?_
  simp only [Act.put, List.setIfInBounds_toArray, List.set_cons_succ, List.set_cons_zero]
  refine q_val (.bool true) rfl (fun _ _ => rfl) ?_
  simp only [Act.put, List.setIfInBounds_toArray, List.set_cons_succ, List.set_cons_zero]
  refine wpQuiet_nil ?_
  intro v2 hv2
  have H8 := Lib.hid (H7.out.later hv2)
  clear hv2 hw
  go_wp2
  go_ret
  exact ⟨rfl, H8.out.way.below⟩
set_option maxRecDepth 100000 in
set_option maxHeartbeats 4000000 in
theorem only_two (w : World) (i : Nat) (N I : Int) (sp s1 s2 : Option Addr) (n cap n1 n2 c1 c2 : Nat) (ls : List (List Int)) (hn : ls.length = n) (hP : Pcs w sp cap ls) (he : Env w) (hf : few ls = true) (h100 : n1 ≤ 100) (h70 : n2 ≤ 70) (hi : i < n) (l : List Int) (q : List (List Int)) (hl1 : l.length = n1) (hb1 : Byt w s1 c1 l) (hq : q.length = n2) (hQ : Digs w s2 c2 q) (hlen : n2 = dp 63 n i) (hon : fd nodeD 63 n i (leafD l) q = rootD ls) (hs1 : l = ls.getD i []) (hs2 : proofD i ls ≠ q) :
    Calls Tryd.prog 6 #[.slice sp n cap, .int .i64 i, .agg #[.int .i64 N, .int .i64 I, .slice s1 n1 c1, .slice s2 n2 c2]] w fun e w' => e = .returned (.bool true) ∧ Below w.heap.size w w' := by
  have HE := Lib.hid he
  have HF := Lib.hid (fun W (hb : Below w.heap.size w W) => few_any W sp n cap ls hn (hP.below hb))
  rw [hf] at HF
  have hd1 : decide ((100 : Int) < (n1 : Int)) = false := decide_eq_false (by omega)
  have hd2 : decide ((70 : Int) < (n2 : Int)) = false := decide_eq_false (by omega)
  have hd3 : decide ((i : Int) < 0) = false := decide_eq_false (by omega)
  have hd4 : decide ((n : Int) ≤ (i : Int)) = false := decide_eq_false (by omega)
  have hd4' : decide (n ≤ i) = false := decide_eq_false (by omega)
  have hn20 : n ≤ 20 := by rw [← hn]; exact (few_yes hf).2
  have HM : Hid (Mild ls) := few_mild hf
  have HPv := Lib.hid (fun W (hb : Below w.heap.size w W) => prove_yes i W sp n cap ls hn (hP.below hb) (HE.out.below hb) HM.out hi)
  have HFd := Lib.hid (fun W (hb : Below w.heap.size w W) => fold_any i n W s1 s2 n1 n2 c1 c2 l q hi (by omega) hl1 (hb1.below hb) (by omega) hq (hQ.below hb) (HE.out.below hb) hlen)
  have HRt := Lib.hid (fun W (hb : Below w.heap.size w W) => root_any W sp n cap ls hn (hP.below hb) (HE.out.below hb) HM.out)
  have h32 := fd_32 63 n i (leafD l) q (leafD_length l)
  have r32 := rootD_length ls
  have hgr := go_root ls i (by omega) (by omega)
  rw [hn] at hgr
  have hgf := fd_go nodeD 63 n i (leafD l) q hi (by omega) (by rw [hq, hlen])
  have hpl : (proofD i ls).length = n2 := by rw [proofD_pf i ls 63 (by omega), pf_length, List.length_map, hn, hlen]
  have hlw : n2 = (wy n i 63).length := by rw [hlen, dp_wy 63 n i hi (by omega)]
  have hpc := (few_yes hf).1
  obtain ⟨cl, ol, sl, kl, hsp, hcl, hbl⟩ := hP.at_ i (by omega)
  have HSp := Lib.hid hsp
  obtain ⟨L, hL⟩ : ∃ L, ls.getD i [] = L := ⟨_, rfl⟩
  have hL100 : L.length ≤ 100 := by rw [← hL]; exact hpc _ (getD_mem ls i (by omega))
  rw [hL] at hgr hbl hcl hs1
  obtain ⟨ml, hml⟩ : ∃ m, L.length = m := ⟨_, rfl⟩
  rw [hml] at hcl hL100
  rw [hon] at hgf
  obtain ⟨P, hPp⟩ : ∃ P, proofD i ls = P := ⟨_, rfl⟩
  rw [hPp] at HPv hgr hpl hs2
  rw [hpl] at HPv
  have HBy := Lib.hid (fun W (hB : Below w.heap.size w W) => bytes_any W s1 sl n1 ml c1 kl l L hl1 hml (hb1.below hB) (hbl.below hB))
  rw [decide_eq_true hs1] at HBy
  have HDg := Lib.hid (fun W (s : Option Addr) (c : Nat) (h : Digs W s c P) (hB : Below w.heap.size w W) => digests_any W s s2 n2 n2 c c2 P q hpl hq h (hQ.below hB))
  rw [decide_eq_false hs2] at HDg
  have HFn := Lib.hid (fun W (hB : Below w.heap.size w W) (s : Option Addr) (c : Nat) (h : Digs W s c P) => found_any n i W 0 0 N I sl s s1 s2 ml n1 n2 kl c c1 c2 L l P q hi (by omega) hml hl1 hL100 h100 hpl hq hlw (hbl.below hB) (hb1.below hB) h (hQ.below hB) (HE.out.below hB) (hgr.trans hgf) (fun e => hs2 e.2))
  have HCl := Lib.hid (fun W (hB : Below w.heap.size w W) => ((hB.cell (block_lt_of_cell hcl)).trans hcl : W.cell? ⟨cl, ol + i, none⟩ = some (.slice sl ml kl)))
  obtain ⟨F, hF⟩ : ∃ F, fd nodeD 63 n i (leafD l) q = F := ⟨_, rfl⟩
  obtain ⟨R, hR⟩ : ∃ F, rootD ls = F := ⟨_, rfl⟩
  rw [hF] at HFd h32 hon
  rw [hR] at HRt r32 hon
  subst hon
  have HZ := Lib.hid (row_dig (d := F) h32)
  have HY := Lib.hid (row_dig0 (d := F) h32)
  have HX := Lib.hid (rowB_one F)
  clear hn hP he hf hlen hb1 hQ hF hR hgr hgf hpl hlw hpc hsp hcl hbl hL hml hPp hs1 hs2
  go_enter Tryd.func6, Tryd.ntmps6
  go_upto_region 1 with fail
  refine gen_world (Q := fun w => Code.wp _ _ _ _ w) _ (WayAt w (wayV N I s1 s2 n1 n2 c1 c2)) ⟨(Below.refl _ _).alloc (Nat.le_refl _) _, heap_alloc_new _ _⟩ ?_
  intro w1 h1
  have H1 := Lib.hid h1
  clear h1
  go_upto_region 4 with (first
    | (go_at_call 9; refine (HF.out _ H1.out.below).mono ?_; rintro e w' ⟨rfl, q1, rfl⟩; have H2 := Lib.hid (H1.out.later (below_drewN (Below.refl _ _) q1)); have hc2 := H2.out.f2; have hc3 := H2.out.f3)
    | (go_at_call 17; refine (HPv.out _ H2.out.below).mono ?_; rintro e w3 ⟨sp1, cp1, rfl, hd, hb⟩; have HD1 := Lib.hid hd; have H3 := Lib.hid (H2.out.later hb); clear hd hb))
  have hc2 := H3.out.f2
  have hc3 := H3.out.f3
  clear H2
  go_upto_region 5 with (first
    | (go_at_call 20; refine (HFd.out _ H3.out.below).mono ?_; rintro e w6 ⟨rfl, hb⟩; have H6 := Lib.hid (H3.out.later hb); have HD1 := Lib.hid (HD1.out.below hb); clear hb)
    | (refine wpList_store_row rfl 24 (.tmp 9) (.tmp 53) rfl w6.heap.size (rowB F) rfl rfl 24 _ (heap_alloc_new _ _) HZ.out HY.out HX.out ?_))
  refine gen_world (Q := fun w => Code.wp _ _ _ _ w) _ (fun W => FdS w (wayV N I s1 s2 n1 n2 c1 c2) w6.heap.size F W ∧ Below w6.heap.size w6 W) ⟨FdS.made H6.out _ _, below_setRow ((Below.refl _ _).alloc (Nat.le_refl _) _) (Nat.le_refl _) _⟩ ?_
  rintro w7 ⟨h7, hb7⟩
  have HD1 := Lib.hid (HD1.out.below hb7)
  obtain ⟨g, hg⟩ : ∃ g, w6.heap.size = g := ⟨_, rfl⟩
  rw [hg] at h7 ⊢
  have H7 := Lib.hid h7
  clear hg h7 H6 hb7 H3
  go_upto_region 7 with fail
  have hw : ∀ W, Below w7.heap.size w7 W → FdS w (wayV N I s1 s2 n1 n2 c1 c2) g F W := fun W h => H7.out.later h
  refine wp_region_quiet_tail (C := fun W => Below w7.heap.size w7 W) 7 (by kernel_rfl) (by kernel_rfl) ⟨rfl, rfl, rfl, Nat.le_refl _, fun _ _ => rfl⟩ ?_
  simp only [List.take_succ_cons, List.take_zero, List.drop_succ_cons, List.drop_zero]
  refine q_val (.int .i64 0) rfl (fun _ _ => rfl) ?_
  simp only [Act.put, List.setIfInBounds_toArray, List.set_cons_succ, List.set_cons_zero]
  refine q_val (.bool false) rfl (fun _ _ => rfl) ?_
  simp only [Act.put, List.setIfInBounds_toArray, List.set_cons_succ, List.set_cons_zero]
  refine q_val (.bool false) rfl (fun _ _ => rfl) ?_
  simp only [Act.put, List.setIfInBounds_toArray, List.set_cons_succ, List.set_cons_zero]
  refine q_val (.agg (rowB F)) rfl (fun W hW => exec_load_row 24 (.tmp 9) rfl g rfl 24 (rowB F) (0, 0) _ ((hw W hW).dig) Tryd.underlying24 rfl HZ.out) ?_
  simp only [Act.put, List.setIfInBounds_toArray, List.set_cons_succ, List.set_cons_zero]
  refine q_val (.slice sp n cap) rfl (fun _ _ => rfl) ?_
  simp only [Act.put, List.setIfInBounds_toArray, List.set_cons_succ, List.set_cons_zero]
  refine q_call 13 #[.slice sp n cap] (.agg (rowB F)) rfl (fun _ _ => exec_call1 13 (.tmp 61) #[22] _ rfl rfl (cfRoot _ _)) (fun W hW => (HRt.out W (hw W hW).way.below).mono fun e W' h => ⟨h.1, hW.trans (h.2.mono hW.size)⟩) ?_
  simp only [Act.put, List.setIfInBounds_toArray, List.set_cons_succ, List.set_cons_zero]
  refine q_val (.bool false) rfl (fun W _ => by rw [exec_neD (.tmp 60) (.tmp 62) rfl F F rfl rfl h32 h32]; simp) ?_
  simp only [Act.put, List.setIfInBounds_toArray, List.set_cons_succ, List.set_cons_zero]
  refine wpQuiet_nil ?_
  intro w9 hw9
  have H7 := Lib.hid (H7.out.later hw9)
  have HD1 := Lib.hid (HD1.out.below hw9)
  clear hw9 hw HRt
  go_upto_region 9 with fail
  have hw : ∀ W, Below w9.heap.size w9 W → FdS w (wayV N I s1 s2 n1 n2 c1 c2) g F W := fun W h => H7.out.later h
  refine wp_region_quiet_tail (C := fun W => Below w9.heap.size w9 W) 13 (by kernel_rfl) (by kernel_rfl) ⟨rfl, rfl, rfl, Nat.le_refl _, fun _ _ => rfl⟩ ?_
  simp only [List.take_succ_cons, List.take_zero, List.drop_succ_cons, List.drop_zero]
  refine q_val (.pointer (some ⟨w.heap.size, 2, none⟩)) rfl (fun W _ => exec_way_at (.tmp 5) 2 (by decide) rfl w.heap.size rfl) ?_
  simp only [Act.put, List.setIfInBounds_toArray, List.set_cons_succ, List.set_cons_zero]
  refine q_val (.slice s1 n1 c1) rfl (fun W hW => exec_load1 28 (.tmp 66) rfl ⟨w.heap.size, 2, none⟩ rfl _ ((hw W hW).way.f2) _ Tryd.underlying28 rfl) ?_
  simp only [Act.put, List.setIfInBounds_toArray, List.set_cons_succ, List.set_cons_zero]
  refine q_val (.slice sp n cap) rfl (fun _ _ => rfl) ?_
  simp only [Act.put, List.setIfInBounds_toArray, List.set_cons_succ, List.set_cons_zero]
  refine q_val (.int .i64 (i : Nat)) rfl (fun _ _ => rfl) ?_
  simp only [Act.put, List.setIfInBounds_toArray, List.set_cons_succ, List.set_cons_zero]
  refine q_val (.pointer (some ⟨cl, ol + i, none⟩)) rfl (fun W hW => exec_pcO (.tmp 68) (.tmp 69) rfl cl ol n cap i (congrArg (fun s => Value.slice s n cap) HSp.out) rfl hi) ?_
  simp only [Act.put, List.setIfInBounds_toArray, List.set_cons_succ, List.set_cons_zero]
  refine q_val (.slice sl ml kl) rfl (fun W hW => exec_load1 28 (.tmp 70) rfl ⟨cl, ol + i, none⟩ rfl _ (HCl.out W (hw W hW).way.below) _ Tryd.underlying28 rfl) ?_
  simp only [Act.put, List.setIfInBounds_toArray, List.set_cons_succ, List.set_cons_zero]
  refine q_call 27 #[.slice s1 n1 c1, .slice sl ml kl] (.bool true) rfl (fun _ _ => exec_call2 27 (.tmp 67) (.tmp 71) #[28, 28] _ _ rfl rfl rfl (cfBytes _ _)) (fun W hW => (HBy.out W (hw W hW).way.below).mono fun e W' h => ⟨h.below.1, hW.trans (h.below.2.mono hW.size)⟩) ?_
  simp only [Act.put, List.setIfInBounds_toArray, List.set_cons_succ, List.set_cons_zero]
  refine q_val (.bool true) rfl (fun _ _ => rfl) ?_
  simp only [Act.put, List.setIfInBounds_toArray, List.set_cons_succ, List.set_cons_zero]
  refine q_val (.slice sp1 n2 cp1) rfl (fun _ _ => rfl) ?_
  simp only [Act.put, List.setIfInBounds_toArray, List.set_cons_succ, List.set_cons_zero]
  refine q_val (.pointer (some ⟨w.heap.size, 3, none⟩)) rfl (fun W _ => exec_way_at (.tmp 5) 3 (by decide) rfl w.heap.size rfl) ?_
  simp only [Act.put, List.setIfInBounds_toArray, List.set_cons_succ, List.set_cons_zero]
  refine q_val (.slice s2 n2 c2) rfl (fun W hW => exec_load1 33 (.tmp 75) rfl ⟨w.heap.size, 3, none⟩ rfl _ ((hw W hW).way.f3) _ Tryd.underlying33 rfl) ?_
  simp only [Act.put, List.setIfInBounds_toArray, List.set_cons_succ, List.set_cons_zero]
  refine q_call 18 #[.slice sp1 n2 cp1, .slice s2 n2 c2] (.bool false) rfl (fun _ _ => exec_call2 18 (.tmp 74) (.tmp 76) #[33, 33] _ _ rfl rfl rfl (cfDigests _ _)) (fun W hW => (HDg.out W sp1 cp1 (HD1.out.below hW) (hw W hW).way.below).mono fun e W' h => ⟨h.below.1, hW.trans (h.below.2.mono hW.size)⟩) ?_
  simp only [Act.put, List.setIfInBounds_toArray, List.set_cons_succ, List.set_cons_zero]
  refine q_val (.bool false) rfl (fun _ _ => rfl) ?_
  simp only [Act.put, List.setIfInBounds_toArray, List.set_cons_succ, List.set_cons_zero]
  refine wpQuiet_nil ?_
  intro v1 hv1
  have H7 := Lib.hid (H7.out.later hv1)
  have HD1 := Lib.hid (HD1.out.below hv1)
  clear hv1 hw HBy
  go_upto_region 10 with fail
  have hw : ∀ W, Below v1.heap.size v1 W → FdS w (wayV N I s1 s2 n1 n2 c1 c2) g F W := fun W h => H7.out.later h
  refine wp_region_quiet_tail (C := fun W => Below v1.heap.size v1 W) 17 (by kernel_rfl) (by kernel_rfl) ⟨rfl, rfl, rfl, Nat.le_refl _, fun _ _ => rfl⟩ ?_
  simp only [List.take_succ_cons, List.take_zero, List.drop_succ_cons, List.drop_zero]
  refine q_val (.bool false) rfl (fun _ _ => rfl) ?_
  simp only [Act.put, List.setIfInBounds_toArray, List.set_cons_succ, List.set_cons_zero]
  refine q_val (.bool false) rfl (fun _ _ => rfl) ?_
  simp only [Act.put, List.setIfInBounds_toArray, List.set_cons_succ, List.set_cons_zero]
  refine q_val (.slice sp n cap) rfl (fun _ _ => rfl) ?_
  simp only [Act.put, List.setIfInBounds_toArray, List.set_cons_succ, List.set_cons_zero]
  refine q_val (.int .i64 (n : Nat)) rfl (fun _ _ => exec_lenP (.tmp 81) rfl sp n cap rfl) ?_
  simp only [Act.put, List.setIfInBounds_toArray, List.set_cons_succ, List.set_cons_zero]
  refine q_val (.int .i64 (i : Nat)) rfl (fun _ _ => rfl) ?_
  simp only [Act.put, List.setIfInBounds_toArray, List.set_cons_succ, List.set_cons_zero]
  refine q_val (.slice sp n cap) rfl (fun _ _ => rfl) ?_
  simp only [Act.put, List.setIfInBounds_toArray, List.set_cons_succ, List.set_cons_zero]
  refine q_val (.int .i64 (i : Nat)) rfl (fun _ _ => rfl) ?_
  simp only [Act.put, List.setIfInBounds_toArray, List.set_cons_succ, List.set_cons_zero]
  refine q_val (.pointer (some ⟨cl, ol + i, none⟩)) rfl (fun W hW => exec_pcO (.tmp 84) (.tmp 85) rfl cl ol n cap i (congrArg (fun s => Value.slice s n cap) HSp.out) rfl hi) ?_
  simp only [Act.put, List.setIfInBounds_toArray, List.set_cons_succ, List.set_cons_zero]
  refine q_val (.slice sl ml kl) rfl (fun W hW => exec_load1 28 (.tmp 86) rfl ⟨cl, ol + i, none⟩ rfl _ (HCl.out W (hw W hW).way.below) _ Tryd.underlying28 rfl) ?_
  simp only [Act.put, List.setIfInBounds_toArray, List.set_cons_succ, List.set_cons_zero]
  refine q_val (.slice sp1 n2 cp1) rfl (fun _ _ => rfl) ?_
  simp only [Act.put, List.setIfInBounds_toArray, List.set_cons_succ, List.set_cons_zero]
  refine q_val (.agg #[.int .i64 0, .int .i64 0, .slice sl ml kl, .slice sp1 n2 cp1]) rfl (fun _ _ => exec_way (.tmp 87) (.tmp 88) rfl sl sp1 ml n2 kl cp1 rfl rfl) ?_
  simp only [Act.put, List.setIfInBounds_toArray, List.set_cons_succ, List.set_cons_zero]
  refine q_val (.agg #[.int .i64 N, .int .i64 I, .slice s1 n1 c1, .slice s2 n2 c2]) rfl (fun W hW => exec_load_row 35 (.tmp 5) rfl w.heap.size rfl 35 _ (0, 0) _ ((hw W hW).way.box) Tryd.underlying35 rfl sizeWay) ?_
  simp only [Act.put, List.setIfInBounds_toArray, List.set_cons_succ, List.set_cons_zero]
  refine q_call 28 #[.int .i64 (n : Nat), .int .i64 (i : Nat), .agg #[.int .i64 0, .int .i64 0, .slice sl ml kl, .slice sp1 n2 cp1], .agg #[.int .i64 N, .int .i64 I, .slice s1 n1 c1, .slice s2 n2 c2]] (.bool true) rfl (fun _ _ => exec_call4 28 (.tmp 82) (.tmp 83) (.tmp 89) (.tmp 90) #[3, 3, 35, 35] _ _ _ _ rfl rfl rfl rfl rfl (cfFound _ _)) (fun W hW => (HFn.out W (hw W hW).way.below sp1 cp1 (HD1.out.below hW)).mono fun e W' h => ⟨h.1, hW.trans (h.2.mono hW.size)⟩) ?_
  simp only [Act.put, List.setIfInBounds_toArray, List.set_cons_succ, List.set_cons_zero]
  refine q_val (.bool true) rfl (fun _ _ => rfl) ?_
  simp only [Act.put, List.setIfInBounds_toArray, List.set_cons_succ, List.set_cons_zero]
  refine q_val (.bool true) rfl (fun _ _ => rfl) ?_
  simp only [Act.put, List.setIfInBounds_toArray, List.set_cons_succ, List.set_cons_zero]
  refine q_call 10 #[] (.bool true) rfl (fun _ _ => exec_call0 10 #[] rfl (cfAwake _ _)) (fun W hW => (awake_any W (HE.out.below (hw W hW).way.below)).mono fun e W' h => ⟨h.1, hW.trans (h.2.mono hW.size)⟩) ?_
  simp only [Act.put, List.setIfInBounds_toArray, List.set_cons_succ, List.set_cons_zero]
  refine q_val (.bool true) rfl (fun _ _ => rfl) ?_
  simp only [Act.put, List.setIfInBounds_toArray, List.set_cons_succ, List.set_cons_zero]
  refine wpQuiet_nil ?_
  intro v2 hv2
  have H8 := Lib.hid (H7.out.later hv2)
  clear hv2 hw
  go_wp2
  go_ret
  exact ⟨rfl, H8.out.way.below⟩
theorem only_walk (w : World) (i N I : Int) (sp s1 s2 : Option Addr) (n cap n1 n2 c1 c2 : Nat) (ls : List (List Int)) (hn : ls.length = n) (hP : Pcs w sp cap ls) (he : Env w) (l : List Int) (q : List (List Int)) (hl1 : l.length = n1) (hb1 : Byt w s1 c1 l) (hq : q.length = n2) (hQ : Digs w s2 c2 q) :
    Calls Tryd.prog 6 #[.slice sp n cap, .int .i64 i, .agg #[.int .i64 N, .int .i64 I, .slice s1 n1 c1, .slice s2 n2 c2]] w fun e w' => e = .returned (.bool true) ∧ Below w.heap.size w w' := by
  by_cases hf : few ls = true
  · by_cases h100 : n1 ≤ 100
    · by_cases h70 : n2 ≤ 70
      · by_cases hi0 : i < 0
        · exact only_neg w i N I sp s1 s2 n cap n1 n2 c1 c2 ls hn hP he hf h100 h70 hi0
        · by_cases hi : n ≤ i
          · exact only_high w i N I sp s1 s2 n cap n1 n2 c1 c2 ls hn hP he hf h100 h70 (by omega) hi
          · obtain ⟨i', rfl⟩ := Int.eq_ofNat_of_zero_le (show 0 ≤ i by omega)
            have hi' : i' < n := by omega
            by_cases hlen : n2 = dp 63 n i'
            · by_cases hon : fd nodeD 63 n i' (leafD l) q = rootD ls
              · by_cases hs1 : l = ls.getD i' []
                · by_cases hs2 : proofD i' ls = q
                  · exact only_same w i' N I sp s1 s2 n cap n1 n2 c1 c2 ls hn hP he hf h100 h70 hi' l q hl1 hb1 hq hQ hlen hon hs1 hs2
                  · exact only_two w i' N I sp s1 s2 n cap n1 n2 c1 c2 ls hn hP he hf h100 h70 hi' l q hl1 hb1 hq hQ hlen hon hs1 hs2
                · exact only_one w i' N I sp s1 s2 n cap n1 n2 c1 c2 ls hn hP he hf h100 h70 hi' l q hl1 hb1 hq hQ hlen hon hs1
              · exact only_off w i' N I sp s1 s2 n cap n1 n2 c1 c2 ls hn hP he hf h100 h70 hi' l q hl1 hb1 hq hQ hlen hon
            · exact only_len w i' N I sp s1 s2 n cap n1 n2 c1 c2 ls hn hP he hf h100 h70 hi' hlen
      · exact only_proof w i N I sp s1 s2 n cap n1 n2 c1 c2 ls hn hP he hf h100 (by omega)
    · exact only_leaf w i N I sp s1 s2 n cap n1 n2 c1 c2 ls hn hP he hf (by omega)
  · exact only_few w i N I sp s1 s2 n cap n1 n2 c1 c2 ls hn hP he (by simpa using hf)
end Go.Proofs.YtighmhoekbnagaaDoor
