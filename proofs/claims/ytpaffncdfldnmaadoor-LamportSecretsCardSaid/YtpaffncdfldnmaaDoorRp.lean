import Derived.Test.YtpaffncdfldnmaaDoorLd
import Derived.Test.YtpaffncdfldnmaaDoorSl
import Derived.Test.YtpaffncdfldnmaaDoorLg
namespace Go.Proofs.YtpaffncdfldnmaaDoor
open Go.ChangeShapes Go.WideShapes Go.ChangeAt Go.RowKit

/-! ### the document's answer -/
theorem Cd.rng_secB {s : List Int} (hr : Cd.rng s) (p b : Nat) : Cd.rng (secB s p b) := by
  unfold secB
  refine Cd.rng_join (fun l hl => ?_)
  simp only [List.mem_cons, List.not_mem_nil, or_false] at hl
  rcases hl with rfl | rfl
  · exact hr
  · exact Cd.rng_nums _
theorem rng_setQ {l : List Int} (h : rng l) (i : Nat) (x : Int) (h0 : 0 ≤ x) (h1 : x < 256) : rng (l.set i x) := fun y hy => by
  rcases List.mem_or_eq_of_mem_set hy with hy | rfl
  · exact h y hy
  · exact ⟨h0, h1⟩
theorem rng_digQ (s : List Int) : ∀ n, rng (dig s n)
  | 0 => fun x hx => by
    have := List.eq_of_mem_replicate hx
    omega
  | n + 1 => by
    rw [dig]
    exact rng_setQ (rng_setQ (rng_setQ (rng_setQ (rng_digQ s n) _ _ (by omega) (by omega)) _ _ (by omega) (by omega)) _ _ (by omega) (by omega)) _ _ (by omega) (by omega)
theorem rng_sumQ (l : List Int) : rng (sum l) := rng_digQ _ _
set_option maxRecDepth 100000 in
set_option maxHeartbeats 4000000 in
theorem refSecret_any (w : World) (s : List Int) (p b : Nat) (hs : s.length = 32) (hr : Cd.rng s) (hp : p < 1000) (hb : b < 1000) :
    Calls Tryd.prog 8 #[.agg (rowB s), .int .i64 (p : Int), .int .i64 (b : Int)] w fun e w' => e = .returned (.agg (rowB (secD s p b))) ∧ Below w.heap.size w w' := by
  have HL := Lib.hid hs
  have HR : Hid (Cd.rng s) := hr
  have HZs := Lib.hid (row_dig hs)
  have HBy := Lib.hid (fun W => refBytes_any W s p b hs hr hp hb)
  have HRg : Hid (rng (secB s p b)) := Lib.hid (Cd.rng_secB hr p b)
  clear hs hr
  go_enter Tryd.func8, Tryd.ntmps8
  go_upto_region 1 with fail
  refine gen_world (Q := fun w => Code.wp _ _ _ _ w) _ (Hd w s) (Hd.made w s _ (by kernel_rfl)) ?_
  intro w1 h1
  have H1' := Lib.hid h1
  clear h1
  go_wp2_with (refine wpList_load_row rfl 23 (.tmp 3) rfl w.heap.size rfl 23 (rowB s) (0, 0) _ H1'.out.d Tryd.underlying23 rfl HZs.out ?_)
  refine (HBy.out w1).mono ?_
  rintro e w2 ⟨sp, cap, rfl, hby, hb2⟩
  have H2 := Lib.hid (H1'.out.later hb2)
  have HY2 := Lib.hid hby
  clear hb2 hby
  go_wp2_with fail
  refine (ref_sum block_any w2 sp 56 cap (secB s p b) (secB_length HL.out p b) HY2.out.by_ HY2.out.nul HRg.out (by omega)).mono ?_
  rintro e w3 ⟨rfl, hb3⟩
  have H3 := Lib.hid (H2.out.later hb3)
  clear hb3
  have hF0 : sum (secB s p b) = secD s p b := rfl
  rw [hF0]
  clear hF0
  have HZ := Lib.hid (row_dig (secD_length s p b))
  have HY := Lib.hid (show (rowB (zs 32)).size = (rowB (secD s p b)).size by rw [← row_dig0 (secD_length s p b)]; rfl)
  have HX := Lib.hid (rowB_one (secD s p b))
  obtain ⟨F, hF⟩ : ∃ F, secD s p b = F := ⟨_, rfl⟩
  rw [hF] at HZ HY HX ⊢
  have HF := Lib.hid hF
  clear hF
  go_wp2_with (refine wpList_store_row rfl 23 (.tmp 6) (.tmp 11) rfl (w.heap.size + 1) (rowB F) rfl rfl 23 _ H3.out.res HZ.out HY.out HX.out ?_)
  exact bodyPost_ret (v := .agg (rowB F)) (results_cell_row Tryd.results8 _ _ (w.heap.size + 1) 23 (rowB F) (0, 0) _ rfl (setRow_heap _ _ _ _ _ _ H3.out.res) Tryd.underlying23 rfl HZ.out) rfl ⟨by rw [HF.out], below_setRow H3.out.below (by omega) _⟩
theorem exec_byte_int {a : Act} {o : Oper} {W : World} (x : Operand) (ho : o.op = .convert 5 3 x) (z : Int) (hx : a.eval x = .int .u8 z) (h1 : 0 ≤ z) (h2 : z < 256) : (execOp a.eval o).run Tryd.prog W = .ok (.value (.int .i64 z)) W := by
  have hw : IntKind.i64.wrap z = z := IntWalk.i64_in _ (by omega)
  unfold execOp
  simp [ho, hx, convert, run_underlying Tryd.underlying3, run_underlying Tryd.underlying5, Conv.intToInt, hw]
set_option maxRecDepth 100000 in
set_option maxHeartbeats 4000000 in
theorem refBit_any (w : World) (m : List Int) (i : Nat) (hm : m.length = 32) (hr : ∀ x ∈ m, 0 ≤ x ∧ x < 256) (hi : i < 256) :
    Calls Tryd.prog 12 #[.agg (rowB m), .int .i64 (i : Int)] w fun e w' => e = .returned (.int .i64 (bitD m i : Int)) ∧ Below w.heap.size w w' := by
  have hx : 0 ≤ m.getD (i / 8) 0 ∧ m.getD (i / 8) 0 < 256 := hr _ (by
    have h1 : i / 8 < m.length := by omega
    simp [h1])
  have hc : ∀ W : World, Dg W w.heap.size m → W.cell? ⟨w.heap.size, 0 + 1 * (i / 8), none⟩ = some (.int .u8 (m.getD (i / 8) 0)) := fun W hd => by
    rw [show 0 + 1 * (i / 8) = i / 8 by omega, cell_of_row _ _ _ _ _ _ hd, rowB_get _ _ (by omega)]
  have hB : bitD m i = (m.getD (i / 8) 0).toNat / 2 ^ (7 - i % 8) % 2 := rfl
  obtain ⟨x, hX⟩ : ∃ x, m.getD (i / 8) 0 = x := ⟨_, rfl⟩
  rw [hX] at hx hc hB
  clear hX
  obtain ⟨x, rfl⟩ := Int.eq_ofNat_of_zero_le hx.1
  have hx2 : x < 256 := by omega
  rw [Int.toNat_natCast] at hB
  obtain ⟨q, hq⟩ : ∃ q, i / 8 = q := ⟨_, rfl⟩
  have hq32 : q < 32 := by omega
  have e1 : (i : Int) / 8 = (q : Int) := by omega
  obtain ⟨k, hk⟩ : ∃ k, i % 8 = k := ⟨_, rfl⟩
  have hk8 : k < 8 := by omega
  have e2 : (i : Int) % 8 = (k : Int) := by omega
  rw [hq] at hc
  rw [hk] at hB
  obtain ⟨j, hj⟩ : ∃ j, 7 - k = j := ⟨_, rfl⟩
  rw [hj] at hB
  have hj8 : j < 8 := by omega
  have e3 : (7 : Int) - (k : Int) = (j : Int) := by omega
  have e4 : (x : Int) / 2 ^ j = ((x / 2 ^ j : Nat) : Int) := by simp
  obtain ⟨y, hY⟩ : ∃ y, x / 2 ^ j = y := ⟨_, rfl⟩
  have hyx : y ≤ x := by rw [← hY]; exact Nat.div_le_self _ _
  rw [hY] at e4 hB
  have e5 : ((y : Nat) : Int) % 2 = ((bitD m i : Nat) : Int) := by rw [hB]; omega
  have hpw : (1 : Int) ≤ 2 ^ j := by have : (0 : Int) < 2 ^ j := Int.pow_pos (by omega); omega
  have rq := run_quo (i : Int) 8 (by omega) (by omega) (by omega)
  have rq2 := run_quo (x : Int) (2 ^ j) (by omega) (by omega) hpw
  rw [e1] at rq
  rw [e4] at rq2
  have rm : ∀ W : World, (binOp .rem 3 (.int .i64 (i : Int)) (.int .i64 8)).run Tryd.prog W = .ok (.int .i64 (k : Int)) W := fun W => run_rem (W := W) (i : Int) 8 (k : Int) e2 (by omega) (by omega) (by omega)
  have rm2 : ∀ W : World, (binOp .rem 3 (.int .i64 (y : Int)) (.int .i64 2)).run Tryd.prog W = .ok (.int .i64 ((bitD m i : Nat) : Int)) W := fun W => run_rem (W := W) (y : Int) 2 _ e5 (by omega) (by omega) (by omega)
  have rs : ∀ W : World, (binOp .sub 3 (.int .i64 7) (.int .i64 (k : Int))).run Tryd.prog W = .ok (.int .i64 (j : Int)) W := fun W => run_sub (W := W) 7 (k : Int) (j : Int) e3 (by omega) (by omega)
  obtain ⟨B, hB2⟩ : ∃ B, bitD m i = B := ⟨_, rfl⟩
  rw [hB2] at rm2
  have HB := Lib.hid hB2
  clear hB hY hj hk hq hm hr hx e1 e2 e3 e4 e5 hB2
  go_enter Tryd.func12, Tryd.ntmps12
  go_upto_region 1 with fail
  refine gen_world (Q := fun w => Code.wp _ _ _ _ w) _ (H1 w m) (H1.made w m) ?_
  intro v hv
  have HV := Lib.hid hv
  have dM : ∀ W, Below v.heap.size v W → W.cell? ⟨w.heap.size, 0 + 1 * q, none⟩ = some (.int .u8 (x : Int)) := fun W hb => hc W (HV.out.d.below hb)
  clear hv hc
  refine wp_region_spec (C := (fun W => Below v.heap.size v W)) (Le := fun _ _ => True) 11 (fun ixx _ v => v = ([.int .i64 (i : Int), .int .i64 (q : Int), .pointer (some ⟨w.heap.size, 0 + 1 * q, none⟩), .int .u8 (x : Int), .int .i64 (x : Int), .int .i64 (i : Int), .int .i64 (k : Int), .int .i64 (j : Int), .int .i64 (2 ^ j), .int .i64 (y : Int), .int .i64 (B : Int)] : List Value).getD ixx undef) (by kernel_rfl) (by kernel_rfl) ⟨rfl, rfl, rfl, Nat.le_refl _, fun _ _ => rfl⟩ (fun _ _ _ _ _ h => h) (fun ixx v => v = ([.int .i64 (i : Int), .int .i64 (q : Int), .pointer (some ⟨w.heap.size, 0 + 1 * q, none⟩), .int .u8 (x : Int), .int .i64 (x : Int), .int .i64 (i : Int), .int .i64 (k : Int), .int .i64 (j : Int), .int .i64 (2 ^ j), .int .i64 (y : Int), .int .i64 (B : Int)] : List Value).getD ixx undef) (fun _ _ _ h => h) (fun ixx => ([.int .i64 (i : Int), .int .i64 (q : Int), .pointer (some ⟨w.heap.size, 0 + 1 * q, none⟩), .int .u8 (x : Int), .int .i64 (x : Int), .int .i64 (i : Int), .int .i64 (k : Int), .int .i64 (j : Int), .int .i64 (2 ^ j), .int .i64 (y : Int), .int .i64 (B : Int)] : List Value).getD ixx undef) (fun _ => rfl) ?_ ?_
  · intro u hu
    have h0 : u 0 = .int .i64 (i : Int) := hu 0
    have h1 : u 1 = .int .i64 (q : Int) := hu 1
    have h2 : u 2 = .pointer (some ⟨w.heap.size, 0 + 1 * q, none⟩) := hu 2
    have h3 : u 3 = .int .u8 (x : Int) := hu 3
    have h4 : u 4 = .int .i64 (x : Int) := hu 4
    have h5 : u 5 = .int .i64 (i : Int) := hu 5
    have h6 : u 6 = .int .i64 (k : Int) := hu 6
    have h7 : u 7 = .int .i64 (j : Int) := hu 7
    have h8 : u 8 = .int .i64 (2 ^ j) := hu 8
    have h9 : u 9 = .int .i64 (y : Int) := hu 9
    have h10 : u 10 = .int .i64 (B : Int) := hu 10
    simp only [List.take_succ_cons, List.take_zero]
    refine spec_cons (fun W hC hd => ⟨by rfl, ?_⟩) ?_
    · exact gives_val _ W (rfl) ⟨hC, trivial, rfl⟩
    simp only [Act.put, List.setIfInBounds_toArray, List.set_cons_succ, List.set_cons_zero, Nat.reduceAdd]
    rw [h0]
    refine spec_cons (fun W hC hd => ⟨by rfl, ?_⟩) ?_
    · exact gives_val _ W (exec_bin .quo (.tmp 5) (.const (.int .i64 8)) rfl rfl _ _ _ rfl rfl (rq W)) ⟨hC, trivial, rfl⟩
    simp only [Act.put, List.setIfInBounds_toArray, List.set_cons_succ, List.set_cons_zero, Nat.reduceAdd]
    rw [h1]
    refine spec_cons (fun W hC hd => ⟨by rfl, ?_⟩) ?_
    · exact gives_val _ W (exec_arr_at 23 5 32 1 Tryd.underlying23 size5 (.tmp 2) (.tmp 6) rfl w.heap.size 0 q rfl rfl hq32) ⟨hC, trivial, rfl⟩
    simp only [Act.put, List.setIfInBounds_toArray, List.set_cons_succ, List.set_cons_zero, Nat.reduceAdd]
    rw [h2]
    refine spec_cons (fun W hC hd => ⟨by rfl, ?_⟩) ?_
    · exact gives_val _ W (exec_load1 5 (.tmp 7) rfl ⟨w.heap.size, 0 + 1 * q, none⟩ rfl _ (dM W hC) _ Tryd.underlying5 rfl) ⟨hC, trivial, rfl⟩
    simp only [Act.put, List.setIfInBounds_toArray, List.set_cons_succ, List.set_cons_zero, Nat.reduceAdd]
    rw [h3]
    refine spec_cons (fun W hC hd => ⟨by rfl, ?_⟩) ?_
    · exact gives_val _ W (exec_byte_int (.tmp 8) rfl _ rfl (by omega) (by omega)) ⟨hC, trivial, rfl⟩
    simp only [Act.put, List.setIfInBounds_toArray, List.set_cons_succ, List.set_cons_zero, Nat.reduceAdd]
    rw [h4]
    refine spec_cons (fun W hC hd => ⟨by rfl, ?_⟩) ?_
    · exact gives_val _ W (rfl) ⟨hC, trivial, rfl⟩
    simp only [Act.put, List.setIfInBounds_toArray, List.set_cons_succ, List.set_cons_zero, Nat.reduceAdd]
    rw [h5]
    refine spec_cons (fun W hC hd => ⟨by rfl, ?_⟩) ?_
    · exact gives_val _ W (exec_bin .rem (.tmp 10) (.const (.int .i64 8)) rfl rfl _ _ _ rfl rfl (rm W)) ⟨hC, trivial, rfl⟩
    simp only [Act.put, List.setIfInBounds_toArray, List.set_cons_succ, List.set_cons_zero, Nat.reduceAdd]
    rw [h6]
    refine spec_cons (fun W hC hd => ⟨by rfl, ?_⟩) ?_
    · exact gives_val _ W (exec_bin .sub (.const (.int .i64 7)) (.tmp 11) rfl rfl _ _ _ rfl rfl (rs W)) ⟨hC, trivial, rfl⟩
    simp only [Act.put, List.setIfInBounds_toArray, List.set_cons_succ, List.set_cons_zero, Nat.reduceAdd]
    rw [h7]
    refine spec_cons (fun W hC hd => ⟨by rfl, ?_⟩) ?_
    · exact gives_call _ _ (exec_call1 23 (.tmp 12) #[3] _ rfl rfl (cf Tryd.func23 (by kernel_rfl) (by kernel_rfl) _ _)) ((power_any j (by omega) W).mono fun e W' ⟨h1, h2⟩ => ⟨_, h1, h2 ▸ hC, trivial, rfl⟩)
    simp only [Act.put, List.setIfInBounds_toArray, List.set_cons_succ, List.set_cons_zero, Nat.reduceAdd]
    rw [h8]
    refine spec_cons (fun W hC hd => ⟨by rfl, ?_⟩) ?_
    · exact gives_val _ W (exec_bin .quo (.tmp 9) (.tmp 13) rfl rfl _ _ _ rfl rfl (rq2 W)) ⟨hC, trivial, rfl⟩
    simp only [Act.put, List.setIfInBounds_toArray, List.set_cons_succ, List.set_cons_zero, Nat.reduceAdd]
    rw [h9]
    refine spec_cons (fun W hC hd => ⟨by rfl, ?_⟩) ?_
    · exact gives_val _ W (exec_bin .rem (.tmp 14) (.const (.int .i64 2)) rfl rfl _ _ _ rfl rfl (rm2 W)) ⟨hC, trivial, rfl⟩
    simp only [Act.put, List.setIfInBounds_toArray, List.set_cons_succ, List.set_cons_zero, Nat.reduceAdd]
    rw [h10]
    exact spec_nil
  intro u W hu hC _
  have h0 : u 0 = .int .i64 (i : Int) := hu 0
  have h1 : u 1 = .int .i64 (q : Int) := hu 1
  have h2 : u 2 = .pointer (some ⟨w.heap.size, 0 + 1 * q, none⟩) := hu 2
  have h3 : u 3 = .int .u8 (x : Int) := hu 3
  have h4 : u 4 = .int .i64 (x : Int) := hu 4
  have h5 : u 5 = .int .i64 (i : Int) := hu 5
  have h6 : u 6 = .int .i64 (k : Int) := hu 6
  have h7 : u 7 = .int .i64 (j : Int) := hu 7
  have h8 : u 8 = .int .i64 (2 ^ j) := hu 8
  have h9 : u 9 = .int .i64 (y : Int) := hu 9
  have h10 : u 10 = .int .i64 (B : Int) := hu 10
  simp only [List.take_succ_cons, List.take_zero, List.drop_succ_cons, List.drop_zero, putAll, Act.put, List.setIfInBounds_toArray, List.set_cons_succ, List.set_cons_zero, Nat.reduceAdd]
  rw [h0, h1, h2, h3, h4, h5, h6, h7, h8, h9, h10]
  clear hu h0 h1 h2 h3 h4 h5 h6 h7 h8 h9 h10
  have HW := Lib.hid (HV.out.below.trans (hC.mono HV.out.below.size))
  clear hC rq rq2 rm rm2 rs dM
  go_wp2
  go_ret
  exact ⟨by rw [HB.out]; rfl, HW.out⟩
end Go.Proofs.YtpaffncdfldnmaaDoor
