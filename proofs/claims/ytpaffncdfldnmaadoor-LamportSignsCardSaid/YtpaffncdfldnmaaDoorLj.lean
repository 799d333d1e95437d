import Derived.Test.YtpaffncdfldnmaaDoorLi
namespace Go.Proofs.YtpaffncdfldnmaaDoor
open Go.ChangeShapes Go.WideShapes Go.ChangeAt Go.RowKit

/-! ### a signature as bytes -/
theorem Bd.copy {W : World} {b : Nat} {t : TypeId} {N : Nat} {f : Nat → List Int} {P P' : Nat → Prop} (h : Bd W b t N f P) (hf : ∀ i, (f i).length = 32) (p : Nat) (hp : p < N) (hP : ∀ q, P' q → P q ∨ q = p) (C : Array Value) (hC : W.heap[b]? = some (.cells C t (0, 0))) :
    Bd (W.setRow b (C.toList.take (32 * p) ++ ((f p).map (Value.int .u8) ++ C.toList.drop (32 * p + 32))).toArray) b t N f P' := by
  obtain ⟨C0, h1, h2⟩ := h.ty
  rw [hC] at h1
  cases h1
  have hCl : C.toList.length = 32 * N := by rw [Array.length_toList]; exact h2
  have hT : (C.toList.take (32 * p)).length = 32 * p := by rw [List.length_take]; omega
  have hM : ((f p).map (Value.int .u8)).length = 32 := by rw [List.length_map, hf]
  have hD : (C.toList.drop (32 * p + 32)).length = 32 * N - (32 * p + 32) := by rw [List.length_drop, hCl]
  refine ⟨⟨_, setRow_heap _ _ _ _ _ _ hC, ?_⟩, fun q hq hPq j v hv => ?_⟩
  · rw [List.size_toArray, List.length_append, List.length_append, hT, hM, hD]; omega
  · have hj : j < 32 := by
      have := (List.getElem?_eq_some_iff.1 hv).1
      rw [List.length_map, hf] at this
      exact this
    rw [cell_of_row _ _ _ _ _ _ (setRow_heap _ _ _ _ _ _ hC), List.getElem?_toArray]
    by_cases hqp : q = p
    · subst hqp
      rw [List.getElem?_append_right (by omega), hT, List.getElem?_append_left (by omega), show 32 * q + j - 32 * q = j by omega]
      exact hv
    · have h3 := h.lies q hq (by rcases hP q hPq with x | x; exact x; exact absurd x hqp) j v hv
      rw [cell_of_row _ _ _ _ _ _ hC] at h3
      rw [← Array.getElem?_toList] at h3
      by_cases hlt : q < p
      · rw [List.getElem?_append_left (by omega), List.getElem?_take, if_pos (by omega)]
        exact h3
      · rw [List.getElem?_append_right (by omega), hT, List.getElem?_append_right (by omega), hM, List.getElem?_drop, show 32 * p + 32 + (32 * q + j - 32 * p - 32) = 32 * q + j by omega]
        exact h3
section
variable {a : Act} {o : Oper} {W : World}
theorem size_half (W : World) : (sizeOf 32).run Tryd.prog W = .ok 8192 W := by
  cases hq : Tryd.prog.info? 32 with
  | none => have := infoHalf; simp [hq] at this
  | some i =>
    have hi : i.size = 8192 := by have := infoHalf; simpa [hq] using this
    simp [sizeOf, typeInfo, hq, hi]
theorem exec_open (x : Operand) (ho : o.op = .fieldAddr 34 x 0) (c : Nat) (hx : a.eval x = .pointer (some ⟨c, 0, none⟩)) : (execOp a.eval o).run Tryd.prog W = .ok (.value (.pointer (some ⟨c, 0, none⟩))) W := by
  have hz := size_half W
  unfold execOp
  simp [ho, hx, Instr.fieldAt, Instr.sureAddr, run_underlying Tryd.underlying34, fieldPlace, hz, add_plain]
theorem exec_rest (x : Operand) (ho : o.op = .fieldAddr 34 x 1) (c : Nat) (hx : a.eval x = .pointer (some ⟨c, 0, none⟩)) : (execOp a.eval o).run Tryd.prog W = .ok (.value (.pointer (some ⟨c, 8192, none⟩))) W := by
  have hz := size_half W
  unfold execOp
  simp [ho, hx, Instr.fieldAt, Instr.sureAddr, run_underlying Tryd.underlying34, fieldPlace, hz, add_plain]
/-- b[i:j:k] -/
theorem exec_three_cut (x y z u : Operand) (ho : o.op = .slice 38 x (some y) (some z) (some u)) (g n lo m : Nat) (hx : a.eval x = .slice (some ⟨g, 0, none⟩) n n) (hy : a.eval y = .int .i64 (lo : Int)) (hz : a.eval z = .int .i64 (m : Int)) (hu : a.eval u = .int .i64 (m : Int)) (hm : m = lo + 32) (hn : m ≤ n) :
    (execOp a.eval o).run Tryd.prog W = .ok (.value (.slice (some ⟨g, lo, none⟩) 32 32)) W := by
  cases hq : Tryd.prog.info? 5 with
  | none => have := size5; simp [hq] at this
  | some i =>
    have hi : i.size = 1 := by have := size5; simpa [hq] using this
    have hadd := add_plain g 0 lo
    rw [Nat.zero_add] at hadd
    have h1 : ¬ m = lo := by omega
    have h2 : lo ≤ m := by omega
    have h3 : m - lo = 32 := by omega
    clear hm
    unfold execOp
    simp only [ho, hx, hy, hz, hu, Option.map_some, Instr.sliceAt, Instr.slice, run_underlying Tryd.underlying38, Instr.sliceBounds, Instr.sliceBound, asIntOf, sizeOf, typeInfo, Sem.run_bind, Result.andThen_ok, Sem.run_pure, Sem.run_ite]
    simp [hq, hi, hn, h1, h2, h3, hadd]
end
theorem add32 (A : Nat) (h : A ≤ 20000) (W : World) : (binOp .add 3 (.int .i64 (A : Int)) (.int .i64 32)).run Tryd.prog W = .ok (.int .i64 ((A + 32 : Nat) : Int)) W := by
  have hw : IntKind.i64.wrap ((A : Int) + 32) = ((A + 32 : Nat) : Int) := by rw [IntWalk.i64_in _ (by omega)]; omega
  simp [binOp, go_sem, hw]
set_option maxRecDepth 100000 in
set_option maxHeartbeats 4000000 in
theorem enc1_any (w : World) (gs ks gb kb : Nat) (d : List Int) (C : Array Value) (t : TypeId) (hd : d.length = 32) (hs : w.rangeAt gs ks (d.map (Value.int .u8))) (hC : w.heap[gb]? = some (.cells C t (0, 0))) (hfit : kb + 32 ≤ C.size) :
    Calls Tryd.prog 30 #[.pointer (some ⟨gs, ks, none⟩), .slice (some ⟨gb, kb, none⟩) 32 32] w fun e w' => e = .returned (.tuple #[]) ∧ w' = w.setRow gb (C.toList.take kb ++ (d.map (Value.int .u8) ++ C.toList.drop (kb + 32))).toArray := by
  have r1 := run_digest_at gs ks
  have HC := Lib.hid hC
  have hm : (d.map (Value.int .u8)).length = 32 := by rw [List.length_map, hd]
  have H1 := Lib.hid (show (d.map (Value.int .u8)).length = Nat.min 32 32 by rw [hm]; rfl)
  have H2 : Hid (∀ j v, (d.map (Value.int .u8))[j]? = some v → w.cell? ((⟨gs, ks, none⟩ : Addr).add j) = some v) := Lib.hid (fun j v hv => by rw [add_plain]; exact hs j v hv)
  have H3 := Lib.hid (show kb + (d.map (Value.int .u8)).length ≤ C.size by rw [hm]; exact hfit)
  have H4 := Lib.hid (map_one d)
  obtain ⟨X, hX⟩ : ∃ X, d.map (Value.int .u8) = X := ⟨_, rfl⟩
  rw [hX] at H1 H2 H3 H4 hm
  have HX := Lib.hid hX
  have HM := Lib.hid hm
  clear hC hs hd hX hm hfit
  go_enter Tryd.func30, Tryd.ntmps30
  go_wp2_with (refine wpList_copy_own rfl (.tmp 4) (.tmp 7) 38 38 rfl 5 Tryd.underlying38 size5 gb kb 32 32 ⟨gs, ks, none⟩ 32 32 rfl rfl C t HC.out X H1.out H2.out H3.out H4.out ?_)
  go_end0
  refine ⟨rfl, ?_⟩
  rw [HX.out, HM.out]
/-- while bytes are filled -/
structure Eo (w : World) (gb : Nat) (o r : Nat → List Int) (k1 k2 : Nat) (W : World) : Prop where
  grown : w.grownBy W (some gb)
  bd : Bd W gb 5 512 (sf o r) (fun j => j < k1 ∨ (256 ≤ j ∧ j < 256 + k2))
theorem Eo.drew {w W W' : World} {gb : Nat} {o r : Nat → List Int} {k1 k2 : Nat} (h : Eo w gb o r k1 k2 W) (hb : Below W.heap.size W W') : Eo w gb o r k1 k2 W' :=
  ⟨grown_trans h.grown ⟨hb.os, hb.tape, hb.output, hb.size, fun i hi _ => hb.block i hi⟩, h.bd.below hb⟩
theorem Eo.put {w W : World} {gb : Nat} {o r : Nat → List Int} {k1 k2 : Nat} (h : Eo w gb o r k1 k2 W) (ho : ∀ i, (o i).length = 32) (hr : ∀ i, (r i).length = 32) (p : Nat) (hp : p < 512) (d : List Int) (hd : sf o r p = d) (kb : Nat) (hk : kb = 32 * p) (k1' k2' : Nat) (hP : ∀ q, (q < k1' ∨ (256 ≤ q ∧ q < 256 + k2')) → (q < k1 ∨ (256 ≤ q ∧ q < 256 + k2)) ∨ q = p) (C : Array Value) (hC : W.heap[gb]? = some (.cells C 5 (0, 0))) :
    Eo w gb o r k1' k2' (W.setRow gb (C.toList.take kb ++ (d.map (Value.int .u8) ++ C.toList.drop (kb + 32))).toArray) := by
  subst hd hk
  exact ⟨grown_trans h.grown grown_setRow, h.bd.copy (sf_length ho hr) p hp hP C hC⟩
set_option maxRecDepth 100000 in
set_option maxHeartbeats 4000000 in
theorem each_enc (w : World) (gs gb N : Nat) (o r : Nat → List Int) (hN : N = 16384) (ho : ∀ i, (o i).length = 32) (hr : ∀ i, (r i).length = 32) (hS : SigAt w gs o r) (hb : Bd w gb 5 512 (sf o r) (fun j => j < 0 ∨ (256 ≤ j ∧ j < 256 + 0))) (hne : gs ≠ gb) :
    Calls Tryd.prog 29 #[.pointer (some ⟨gs, 0, none⟩), .slice (some ⟨gb, 0, none⟩) N N, .func (.func 30) #[] #[]] w fun e w' => e = .returned (.tuple #[]) ∧ Eo w gb o r 256 256 w' := by
  have HO := Lib.hid ho
  have HR := Lib.hid hr
  have HN := Lib.hid hN
  have HSg : Hid (∀ W, w.grownBy W (some gb) → SigAt W gs o r) := Lib.hid (fun W hg => (hg.block gs hS.lt (by simpa using hne)).trans hS)
  have H00 : Hid (Eo w gb o r 0 0 w) := Lib.hid ⟨grown_refl _ _, hb⟩
  clear ho hr hS hb hne hN
  go_enter Tryd.func29, Tryd.ntmps29
  go_wp2
  go_loopw [9] (fun t wr => ∃ p : Nat, p ≤ 256 ∧ t = .int .i64 p ∧ Eo w gb o r p p wr) (fun t _ => 256 - (intOf t).toNat)
  case atStart => exact ⟨0, by omega, rfl, H00.out⟩
  case round =>
    clear H00
    obtain ⟨p, hp, rfl, he⟩ := hrel
    by_cases hlt : p < 256
    · have hdt : decide ((p : Int) < 256) = true := by simp; omega
      have hdt' : decide (p < 256) = true := by simp; omega
      have H0 := Lib.hid he
      clear he
      have e1 : (p : Int) * 32 = ((32 * p : Nat) : Int) := by omega
      obtain ⟨A, hA⟩ : ∃ A, 32 * p = A := ⟨_, rfl⟩
      rw [hA] at e1
      have HA := Lib.hid hA
      have e2 : (8192 : Int) + (A : Int) = ((8192 + A : Nat) : Int) := by omega
      obtain ⟨B, hB⟩ : ∃ B, 8192 + A = B := ⟨_, rfl⟩
      rw [hB] at e2
      have HB := Lib.hid hB
      have hAb : A ≤ 8160 := by omega
      have hBb : B ≤ 16352 := by omega
      have eA : (A : Int) + 32 = ((A + 32 : Nat) : Int) := by omega
      have eB : (B : Int) + 32 = ((B + 32 : Nat) : Int) := by omega
      clear hA hB
      go_upto_region 5 with fail
      refine wp_region_spec (C := (fun W => Below wr.heap.size wr W)) (Le := fun _ _ => True) 13 (fun j _ v => v = ([.func (.func 30) #[] #[], .pointer (some ⟨gs, 0, none⟩), .int .i64 p, .pointer (some ⟨gs, 0, none⟩), .pointer (some ⟨gs, 0, none⟩), .pointer (some ⟨gs, 0 + 32 * p, none⟩), .slice (some ⟨gb, 0, none⟩) N N, .int .i64 A, .int .i64 A, .int .i64 ((A + 32 : Nat) : Int), .int .i64 A, .int .i64 ((A + 32 : Nat) : Int), .slice (some ⟨gb, A, none⟩) 32 32] : List Value).getD j undef) (by kernel_rfl) (by kernel_rfl) ⟨rfl, rfl, rfl, Nat.le_refl _, fun _ _ => rfl⟩ (fun _ _ _ _ _ h => h) (fun j v => v = ([.func (.func 30) #[] #[], .pointer (some ⟨gs, 0, none⟩), .int .i64 p, .pointer (some ⟨gs, 0, none⟩), .pointer (some ⟨gs, 0, none⟩), .pointer (some ⟨gs, 0 + 32 * p, none⟩), .slice (some ⟨gb, 0, none⟩) N N, .int .i64 A, .int .i64 A, .int .i64 ((A + 32 : Nat) : Int), .int .i64 A, .int .i64 ((A + 32 : Nat) : Int), .slice (some ⟨gb, A, none⟩) 32 32] : List Value).getD j undef) (fun _ _ _ h => h) (fun j => ([.func (.func 30) #[] #[], .pointer (some ⟨gs, 0, none⟩), .int .i64 p, .pointer (some ⟨gs, 0, none⟩), .pointer (some ⟨gs, 0, none⟩), .pointer (some ⟨gs, 0 + 32 * p, none⟩), .slice (some ⟨gb, 0, none⟩) N N, .int .i64 A, .int .i64 A, .int .i64 ((A + 32 : Nat) : Int), .int .i64 A, .int .i64 ((A + 32 : Nat) : Int), .slice (some ⟨gb, A, none⟩) 32 32] : List Value).getD j undef) (fun _ => rfl) ?_ ?_
      · intro u hu
        have h0 : u 0 = .func (.func 30) #[] #[] := hu 0
        have h1 : u 1 = .pointer (some ⟨gs, 0, none⟩) := hu 1
        have h2 : u 2 = .int .i64 p := hu 2
        have h3 : u 3 = .pointer (some ⟨gs, 0, none⟩) := hu 3
        have h4 : u 4 = .pointer (some ⟨gs, 0, none⟩) := hu 4
        have h5 : u 5 = .pointer (some ⟨gs, 0 + 32 * p, none⟩) := hu 5
        have h6 : u 6 = .slice (some ⟨gb, 0, none⟩) N N := hu 6
        have h7 : u 7 = .int .i64 A := hu 7
        have h8 : u 8 = .int .i64 A := hu 8
        have h9 : u 9 = .int .i64 ((A + 32 : Nat) : Int) := hu 9
        have h10 : u 10 = .int .i64 A := hu 10
        have h11 : u 11 = .int .i64 ((A + 32 : Nat) : Int) := hu 11
        have h12 : u 12 = .slice (some ⟨gb, A, none⟩) 32 32 := hu 12
        simp only [List.take_succ_cons, List.take_zero]
        refine spec_cons (fun W hC hd => ⟨by rfl, ?_⟩) ?_
        · exact gives_val _ W (rfl) ⟨hC, trivial, rfl⟩
        simp only [Act.put, List.setIfInBounds_toArray, List.set_cons_succ, List.set_cons_zero, Nat.reduceAdd]
        rw [h0]
        refine spec_cons (fun W hC hd => ⟨by rfl, ?_⟩) ?_
        · exact gives_val _ W (rfl) ⟨hC, trivial, rfl⟩
        simp only [Act.put, List.setIfInBounds_toArray, List.set_cons_succ, List.set_cons_zero, Nat.reduceAdd]
        rw [h1]
        refine spec_cons (fun W hC hd => ⟨by rfl, ?_⟩) ?_
        · exact gives_val _ W (rfl) ⟨hC, trivial, rfl⟩
        simp only [Act.put, List.setIfInBounds_toArray, List.set_cons_succ, List.set_cons_zero, Nat.reduceAdd]
        rw [h2]
        refine spec_cons (fun W hC hd => ⟨by rfl, ?_⟩) ?_
        · exact gives_val _ W (rfl) ⟨hC, trivial, rfl⟩
        simp only [Act.put, List.setIfInBounds_toArray, List.set_cons_succ, List.set_cons_zero, Nat.reduceAdd]
        rw [h3]
        refine spec_cons (fun W hC hd => ⟨by rfl, ?_⟩) ?_
        · exact gives_val _ W (exec_open (.tmp 19) rfl gs rfl) ⟨hC, trivial, rfl⟩
        simp only [Act.put, List.setIfInBounds_toArray, List.set_cons_succ, List.set_cons_zero, Nat.reduceAdd]
        rw [h4]
        refine spec_cons (fun W hC hd => ⟨by rfl, ?_⟩) ?_
        · exact gives_val _ W (exec_arr_at 32 23 256 32 Tryd.underlying32 size25 (.tmp 20) (.tmp 18) rfl gs 0 p rfl rfl hlt) ⟨hC, trivial, rfl⟩
        simp only [Act.put, List.setIfInBounds_toArray, List.set_cons_succ, List.set_cons_zero, Nat.reduceAdd]
        rw [h5]
        refine spec_cons (fun W hC hd => ⟨by rfl, ?_⟩) ?_
        · exact gives_val _ W (rfl) ⟨hC, trivial, rfl⟩
        simp only [Act.put, List.setIfInBounds_toArray, List.set_cons_succ, List.set_cons_zero, Nat.reduceAdd]
        rw [h6]
        refine spec_cons (fun W hC hd => ⟨by rfl, ?_⟩) ?_
        · exact gives_val _ W (rfl) ⟨hC, trivial, rfl⟩
        simp only [Act.put, List.setIfInBounds_toArray, List.set_cons_succ, List.set_cons_zero, Nat.reduceAdd]
        rw [h7]
        refine spec_cons (fun W hC hd => ⟨by rfl, ?_⟩) ?_
        · exact gives_val _ W (rfl) ⟨hC, trivial, rfl⟩
        simp only [Act.put, List.setIfInBounds_toArray, List.set_cons_succ, List.set_cons_zero, Nat.reduceAdd]
        rw [h8]
        refine spec_cons (fun W hC hd => ⟨by rfl, ?_⟩) ?_
        · exact gives_val _ W (exec_binOp .add 3 3 (.tmp 24) (.const (.int .i64 32)) rfl (.int .i64 A) (.int .i64 32) (.int .i64 ((A + 32 : Nat) : Int)) rfl rfl rfl (add32 A (by omega) _)) ⟨hC, trivial, rfl⟩
        simp only [Act.put, List.setIfInBounds_toArray, List.set_cons_succ, List.set_cons_zero, Nat.reduceAdd]
        rw [h9]
        refine spec_cons (fun W hC hd => ⟨by rfl, ?_⟩) ?_
        · exact gives_val _ W (rfl) ⟨hC, trivial, rfl⟩
        simp only [Act.put, List.setIfInBounds_toArray, List.set_cons_succ, List.set_cons_zero, Nat.reduceAdd]
        rw [h10]
        refine spec_cons (fun W hC hd => ⟨by rfl, ?_⟩) ?_
        · exact gives_val _ W (exec_binOp .add 3 3 (.tmp 26) (.const (.int .i64 32)) rfl (.int .i64 A) (.int .i64 32) (.int .i64 ((A + 32 : Nat) : Int)) rfl rfl rfl (add32 A (by omega) _)) ⟨hC, trivial, rfl⟩
        simp only [Act.put, List.setIfInBounds_toArray, List.set_cons_succ, List.set_cons_zero, Nat.reduceAdd]
        rw [h11]
        refine spec_cons (fun W hC hd => ⟨by rfl, ?_⟩) ?_
        · exact gives_val _ W (exec_three_cut (.tmp 22) (.tmp 23) (.tmp 25) (.tmp 27) rfl gb N A (A + 32) rfl rfl rfl rfl rfl (by rw [HN.out]; omega)) ⟨hC, trivial, rfl⟩
        simp only [Act.put, List.setIfInBounds_toArray, List.set_cons_succ, List.set_cons_zero, Nat.reduceAdd]
        rw [h12]
        exact spec_nil
      intro u W hu hC _
      have h0 : u 0 = .func (.func 30) #[] #[] := hu 0
      have h1 : u 1 = .pointer (some ⟨gs, 0, none⟩) := hu 1
      have h2 : u 2 = .int .i64 p := hu 2
      have h3 : u 3 = .pointer (some ⟨gs, 0, none⟩) := hu 3
      have h4 : u 4 = .pointer (some ⟨gs, 0, none⟩) := hu 4
      have h5 : u 5 = .pointer (some ⟨gs, 0 + 32 * p, none⟩) := hu 5
      have h6 : u 6 = .slice (some ⟨gb, 0, none⟩) N N := hu 6
      have h7 : u 7 = .int .i64 A := hu 7
      have h8 : u 8 = .int .i64 A := hu 8
      have h9 : u 9 = .int .i64 ((A + 32 : Nat) : Int) := hu 9
      have h10 : u 10 = .int .i64 A := hu 10
      have h11 : u 11 = .int .i64 ((A + 32 : Nat) : Int) := hu 11
      have h12 : u 12 = .slice (some ⟨gb, A, none⟩) 32 32 := hu 12
      simp only [List.take_succ_cons, List.take_zero, List.drop_succ_cons, List.drop_zero, putAll, Act.put, List.setIfInBounds_toArray, List.set_cons_succ, List.set_cons_zero, Nat.reduceAdd]
      rw [h0, h1, h2, h3, h4, h5, h6, h7, h8, h9, h10, h11, h12]
      clear hu h0 h1 h2 h3 h4 h5 h6 h7 h8 h9 h10 h11 h12
      have H1 := Lib.hid (H0.out.drew hC)
      have hSg := HSg.out W H1.out.grown
      have hrg := hSg.o_range HO.out HR.out p hlt
      obtain ⟨C, hC1, hC2⟩ := H1.out.bd.ty
      have HC1 := Lib.hid hC1
      have HC2 := Lib.hid hC2
      have HRg : Hid (W.rangeAt gs (32 * p) ((o p).map (Value.int .u8))) := Lib.hid hrg
      clear hC hSg hrg hC1 hC2
      go_wp2_with fail
      refine (enc1_any W gs (32 * p) gb A (o p) C 5 (HO.out p) HRg.out HC1.out (by rw [HC2.out]; omega)).mono ?_
      rintro e w2 ⟨rfl, rfl⟩
      refine gen_world (Q := _) _ (Eo w gb o r (p + 1) p) (H1.out.put HO.out HR.out p (by omega) (o p) (sf_open o r p hlt) A HA.out.symm (p + 1) p (fun q hq => by omega) C HC1.out) ?_
      intro w2 h2
      have H2 := Lib.hid h2
      clear h2 H1 HRg HC1 HC2
      go_upto_region 6 with fail
      refine wp_region_spec (C := (fun W => Below w2.heap.size w2 W)) (Le := fun _ _ => True) 13 (fun j _ v => v = ([.func (.func 30) #[] #[], .pointer (some ⟨gs, 0, none⟩), .int .i64 p, .pointer (some ⟨gs, 0, none⟩), .pointer (some ⟨gs, 8192, none⟩), .pointer (some ⟨gs, 8192 + 32 * p, none⟩), .slice (some ⟨gb, 0, none⟩) N N, .int .i64 B, .int .i64 B, .int .i64 ((B + 32 : Nat) : Int), .int .i64 B, .int .i64 ((B + 32 : Nat) : Int), .slice (some ⟨gb, B, none⟩) 32 32] : List Value).getD j undef) (by kernel_rfl) (by kernel_rfl) ⟨rfl, rfl, rfl, Nat.le_refl _, fun _ _ => rfl⟩ (fun _ _ _ _ _ h => h) (fun j v => v = ([.func (.func 30) #[] #[], .pointer (some ⟨gs, 0, none⟩), .int .i64 p, .pointer (some ⟨gs, 0, none⟩), .pointer (some ⟨gs, 8192, none⟩), .pointer (some ⟨gs, 8192 + 32 * p, none⟩), .slice (some ⟨gb, 0, none⟩) N N, .int .i64 B, .int .i64 B, .int .i64 ((B + 32 : Nat) : Int), .int .i64 B, .int .i64 ((B + 32 : Nat) : Int), .slice (some ⟨gb, B, none⟩) 32 32] : List Value).getD j undef) (fun _ _ _ h => h) (fun j => ([.func (.func 30) #[] #[], .pointer (some ⟨gs, 0, none⟩), .int .i64 p, .pointer (some ⟨gs, 0, none⟩), .pointer (some ⟨gs, 8192, none⟩), .pointer (some ⟨gs, 8192 + 32 * p, none⟩), .slice (some ⟨gb, 0, none⟩) N N, .int .i64 B, .int .i64 B, .int .i64 ((B + 32 : Nat) : Int), .int .i64 B, .int .i64 ((B + 32 : Nat) : Int), .slice (some ⟨gb, B, none⟩) 32 32] : List Value).getD j undef) (fun _ => rfl) ?_ ?_
      · intro u hu
        have h0 : u 0 = .func (.func 30) #[] #[] := hu 0
        have h1 : u 1 = .pointer (some ⟨gs, 0, none⟩) := hu 1
        have h2 : u 2 = .int .i64 p := hu 2
        have h3 : u 3 = .pointer (some ⟨gs, 0, none⟩) := hu 3
        have h4 : u 4 = .pointer (some ⟨gs, 8192, none⟩) := hu 4
        have h5 : u 5 = .pointer (some ⟨gs, 8192 + 32 * p, none⟩) := hu 5
        have h6 : u 6 = .slice (some ⟨gb, 0, none⟩) N N := hu 6
        have h7 : u 7 = .int .i64 B := hu 7
        have h8 : u 8 = .int .i64 B := hu 8
        have h9 : u 9 = .int .i64 ((B + 32 : Nat) : Int) := hu 9
        have h10 : u 10 = .int .i64 B := hu 10
        have h11 : u 11 = .int .i64 ((B + 32 : Nat) : Int) := hu 11
        have h12 : u 12 = .slice (some ⟨gb, B, none⟩) 32 32 := hu 12
        simp only [List.take_succ_cons, List.take_zero]
        refine spec_cons (fun W hC hd => ⟨by rfl, ?_⟩) ?_
        · exact gives_val _ W (rfl) ⟨hC, trivial, rfl⟩
        simp only [Act.put, List.setIfInBounds_toArray, List.set_cons_succ, List.set_cons_zero, Nat.reduceAdd]
        rw [h0]
        refine spec_cons (fun W hC hd => ⟨by rfl, ?_⟩) ?_
        · exact gives_val _ W (rfl) ⟨hC, trivial, rfl⟩
        simp only [Act.put, List.setIfInBounds_toArray, List.set_cons_succ, List.set_cons_zero, Nat.reduceAdd]
        rw [h1]
        refine spec_cons (fun W hC hd => ⟨by rfl, ?_⟩) ?_
        · exact gives_val _ W (rfl) ⟨hC, trivial, rfl⟩
        simp only [Act.put, List.setIfInBounds_toArray, List.set_cons_succ, List.set_cons_zero, Nat.reduceAdd]
        rw [h2]
        refine spec_cons (fun W hC hd => ⟨by rfl, ?_⟩) ?_
        · exact gives_val _ W (rfl) ⟨hC, trivial, rfl⟩
        simp only [Act.put, List.setIfInBounds_toArray, List.set_cons_succ, List.set_cons_zero, Nat.reduceAdd]
        rw [h3]
        refine spec_cons (fun W hC hd => ⟨by rfl, ?_⟩) ?_
        · exact gives_val _ W (exec_rest (.tmp 33) rfl gs rfl) ⟨hC, trivial, rfl⟩
        simp only [Act.put, List.setIfInBounds_toArray, List.set_cons_succ, List.set_cons_zero, Nat.reduceAdd]
        rw [h4]
        refine spec_cons (fun W hC hd => ⟨by rfl, ?_⟩) ?_
        · exact gives_val _ W (exec_arr_at 32 23 256 32 Tryd.underlying32 size25 (.tmp 34) (.tmp 32) rfl gs 8192 p rfl rfl hlt) ⟨hC, trivial, rfl⟩
        simp only [Act.put, List.setIfInBounds_toArray, List.set_cons_succ, List.set_cons_zero, Nat.reduceAdd]
        rw [h5]
        refine spec_cons (fun W hC hd => ⟨by rfl, ?_⟩) ?_
        · exact gives_val _ W (rfl) ⟨hC, trivial, rfl⟩
        simp only [Act.put, List.setIfInBounds_toArray, List.set_cons_succ, List.set_cons_zero, Nat.reduceAdd]
        rw [h6]
        refine spec_cons (fun W hC hd => ⟨by rfl, ?_⟩) ?_
        · exact gives_val _ W (rfl) ⟨hC, trivial, rfl⟩
        simp only [Act.put, List.setIfInBounds_toArray, List.set_cons_succ, List.set_cons_zero, Nat.reduceAdd]
        rw [h7]
        refine spec_cons (fun W hC hd => ⟨by rfl, ?_⟩) ?_
        · exact gives_val _ W (rfl) ⟨hC, trivial, rfl⟩
        simp only [Act.put, List.setIfInBounds_toArray, List.set_cons_succ, List.set_cons_zero, Nat.reduceAdd]
        rw [h8]
        refine spec_cons (fun W hC hd => ⟨by rfl, ?_⟩) ?_
        · exact gives_val _ W (exec_binOp .add 3 3 (.tmp 38) (.const (.int .i64 32)) rfl (.int .i64 B) (.int .i64 32) (.int .i64 ((B + 32 : Nat) : Int)) rfl rfl rfl (add32 B (by omega) _)) ⟨hC, trivial, rfl⟩
        simp only [Act.put, List.setIfInBounds_toArray, List.set_cons_succ, List.set_cons_zero, Nat.reduceAdd]
        rw [h9]
        refine spec_cons (fun W hC hd => ⟨by rfl, ?_⟩) ?_
        · exact gives_val _ W (rfl) ⟨hC, trivial, rfl⟩
        simp only [Act.put, List.setIfInBounds_toArray, List.set_cons_succ, List.set_cons_zero, Nat.reduceAdd]
        rw [h10]
        refine spec_cons (fun W hC hd => ⟨by rfl, ?_⟩) ?_
        · exact gives_val _ W (exec_binOp .add 3 3 (.tmp 40) (.const (.int .i64 32)) rfl (.int .i64 B) (.int .i64 32) (.int .i64 ((B + 32 : Nat) : Int)) rfl rfl rfl (add32 B (by omega) _)) ⟨hC, trivial, rfl⟩
        simp only [Act.put, List.setIfInBounds_toArray, List.set_cons_succ, List.set_cons_zero, Nat.reduceAdd]
        rw [h11]
        refine spec_cons (fun W hC hd => ⟨by rfl, ?_⟩) ?_
        · exact gives_val _ W (exec_three_cut (.tmp 36) (.tmp 37) (.tmp 39) (.tmp 41) rfl gb N B (B + 32) rfl rfl rfl rfl rfl (by rw [HN.out]; omega)) ⟨hC, trivial, rfl⟩
        simp only [Act.put, List.setIfInBounds_toArray, List.set_cons_succ, List.set_cons_zero, Nat.reduceAdd]
        rw [h12]
        exact spec_nil
      intro u W hu hC _
      have h0 : u 0 = .func (.func 30) #[] #[] := hu 0
      have h1 : u 1 = .pointer (some ⟨gs, 0, none⟩) := hu 1
      have h2 : u 2 = .int .i64 p := hu 2
      have h3 : u 3 = .pointer (some ⟨gs, 0, none⟩) := hu 3
      have h4 : u 4 = .pointer (some ⟨gs, 8192, none⟩) := hu 4
      have h5 : u 5 = .pointer (some ⟨gs, 8192 + 32 * p, none⟩) := hu 5
      have h6 : u 6 = .slice (some ⟨gb, 0, none⟩) N N := hu 6
      have h7 : u 7 = .int .i64 B := hu 7
      have h8 : u 8 = .int .i64 B := hu 8
      have h9 : u 9 = .int .i64 ((B + 32 : Nat) : Int) := hu 9
      have h10 : u 10 = .int .i64 B := hu 10
      have h11 : u 11 = .int .i64 ((B + 32 : Nat) : Int) := hu 11
      have h12 : u 12 = .slice (some ⟨gb, B, none⟩) 32 32 := hu 12
      simp only [List.take_succ_cons, List.take_zero, List.drop_succ_cons, List.drop_zero, putAll, Act.put, List.setIfInBounds_toArray, List.set_cons_succ, List.set_cons_zero, Nat.reduceAdd]
      rw [h0, h1, h2, h3, h4, h5, h6, h7, h8, h9, h10, h11, h12]
      clear hu h0 h1 h2 h3 h4 h5 h6 h7 h8 h9 h10 h11 h12
      have H3 := Lib.hid (H2.out.drew hC)
      have hSg := HSg.out W H3.out.grown
      have hrg := hSg.r_range HO.out HR.out p hlt
      obtain ⟨C, hC1, hC2⟩ := H3.out.bd.ty
      have HC1 := Lib.hid hC1
      have HC2 := Lib.hid hC2
      have HRg : Hid (W.rangeAt gs (8192 + 32 * p) ((r p).map (Value.int .u8))) := Lib.hid (by rw [show 8192 + 32 * p = 32 * (256 + p) by omega]; exact hrg)
      clear hC hSg hrg hC1 hC2
      go_wp2_with fail
      refine (enc1_any W gs (8192 + 32 * p) gb B (r p) C 5 (HR.out p) HRg.out HC1.out (by rw [HC2.out]; omega)).mono ?_
      rintro e w4 ⟨rfl, rfl⟩
      refine gen_world (Q := _) _ (Eo w gb o r (p + 1) (p + 1)) (H3.out.put HO.out HR.out (256 + p) (by omega) (r p) (sf_rest o r p) B (by have h1 := HA.out; have h2 := HB.out; omega) (p + 1) (p + 1) (fun q hq => by omega) C HC1.out) ?_
      intro w4 h4
      have H4 := Lib.hid h4
      clear h4 H3 HRg HC1 HC2
      go_wp2
      go_roundw
      case rel => exact ⟨p + 1, by omega, by go_num, H4.out⟩
      case measure => simp [intOf]; omega
    · obtain rfl : p = 256 := by omega
      have hdf : decide (((256 : Nat) : Int) < 256) = false := by decide
      have hdf' : decide ((256 : Int) < 256) = false := by decide
      have H0 := Lib.hid he
      clear he
      go_wp2
      go_end0
      exact ⟨rfl, H0.out⟩
end Go.Proofs.YtpaffncdfldnmaaDoor
