import Derived.Test.YtchjijifmjbgoaaDoorJf
import Derived.Test.YtchjijifmjbgoaaDoorGh
namespace Go.Proofs.YtchjijifmjbgoaaDoor.Tn
set_option maxRecDepth 100000
open Go.ChangeShapes Go.WideShapes Go.ChangeAt Go.RowKit Go.Proofs.YtchjijifmjbgoaaDoor.Fx Go.Proofs.YtchjijifmjbgoaaDoor.Rf

/-! ### the landed code: the function literals -/
theorem sl_cells {w : World} {b M : Nat} {xs : List Value} (h : Sl w (some ⟨b, 0, none⟩) M xs) (i : Nat) (v : Value) (hv : xs[i]? = some v) : w.cell? ⟨b, i, none⟩ = some v := by
  obtain ⟨c, o, e, hl⟩ := h.lies (by have := (List.getElem?_eq_some_iff.1 hv).1; omega)
  cases e
  have := hl i v hv
  rwa [Nat.zero_add] at this
theorem below_drew1 (W : World) : Below W.heap.size W W.drew := ⟨rfl, rfl, rfl, Nat.le_refl _, fun _ _ => rfl⟩
/-- a load of one cell -/
theorem run_loadVar1 {P : Program} {W : World} (ty : TypeId) (p : Addr) (v : Value) (hc : W.cell? p = some v) (d : TypeDesc) (hu : P.underlying ty = some d) (hd : (match d with | .struct _ | .array _ _ => false | _ => true) = true) : (loadVar ty p).run P W = .ok v W := by
  have hag : (isAgg ty).run P W = .ok false W := by
    simp only [isAgg, Sem.run_bind, run_underlying hu, Result.andThen_ok]
    cases d <;> simp_all
  simp [loadVar, hag, go_sem, hc]
theorem exec_load1 {P : Program} {a : Act} {o : Oper} {W : World} (ty : TypeId) (x : Operand) (ho : o.op = .load ty x) (p : Addr) (hx : a.eval x = .pointer (some p)) (v : Value) (hc : W.cell? p = some v) (d : TypeDesc) (hu : P.underlying ty = some d)
    (hd : (match d with | .struct _ | .array _ _ => false | _ => true) = true) : (execOp a.eval o).run P W = .ok (.value v) W := by
  unfold execOp
  simp only [ho, hx, Instr.loadAt, Instr.sureAddr, Sem.run_bind, Sem.run_pure, Result.andThen_ok, run_loadVar1 ty p v hc d hu hd]
/-- the address of a slice's element of one cell -/
theorem exec_at1 {P : Program} {a : Act} {o : Oper} {W : World} (t e : TypeId) (ht : P.underlying t = some (.slice e)) (hs : (P.info? e).map (·.size) = some 1) (x y : Operand) (ho : o.op = .indexAddr t x y) (c k n cap i : Nat) (hx : a.eval x = .slice (some ⟨c, k, none⟩) n cap) (hy : a.eval y = .int .i64 (i : Int)) (hi : i < n) : (execOp a.eval o).run P W = .ok (.value (.pointer (some ⟨c, k + i, none⟩))) W := by
  have hadd := add_plain c k i
  cases hq : P.info? e with
  | none => simp [hq] at hs
  | some j =>
    have hj : j.size = 1 := by simpa [hq] using hs
    unfold execOp
    simp [ho, hx, hy, Instr.indexAt, asIntOf, run_underlying ht, sizeOf, typeInfo, hq, hj, hi, hadd]
theorem exec_extract {P : Program} {a : Act} {o : Oper} {W : World} (x : Operand) (i : Nat) (ho : o.op = .extract x i) (vs : Array Value) (hx : a.eval x = .tuple vs) (v : Value) (hv : vs[i]? = some v) : (execOp a.eval o).run P W = .ok (.value v) W := by
  unfold execOp
  simp [ho, hx, hv, Instr.extract]
theorem size22 : (Tryd.prog.info? 22).map (·.size) = some 1 := by kernel_rfl
theorem run_sub (x y : Int) (h : -9223372036854775808 ≤ x - y ∧ x - y ≤ 9223372036854775807) (W : World) : (binOp .sub 3 (.int .i64 x) (.int .i64 y)).run Tryd.prog W = .ok (.int .i64 (x - y)) W := by
  have hw : IntKind.i64.wrap (x - y) = x - y := IntWalk.i64_in _ (by omega)
  simp [binOp, Op.intArith, hw]
set_option maxHeartbeats 4000000 in
theorem add1_any (w : World) (b M : Nat) (x y : Int) (h : Sl w (some ⟨b, 0, none⟩) M [.int .i64 x, .int .i64 y]) (hM : M = 2) : Calls Tryd.prog 65 #[.slice (some ⟨b, 0, none⟩) M M] w fun e w' => e = .returned (.tuple #[.int .i64 (Fq.addR x y), .int .i64 (Fq.addE x y)]) ∧ Below w.heap.size w w' := by
  subst hM
  have HC0 := Lib.hid (sl_cells h 0 _ rfl)
  have HC1 := Lib.hid (sl_cells h 1 _ rfl)
  have HX := Lib.hid (fun W => Fq.add_any W x y)
  obtain ⟨R, hR⟩ : ∃ R, Fq.addR x y = R := ⟨_, rfl⟩
  obtain ⟨E, hE⟩ : ∃ E, Fq.addE x y = E := ⟨_, rfl⟩
  rw [hR, hE] at HX ⊢
  clear h hR hE
  go_enter Tryd.func65, Tryd.ntmps65
  go_upto_region 1 with fail
  refine wp_region_spec (C := (fun W => Below w.heap.size w W)) (Le := fun _ _ => True) 9 (fun _ ixx _ v => v = ([.slice (some ⟨b, 0, none⟩) 2 2, .pointer (some ⟨b, 0 + 0, none⟩), .int .i64 x, .slice (some ⟨b, 0, none⟩) 2 2, .pointer (some ⟨b, 0 + 1, none⟩), .int .i64 y, .tuple #[.int .i64 R, .int .i64 E], .int .i64 R, .int .i64 E] : List Value).getD ixx undef) (by kernel_rfl) (by kernel_rfl) ⟨rfl, rfl, rfl, Nat.le_refl _, fun _ _ => rfl⟩ (fun _ _ _ _ _ _ h => h) (fun _ _ _ _ _ _ h => h) (fun ixx v => v = ([.slice (some ⟨b, 0, none⟩) 2 2, .pointer (some ⟨b, 0 + 0, none⟩), .int .i64 x, .slice (some ⟨b, 0, none⟩) 2 2, .pointer (some ⟨b, 0 + 1, none⟩), .int .i64 y, .tuple #[.int .i64 R, .int .i64 E], .int .i64 R, .int .i64 E] : List Value).getD ixx undef) (fun _ _ _ _ h => h) (fun ixx => ([.slice (some ⟨b, 0, none⟩) 2 2, .pointer (some ⟨b, 0 + 0, none⟩), .int .i64 x, .slice (some ⟨b, 0, none⟩) 2 2, .pointer (some ⟨b, 0 + 1, none⟩), .int .i64 y, .tuple #[.int .i64 R, .int .i64 E], .int .i64 R, .int .i64 E] : List Value).getD ixx undef) (fun _ => rfl) ?_ ?_
  · intro u hu
    have h0 : u 0 = .slice (some ⟨b, 0, none⟩) 2 2 := hu 0
    have h1 : u 1 = .pointer (some ⟨b, 0 + 0, none⟩) := hu 1
    have h2 : u 2 = .int .i64 x := hu 2
    have h3 : u 3 = .slice (some ⟨b, 0, none⟩) 2 2 := hu 3
    have h4 : u 4 = .pointer (some ⟨b, 0 + 1, none⟩) := hu 4
    have h5 : u 5 = .int .i64 y := hu 5
    have h6 : u 6 = .tuple #[.int .i64 R, .int .i64 E] := hu 6
    have h7 : u 7 = .int .i64 R := hu 7
    have h8 : u 8 = .int .i64 E := hu 8
    simp only [List.take_succ_cons, List.take_zero]
    refine spec_cons (fun W hC hd => ⟨by rfl, ?_⟩) ?_
    · exact gives_val (.slice (some ⟨b, 0, none⟩) 2 2) W (rfl) ⟨hC, trivial, rfl⟩
    simp only [Act.put, List.setIfInBounds_toArray, List.set_cons_succ, List.set_cons_zero, Nat.reduceAdd]
    rw [h0]
    refine spec_cons (fun W hC hd => ⟨by rfl, ?_⟩) ?_
    · exact gives_val (.pointer (some ⟨b, 0 + 0, none⟩)) W (exec_at1 22 3 Tryd.underlying22 size3 (.tmp 4) (.const (.int .i64 0)) rfl b 0 2 2 0 rfl rfl (by omega)) ⟨hC, trivial, rfl⟩
    simp only [Act.put, List.setIfInBounds_toArray, List.set_cons_succ, List.set_cons_zero, Nat.reduceAdd]
    rw [h1]
    refine spec_cons (fun W hC hd => ⟨by rfl, ?_⟩) ?_
    · exact gives_val (.int .i64 x) W (exec_load1 3 (.tmp 5) rfl ⟨b, 0 + 0, none⟩ rfl _ (below_cell hC HC0.out) _ Tryd.underlying3 rfl) ⟨hC, trivial, rfl⟩
    simp only [Act.put, List.setIfInBounds_toArray, List.set_cons_succ, List.set_cons_zero, Nat.reduceAdd]
    rw [h2]
    refine spec_cons (fun W hC hd => ⟨by rfl, ?_⟩) ?_
    · exact gives_val (.slice (some ⟨b, 0, none⟩) 2 2) W (rfl) ⟨hC, trivial, rfl⟩
    simp only [Act.put, List.setIfInBounds_toArray, List.set_cons_succ, List.set_cons_zero, Nat.reduceAdd]
    rw [h3]
    refine spec_cons (fun W hC hd => ⟨by rfl, ?_⟩) ?_
    · exact gives_val (.pointer (some ⟨b, 0 + 1, none⟩)) W (exec_at1 22 3 Tryd.underlying22 size3 (.tmp 7) (.const (.int .i64 1)) rfl b 0 2 2 1 rfl rfl (by omega)) ⟨hC, trivial, rfl⟩
    simp only [Act.put, List.setIfInBounds_toArray, List.set_cons_succ, List.set_cons_zero, Nat.reduceAdd]
    rw [h4]
    refine spec_cons (fun W hC hd => ⟨by rfl, ?_⟩) ?_
    · exact gives_val (.int .i64 y) W (exec_load1 3 (.tmp 8) rfl ⟨b, 0 + 1, none⟩ rfl _ (below_cell hC HC1.out) _ Tryd.underlying3 rfl) ⟨hC, trivial, rfl⟩
    simp only [Act.put, List.setIfInBounds_toArray, List.set_cons_succ, List.set_cons_zero, Nat.reduceAdd]
    rw [h5]
    refine spec_cons (fun W hC hd => ⟨by rfl, ?_⟩) ?_
    · exact gives_call _ _ (exec_call2 66 (.tmp 6) (.tmp 9) #[3, 3] _ _ rfl rfl rfl (cf Tryd.func66 (by kernel_rfl) (by kernel_rfl) _ _)) ((HX.out W).mono fun e W' h => ⟨_, h.1, hC.trans (h.2.mono hC.size), trivial, rfl⟩)
    simp only [Act.put, List.setIfInBounds_toArray, List.set_cons_succ, List.set_cons_zero, Nat.reduceAdd]
    rw [h6]
    refine spec_cons (fun W hC hd => ⟨by rfl, ?_⟩) ?_
    · exact gives_val (.int .i64 R) W (exec_extract (.tmp 10) 0 rfl _ rfl _ rfl) ⟨hC, trivial, rfl⟩
    simp only [Act.put, List.setIfInBounds_toArray, List.set_cons_succ, List.set_cons_zero, Nat.reduceAdd]
    rw [h7]
    refine spec_cons (fun W hC hd => ⟨by rfl, ?_⟩) ?_
    · exact gives_val (.int .i64 E) W (exec_extract (.tmp 10) 1 rfl _ rfl _ rfl) ⟨hC, trivial, rfl⟩
    simp only [Act.put, List.setIfInBounds_toArray, List.set_cons_succ, List.set_cons_zero, Nat.reduceAdd]
    rw [h8]
    exact spec_nil
  intro u W hu hC _
  have h0 : u 0 = .slice (some ⟨b, 0, none⟩) 2 2 := hu 0
  have h1 : u 1 = .pointer (some ⟨b, 0 + 0, none⟩) := hu 1
  have h2 : u 2 = .int .i64 x := hu 2
  have h3 : u 3 = .slice (some ⟨b, 0, none⟩) 2 2 := hu 3
  have h4 : u 4 = .pointer (some ⟨b, 0 + 1, none⟩) := hu 4
  have h5 : u 5 = .int .i64 y := hu 5
  have h6 : u 6 = .tuple #[.int .i64 R, .int .i64 E] := hu 6
  have h7 : u 7 = .int .i64 R := hu 7
  have h8 : u 8 = .int .i64 E := hu 8
  simp only [List.take_succ_cons, List.take_zero, List.drop_succ_cons, List.drop_zero, putAll, Act.put, List.setIfInBounds_toArray, List.set_cons_succ, List.set_cons_zero, Nat.reduceAdd]
  rw [h0, h1, h2, h3, h4, h5, h6, h7, h8]
  clear hu h0 h1 h2 h3 h4 h5 h6 h7 h8
  have HB := Lib.hid hC
  clear hC
  go_wp2
  go_ret2
  exact ⟨rfl, HB.out⟩
set_option maxHeartbeats 4000000 in
theorem soft1_any (w : World) (b M B : Nat) (x m : Int) (h : Sl w (some ⟨b, 0, none⟩) M [.int .i64 x]) (hM : M = 1) (hm : w.cell? ⟨B, 0, none⟩ = some (.int .i64 m)) (hx : x ≤ m) (h1 : -2147483648 ≤ x) (h2 : m ≤ 2147483647) (he : E0 w) : Calls Tryd.prog 50 #[.slice (some ⟨b, 0, none⟩) M M, .pointer (some ⟨B, 0, none⟩)] w fun e w' => e = .returned (.tuple #[.int .i64 (ex (x - m)), .int .i64 0]) ∧ Below w.heap.size w w' := by
  subst hM
  have HC0 := Lib.hid (sl_cells h 0 _ rfl)
  have HM := Lib.hid hm
  have HX : Hid (∀ W', Below w.heap.size w W' → Calls Tryd.prog 51 #[.int .i64 (x - m)] W' fun e w' => e = .returned (.tuple #[.int .i64 (ex (x - m)), .int .i64 0]) ∧ Below W'.heap.size W' w') := Lib.hid (fun W' hb => by
    have h0 := Fq.exp_any W' (x - m) (he.below hb).steps (by omega)
    have hE : Fq.expR (x - m) = ex (x - m) ∧ Fq.expE (x - m) = 0 := by unfold Fq.expR Fq.expE; rw [if_neg (by omega), if_neg (by omega)]; exact ⟨rfl, rfl⟩
    rw [hE.1, hE.2] at h0
    exact h0.mono fun e w' h => ⟨h.1, by rw [← h.2]; exact Below.refl _ _⟩)
  obtain ⟨R, hR⟩ : ∃ R, ex (x - m) = R := ⟨_, rfl⟩
  rw [hR] at HX ⊢
  clear h hR hm he
  go_enter Tryd.func50, Tryd.ntmps50
  go_upto_region 1 with fail
  refine wp_region_spec (C := (fun W => Below w.heap.size w W)) (Le := fun _ _ => True) 8 (fun _ ixx _ v => v = ([.slice (some ⟨b, 0, none⟩) 1 1, .pointer (some ⟨b, 0 + 0, none⟩), .int .i64 x, .int .i64 m, .int .i64 (x - m), .tuple #[.int .i64 R, .int .i64 0], .int .i64 R, .int .i64 0] : List Value).getD ixx undef) (by kernel_rfl) (by kernel_rfl) ⟨rfl, rfl, rfl, Nat.le_refl _, fun _ _ => rfl⟩ (fun _ _ _ _ _ _ h => h) (fun _ _ _ _ _ _ h => h) (fun ixx v => v = ([.slice (some ⟨b, 0, none⟩) 1 1, .pointer (some ⟨b, 0 + 0, none⟩), .int .i64 x, .int .i64 m, .int .i64 (x - m), .tuple #[.int .i64 R, .int .i64 0], .int .i64 R, .int .i64 0] : List Value).getD ixx undef) (fun _ _ _ _ h => h) (fun ixx => ([.slice (some ⟨b, 0, none⟩) 1 1, .pointer (some ⟨b, 0 + 0, none⟩), .int .i64 x, .int .i64 m, .int .i64 (x - m), .tuple #[.int .i64 R, .int .i64 0], .int .i64 R, .int .i64 0] : List Value).getD ixx undef) (fun _ => rfl) ?_ ?_
  · intro u hu
    have h0 : u 0 = .slice (some ⟨b, 0, none⟩) 1 1 := hu 0
    have h1 : u 1 = .pointer (some ⟨b, 0 + 0, none⟩) := hu 1
    have h2 : u 2 = .int .i64 x := hu 2
    have h3 : u 3 = .int .i64 m := hu 3
    have h4 : u 4 = .int .i64 (x - m) := hu 4
    have h5 : u 5 = .tuple #[.int .i64 R, .int .i64 0] := hu 5
    have h6 : u 6 = .int .i64 R := hu 6
    have h7 : u 7 = .int .i64 0 := hu 7
    simp only [List.take_succ_cons, List.take_zero]
    refine spec_cons (fun W hC hd => ⟨by rfl, ?_⟩) ?_
    · exact gives_val (.slice (some ⟨b, 0, none⟩) 1 1) W (rfl) ⟨hC, trivial, rfl⟩
    simp only [Act.put, List.setIfInBounds_toArray, List.set_cons_succ, List.set_cons_zero, Nat.reduceAdd]
    rw [h0]
    refine spec_cons (fun W hC hd => ⟨by rfl, ?_⟩) ?_
    · exact gives_val (.pointer (some ⟨b, 0 + 0, none⟩)) W (exec_at1 22 3 Tryd.underlying22 size3 (.tmp 5) (.const (.int .i64 0)) rfl b 0 1 1 0 rfl rfl (by omega)) ⟨hC, trivial, rfl⟩
    simp only [Act.put, List.setIfInBounds_toArray, List.set_cons_succ, List.set_cons_zero, Nat.reduceAdd]
    rw [h1]
    refine spec_cons (fun W hC hd => ⟨by rfl, ?_⟩) ?_
    · exact gives_val (.int .i64 x) W (exec_load1 3 (.tmp 6) rfl ⟨b, 0 + 0, none⟩ rfl _ (below_cell hC HC0.out) _ Tryd.underlying3 rfl) ⟨hC, trivial, rfl⟩
    simp only [Act.put, List.setIfInBounds_toArray, List.set_cons_succ, List.set_cons_zero, Nat.reduceAdd]
    rw [h2]
    refine spec_cons (fun W hC hd => ⟨by rfl, ?_⟩) ?_
    · exact gives_val (.int .i64 m) W (exec_load1 3 (.tmp 1) rfl ⟨B, 0, none⟩ rfl _ (below_cell hC HM.out) _ Tryd.underlying3 rfl) ⟨hC, trivial, rfl⟩
    simp only [Act.put, List.setIfInBounds_toArray, List.set_cons_succ, List.set_cons_zero, Nat.reduceAdd]
    rw [h3]
    refine spec_cons (fun W hC hd => ⟨by rfl, ?_⟩) ?_
    · exact gives_val (.int .i64 (x - m)) W (exec_binOp .sub 3 3 (.tmp 7) (.tmp 8) rfl (.int .i64 x) (.int .i64 m) _ rfl rfl rfl (run_sub x m (by omega) W)) ⟨hC, trivial, rfl⟩
    simp only [Act.put, List.setIfInBounds_toArray, List.set_cons_succ, List.set_cons_zero, Nat.reduceAdd]
    rw [h4]
    refine spec_cons (fun W hC hd => ⟨by rfl, ?_⟩) ?_
    · exact gives_call _ _ (exec_call1 51 (.tmp 9) #[3] _ rfl rfl (cf Tryd.func51 (by kernel_rfl) (by kernel_rfl) _ _)) ((HX.out W hC).mono fun e W' h => ⟨_, h.1, hC.trans (h.2.mono hC.size), trivial, rfl⟩)
    simp only [Act.put, List.setIfInBounds_toArray, List.set_cons_succ, List.set_cons_zero, Nat.reduceAdd]
    rw [h5]
    refine spec_cons (fun W hC hd => ⟨by rfl, ?_⟩) ?_
    · exact gives_val (.int .i64 R) W (exec_extract (.tmp 10) 0 rfl _ rfl _ rfl) ⟨hC, trivial, rfl⟩
    simp only [Act.put, List.setIfInBounds_toArray, List.set_cons_succ, List.set_cons_zero, Nat.reduceAdd]
    rw [h6]
    refine spec_cons (fun W hC hd => ⟨by rfl, ?_⟩) ?_
    · exact gives_val (.int .i64 0) W (exec_extract (.tmp 10) 1 rfl _ rfl _ rfl) ⟨hC, trivial, rfl⟩
    simp only [Act.put, List.setIfInBounds_toArray, List.set_cons_succ, List.set_cons_zero, Nat.reduceAdd]
    rw [h7]
    exact spec_nil
  intro u W hu hC _
  have h0 : u 0 = .slice (some ⟨b, 0, none⟩) 1 1 := hu 0
  have h1 : u 1 = .pointer (some ⟨b, 0 + 0, none⟩) := hu 1
  have h2 : u 2 = .int .i64 x := hu 2
  have h3 : u 3 = .int .i64 m := hu 3
  have h4 : u 4 = .int .i64 (x - m) := hu 4
  have h5 : u 5 = .tuple #[.int .i64 R, .int .i64 0] := hu 5
  have h6 : u 6 = .int .i64 R := hu 6
  have h7 : u 7 = .int .i64 0 := hu 7
  simp only [List.take_succ_cons, List.take_zero, List.drop_succ_cons, List.drop_zero, putAll, Act.put, List.setIfInBounds_toArray, List.set_cons_succ, List.set_cons_zero, Nat.reduceAdd]
  rw [h0, h1, h2, h3, h4, h5, h6, h7]
  clear hu h0 h1 h2 h3 h4 h5 h6 h7
  have HB := Lib.hid hC
  clear hC
  go_wp2
  go_ret2
  exact ⟨rfl, HB.out⟩
set_option maxHeartbeats 4000000 in
theorem mix1_any (W : World) (b M B : Nat) (sp : Option Addr) (cap : Nat) (ss cs : List Int) (hs : ss.length = M) (hc : cs.length = M) (h : Nums W (some ⟨b, 0, none⟩) M cs) (hm : W.cell? ⟨B, 0, none⟩ = some (.slice sp M cap)) (hl : Nums W sp cap ss) (hf : Far ss cs) (he : E0 W) : Calls Tryd.prog 53 #[.slice (some ⟨b, 0, none⟩) M M, .pointer (some ⟨B, 0, none⟩)] W fun e w' => e = .returned (.tuple #[.int .i64 (orNil (rnd (dotS ss cs))), .int .i64 (over (rnd (dotS ss cs)))]) ∧ Below W.heap.size W w' := by
  have HX := Lib.hid (scaled_any W sp _ cap M M ss cs hs hc hl h hf he)
  obtain ⟨R, hR⟩ : ∃ R, orNil (rnd (dotS ss cs)) = R := ⟨_, rfl⟩
  obtain ⟨E, hE⟩ : ∃ E, over (rnd (dotS ss cs)) = E := ⟨_, rfl⟩
  rw [hR, hE] at HX ⊢
  clear hs hc h hl hf he hR hE
  go_enter Tryd.func53, Tryd.ntmps53
  go_wp2_with fail
  refine HX.out.mono ?_
  rintro e w1 ⟨rfl, hb⟩
  have HB := Lib.hid hb
  clear hb hm
  go_wp2
  go_ret2
  exact ⟨rfl, HB.out⟩
set_option maxHeartbeats 4000000 in
theorem mul1_any (w : World) (b M B : Nat) (sp sq : Option Addr) (cap caq N : Nat) (row v : List Int) (hr : row.length = N) (hv : v.length = N) (h : Sl w (some ⟨b, 0, none⟩) M [.slice sp N cap]) (hM : M = 1) (hm : w.cell? ⟨B, 0, none⟩ = some (.slice sq N caq)) (hrn : Nums w sp cap row) (hvn : Nums w sq caq v) (hf : Far row v) (he : E0 w) : Calls Tryd.prog 47 #[.slice (some ⟨b, 0, none⟩) M M, .pointer (some ⟨B, 0, none⟩)] w fun e w' => e = .returned (.tuple #[.int .i64 (orNil (rnd (dotS row v))), .int .i64 (over (rnd (dotS row v)))]) ∧ Below w.heap.size w w' := by
  subst hM
  have HC0 := Lib.hid (sl_cells h 0 _ rfl)
  have HM := Lib.hid hm
  have HX := Lib.hid (fun W' (hb : Below w.heap.size w W') => scaled_any W' sp sq cap caq N row v hr hv (hrn.below hb) (hvn.below hb) hf (he.below hb))
  obtain ⟨R, hR⟩ : ∃ R, orNil (rnd (dotS row v)) = R := ⟨_, rfl⟩
  obtain ⟨E, hE⟩ : ∃ E, over (rnd (dotS row v)) = E := ⟨_, rfl⟩
  rw [hR, hE] at HX ⊢
  clear h hr hv hrn hvn hf he hR hE hm
  go_enter Tryd.func47, Tryd.ntmps47
  go_upto_region 1 with fail
  refine wp_region_spec (C := (fun W => Below w.heap.size w W)) (Le := fun _ _ => True) 7 (fun _ ixx _ v => v = ([.slice (some ⟨b, 0, none⟩) 1 1, .pointer (some ⟨b, 0 + 0, none⟩), .slice sp N cap, .slice sq N caq, .tuple #[.int .i64 R, .int .i64 E], .int .i64 R, .int .i64 E] : List Value).getD ixx undef) (by kernel_rfl) (by kernel_rfl) ⟨rfl, rfl, rfl, Nat.le_refl _, fun _ _ => rfl⟩ (fun _ _ _ _ _ _ h => h) (fun _ _ _ _ _ _ h => h) (fun ixx v => v = ([.slice (some ⟨b, 0, none⟩) 1 1, .pointer (some ⟨b, 0 + 0, none⟩), .slice sp N cap, .slice sq N caq, .tuple #[.int .i64 R, .int .i64 E], .int .i64 R, .int .i64 E] : List Value).getD ixx undef) (fun _ _ _ _ h => h) (fun ixx => ([.slice (some ⟨b, 0, none⟩) 1 1, .pointer (some ⟨b, 0 + 0, none⟩), .slice sp N cap, .slice sq N caq, .tuple #[.int .i64 R, .int .i64 E], .int .i64 R, .int .i64 E] : List Value).getD ixx undef) (fun _ => rfl) ?_ ?_
  · intro u hu
    have h0 : u 0 = .slice (some ⟨b, 0, none⟩) 1 1 := hu 0
    have h1 : u 1 = .pointer (some ⟨b, 0 + 0, none⟩) := hu 1
    have h2 : u 2 = .slice sp N cap := hu 2
    have h3 : u 3 = .slice sq N caq := hu 3
    have h4 : u 4 = .tuple #[.int .i64 R, .int .i64 E] := hu 4
    have h5 : u 5 = .int .i64 R := hu 5
    have h6 : u 6 = .int .i64 E := hu 6
    simp only [List.take_succ_cons, List.take_zero]
    refine spec_cons (fun W hC hd => ⟨by rfl, ?_⟩) ?_
    · exact gives_val (.slice (some ⟨b, 0, none⟩) 1 1) W (rfl) ⟨hC, trivial, rfl⟩
    simp only [Act.put, List.setIfInBounds_toArray, List.set_cons_succ, List.set_cons_zero, Nat.reduceAdd]
    rw [h0]
    refine spec_cons (fun W hC hd => ⟨by rfl, ?_⟩) ?_
    · exact gives_val (.pointer (some ⟨b, 0 + 0, none⟩)) W (exec_at1 38 22 Tryd.underlying38 size22 (.tmp 5) (.const (.int .i64 0)) rfl b 0 1 1 0 rfl rfl (by omega)) ⟨hC, trivial, rfl⟩
    simp only [Act.put, List.setIfInBounds_toArray, List.set_cons_succ, List.set_cons_zero, Nat.reduceAdd]
    rw [h1]
    refine spec_cons (fun W hC hd => ⟨by rfl, ?_⟩) ?_
    · exact gives_val (.slice sp N cap) W (exec_load1 22 (.tmp 6) rfl ⟨b, 0 + 0, none⟩ rfl _ (below_cell hC HC0.out) _ Tryd.underlying22 rfl) ⟨hC, trivial, rfl⟩
    simp only [Act.put, List.setIfInBounds_toArray, List.set_cons_succ, List.set_cons_zero, Nat.reduceAdd]
    rw [h2]
    refine spec_cons (fun W hC hd => ⟨by rfl, ?_⟩) ?_
    · exact gives_val (.slice sq N caq) W (exec_load1 22 (.tmp 1) rfl ⟨B, 0, none⟩ rfl _ (below_cell hC HM.out) _ Tryd.underlying22 rfl) ⟨hC, trivial, rfl⟩
    simp only [Act.put, List.setIfInBounds_toArray, List.set_cons_succ, List.set_cons_zero, Nat.reduceAdd]
    rw [h3]
    refine spec_cons (fun W hC hd => ⟨by rfl, ?_⟩) ?_
    · exact gives_call _ _ (exec_call2 41 (.tmp 7) (.tmp 8) #[22, 22] _ _ rfl rfl rfl (cf Tryd.func41 (by kernel_rfl) (by kernel_rfl) _ _)) ((HX.out W hC).mono fun e W' h => ⟨_, h.1, hC.trans (h.2.mono hC.size), trivial, rfl⟩)
    simp only [Act.put, List.setIfInBounds_toArray, List.set_cons_succ, List.set_cons_zero, Nat.reduceAdd]
    rw [h4]
    refine spec_cons (fun W hC hd => ⟨by rfl, ?_⟩) ?_
    · exact gives_val (.int .i64 R) W (exec_extract (.tmp 9) 0 rfl _ rfl _ rfl) ⟨hC, trivial, rfl⟩
    simp only [Act.put, List.setIfInBounds_toArray, List.set_cons_succ, List.set_cons_zero, Nat.reduceAdd]
    rw [h5]
    refine spec_cons (fun W hC hd => ⟨by rfl, ?_⟩) ?_
    · exact gives_val (.int .i64 E) W (exec_extract (.tmp 9) 1 rfl _ rfl _ rfl) ⟨hC, trivial, rfl⟩
    simp only [Act.put, List.setIfInBounds_toArray, List.set_cons_succ, List.set_cons_zero, Nat.reduceAdd]
    rw [h6]
    exact spec_nil
  intro u W hu hC _
  have h0 : u 0 = .slice (some ⟨b, 0, none⟩) 1 1 := hu 0
  have h1 : u 1 = .pointer (some ⟨b, 0 + 0, none⟩) := hu 1
  have h2 : u 2 = .slice sp N cap := hu 2
  have h3 : u 3 = .slice sq N caq := hu 3
  have h4 : u 4 = .tuple #[.int .i64 R, .int .i64 E] := hu 4
  have h5 : u 5 = .int .i64 R := hu 5
  have h6 : u 6 = .int .i64 E := hu 6
  simp only [List.take_succ_cons, List.take_zero, List.drop_succ_cons, List.drop_zero, putAll, Act.put, List.setIfInBounds_toArray, List.set_cons_succ, List.set_cons_zero, Nat.reduceAdd]
  rw [h0, h1, h2, h3, h4, h5, h6]
  clear hu h0 h1 h2 h3 h4 h5 h6
  have HB := Lib.hid hC
  clear hC
  go_wp2
  go_ret2
  exact ⟨rfl, HB.out⟩
end Go.Proofs.YtchjijifmjbgoaaDoor.Tn
