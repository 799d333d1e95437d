import Derived.Test.YtkfkjapkcjidnaaOm
namespace Go.Proofs.Ytkfkjapkcjidnaa.Wg
set_option maxRecDepth 100000
open Go.ChangeShapes Go.WideShapes Go.ChangeAt Go.RowKit Go.Shelf Go.Proofs.Ytkfkjapkcjidnaa.Tn
attribute [local go_sem] Oper.semAt_some

/-! ### a part, as the document's answer has it -/
def gvC (r c : Int) (sp : Option Addr) (n cap : Nat) : Array Value := #[.int .i64 r, .int .i64 c, .slice sp n cap]
theorem gvC_one (r c : Int) (sp : Option Addr) (n cap : Nat) : (gvC r c sp n cap).all (·.oneCell') = true := by kernel_rfl
theorem size_gv : (Try.prog.info? 58).map (·.size) = some 3 := by kernel_rfl
theorem run_buildG3 (r c : Int) (sp : Option Addr) (n cap : Nat) (W : World) : (Instr.build 58 #[(0, .int .i64 r), (1, .int .i64 c), (2, .slice sp n cap)]).run Try.prog W = .ok (.agg (gvC r c sp n cap)) W := by kernel_rfl
theorem run_buildG1 (sp : Option Addr) (n cap : Nat) (W : World) : (Instr.build 58 #[(2, .slice sp n cap)]).run Try.prog W = .ok (.agg (gvC 0 0 sp n cap)) W := by kernel_rfl
section
variable {w : World} {ops : Array Oper} {rest : List Oper} {o : Oper} {a : Act} {Q : Exit → Act → World → Prop}
theorem wpList_buildG3 (hg : o.guard = none) (x y z : Operand) (ho : o.op = .build 58 #[(0, x), (1, y), (2, z)]) (r c : Int) (sp : Option Addr) (n cap : Nat)
    (hx : a.eval x = .int .i64 r) (hy : a.eval y = .int .i64 c) (hz : a.eval z = .slice sp n cap) (h : wpList Try.prog ops Q rest (a.put o.dst (.agg (gvC r c sp n cap))) w) : wpList Try.prog ops Q (o :: rest) a w := by
  refine wpList_plain hg fun K hK => ?_
  unfold Oper.wp
  simp [execOp, ho, hx, hy, hz, run_buildG3, Result.andThen]
  exact hK _ _ h
theorem wpList_buildG1 (hg : o.guard = none) (z : Operand) (ho : o.op = .build 58 #[(2, z)]) (sp : Option Addr) (n cap : Nat) (hz : a.eval z = .slice sp n cap) (h : wpList Try.prog ops Q rest (a.put o.dst (.agg (gvC 0 0 sp n cap))) w) : wpList Try.prog ops Q (o :: rest) a w := by
  refine wpList_plain hg fun K hK => ?_
  unfold Oper.wp
  simp [execOp, ho, hz, run_buildG1, Result.andThen]
  exact hK _ _ h
end
def zGv : Array Value := #[.int .i64 0, .int .i64 0, .slice none 0 0]
theorem given1_any (w : World) (r c : Int) (sp : Option Addr) (n cap : Nat) : Calls Try.prog 44 #[.agg #[.int .i64 r, .int .i64 c, .slice sp n cap]] w fun e w' => e = .returned (.agg (gvC r c sp n cap)) ∧ Below w.heap.size w w' := by
  have h1 : Below w.heap.size w (w.alloc (.cells #[.int .i64 r, .int .i64 c, .slice sp n cap] 28)) := (Below.refl _ _).alloc (Nat.le_refl _) _
  have h2 : Below w.heap.size w ((w.alloc (.cells #[.int .i64 r, .int .i64 c, .slice sp n cap] 28)).alloc (.cells zGv 58)) := h1.alloc h1.size _
  have hr : ((w.alloc (.cells #[.int .i64 r, .int .i64 c, .slice sp n cap] 28)).alloc (.cells zGv 58)).heap[w.heap.size + 1]? = some (.cells zGv 58 (0, 0)) := by
    have := heap_alloc_new (w.alloc (.cells #[.int .i64 r, .int .i64 c, .slice sp n cap] 28)) (.cells zGv 58)
    rwa [World.size_alloc] at this
  have H2 := Lib.hid h2
  have HR := Lib.hid hr
  clear h1 h2 hr
  go_enter Try.func44, Try.ntmps44
  go_wp2_with (first
    | (refine wpList_buildG3 rfl (.tmp 4) (.tmp 6) (.tmp 8) rfl r c sp n cap rfl rfl rfl ?_)
    | (refine wpList_store_row rfl 58 (.tmp 2) (.tmp 9) rfl (w.heap.size + 1) (gvC r c sp n cap) rfl rfl 58 _ HR.out size_gv rfl (gvC_one r c sp n cap) ?_))
  exact bodyPost_ret (v := .agg (gvC r c sp n cap)) (Cd.results_cell_row Try.results44 _ _ (w.heap.size + 1) 58 (gvC r c sp n cap) (0, 0) _ rfl (setRow_heap _ _ _ _ _ _ HR.out) Try.underlying58 rfl size_gv) rfl ⟨rfl, Cd.below_setRow H2.out (by omega) _⟩
/-- what stands while a part is told -/
structure GvI (w : World) (v : Wv) (k y : Int) (W : World) : Prop where
  below : Below w.heap.size w W
  row : W.heap[w.heap.size]? = some (.cells v.cells 31 (0, 0))
  prt : W.cell? ⟨w.heap.size + 1, 0, none⟩ = some (.int .i64 k) ∧ W.cell? ⟨w.heap.size + 1, 1, none⟩ = some (.int .i64 y)
  res : W.heap[w.heap.size + 2]? = some (.cells zGv 58 (0, 0))
theorem GvI.later {w W W' : World} {v : Wv} {k y : Int} (h : GvI w v k y W) (hb : Below W.heap.size W W') : GvI w v k y W' :=
  ⟨h.below.trans (hb.mono h.below.size), (hb.block _ (Array.getElem?_eq_some_iff.1 h.row).1).trans h.row, ⟨(hb.cell (block_lt_of_cell h.prt.1)).trans h.prt.1, (hb.cell (block_lt_of_cell h.prt.2)).trans h.prt.2⟩, (hb.block _ (Array.getElem?_eq_some_iff.1 h.res).1).trans h.res⟩
theorem GvI.cell {w W : World} {v : Wv} {k y : Int} (h : GvI w v k y W) (j : Nat) : W.cell? ⟨w.heap.size, j, none⟩ = v.cells[j]? := by rw [cell_of_row _ _ _ _ _ _ h.row]
/-- a part's cells in the document's words -/
def prC (k y a b : Int) (m : Bool) : Array Value := #[.int .i64 k, .int .i64 y, .int .i64 a, .int .i64 b, .bool m]
theorem GvI.new (w : World) (v : Wv) (k y a b : Int) (m : Bool) : GvI w v k y (((w.alloc (.cells v.cells 31)).alloc (.cells (prC k y a b m) 61)).alloc (.cells zGv 58)) := by
  have h1 : Below w.heap.size w (w.alloc (.cells v.cells 31)) := (Below.refl _ _).alloc (Nat.le_refl _) _
  have r1 := heap_alloc_new w (.cells v.cells 31)
  have s1 : (w.alloc (.cells v.cells 31)).heap.size = w.heap.size + 1 := by simp
  obtain ⟨w1, e1⟩ : ∃ w1, w.alloc (.cells v.cells 31) = w1 := ⟨_, rfl⟩
  rw [e1] at h1 r1 s1 ⊢
  have h2 : Below w1.heap.size w1 (w1.alloc (.cells (prC k y a b m) 61)) := (Below.refl _ _).alloc (Nat.le_refl _) _
  have r2 := heap_alloc_new w1 (.cells (prC k y a b m) 61)
  have s2 : (w1.alloc (.cells (prC k y a b m) 61)).heap.size = w.heap.size + 2 := by simp [s1]
  obtain ⟨w2, e2⟩ : ∃ w2, w1.alloc (.cells (prC k y a b m) 61) = w2 := ⟨_, rfl⟩
  rw [e2] at h2 r2 s2 ⊢
  have h3 : Below w2.heap.size w2 (w2.alloc (.cells zGv 58)) := (Below.refl _ _).alloc (Nat.le_refl _) _
  have r3 := heap_alloc_new w2 (.cells zGv 58)
  rw [s1] at r2
  rw [s2] at r3
  have k2 := (h3.block (w.heap.size + 1) (by omega)).trans r2
  exact ⟨(h1.trans (h2.mono h1.size)).trans (h3.mono (by omega)), (h3.block _ (by omega)).trans ((h2.block _ (by omega)).trans r1), ⟨by rw [cell_of_row _ _ _ _ _ _ k2]; rfl, by rw [cell_of_row _ _ _ _ _ _ k2]; rfl⟩, r3⟩
/-- what Given answers -/
def GivenPost (w0 w : World) (p : Mt) (vec : Bool) (e : Ending) (w' : World) : Prop := ∃ sp cap, e = .returned (.agg (gvC (if vec then 0 else p.r) (if vec then 0 else p.c) sp p.l.length cap)) ∧ Nums w0 sp cap p.l ∧ Below w.heap.size w w'
/-- and which slice of the model's that is -/
def GivenPostS (w0 w : World) (v : Wv) (k y : Nat) (p : Mt) (vec : Bool) (e : Ending) (w' : World) : Prop := ∃ sp cap, e = .returned (.agg (gvC (if vec then 0 else p.r) (if vec then 0 else p.c) sp p.l.length cap)) ∧ Nums w0 sp cap p.l ∧ Below w.heap.size w w' ∧ ∀ b : Bl, b.k = k → b.y = y → sliceOf w0 v b = some (.slice sp p.l.length cap)
set_option maxHeartbeats 4000000 in
theorem given_1 (w0 w : World) (hw0 : Below w0.heap.size w0 w) (v : Wv) (m : Md) (hv0 : WvOK w0 v m) (y a b : Int) (z : Bool) : Calls Try.prog 20 #[.agg v.cells, .agg (prC 1 y a b z)] w (GivenPostS w0 w v 1 0 m.em false) := by
  have HV := Lib.hid hv0
  have HW0 := Lib.hid hw0
  have HX := Lib.hid (GvI.new w v 1 y a b z)
  have c8 := HX.out.cell 8
  have c9 := HX.out.cell 9
  have c10 := HX.out.cell 10
  obtain ⟨p0, p1⟩ := HX.out.prt
  clear hv0 hw0
  unfold prC at HX p0 p1 c8 c9 c10 ⊢
  unfold Wv.cells at c8 c9 c10 ⊢
  go_enter Try.func20, Try.ntmps20
  go_wp2_with (first
    | (go_at_call 44; refine (given1_any _ v.er v.ec v.se v.ne v.ce).mono ?_; rintro e w2 ⟨rfl, hb2⟩; have HX2 := Lib.hid (HX.out.later hb2); clear hb2)
    | (refine wpList_store_row rfl 58 (.tmp 4) (.tmp 11) rfl (w.heap.size + 2) (gvC v.er v.ec v.se v.ne v.ce) rfl rfl 58 _ HX2.out.res size_gv rfl (gvC_one _ _ _ _ _) ?_))
  exact bodyPost_ret (v := .agg (gvC v.er v.ec v.se v.ne v.ce)) (Cd.results_cell_row Try.results20 _ _ (w.heap.size + 2) 58 (gvC v.er v.ec v.se v.ne v.ce) (0, 0) _ rfl (setRow_heap _ _ _ _ _ _ HX2.out.res) Try.underlying58 rfl size_gv) rfl ⟨v.se, v.ce, by rw [← HV.out.er, ← HV.out.ec, ← HV.out.ne]; rfl, HV.out.em, Cd.below_setRow HX2.out.below (by omega) _, fun b hb _ => by unfold sliceOf; rw [if_pos hb, HV.out.ne]⟩
set_option maxHeartbeats 4000000 in
theorem given_12 (w0 w : World) (hw0 : Below w0.heap.size w0 w) (v : Wv) (m : Md) (hv0 : WvOK w0 v m) (y a b : Int) (z : Bool) : Calls Try.prog 20 #[.agg v.cells, .agg (prC 12 y a b z)] w (GivenPostS w0 w v 12 0 m.ou false) := by
  have HV := Lib.hid hv0
  have HW0 := Lib.hid hw0
  have HX := Lib.hid (GvI.new w v 12 y a b z)
  have c13 := HX.out.cell 13
  have c14 := HX.out.cell 14
  have c15 := HX.out.cell 15
  obtain ⟨p0, p1⟩ := HX.out.prt
  clear hv0 hw0
  unfold prC at HX p0 p1 c13 c14 c15 ⊢
  unfold Wv.cells at c13 c14 c15 ⊢
  go_enter Try.func20, Try.ntmps20
  go_wp2_with (first
    | (go_at_call 44; refine (given1_any _ v.xr v.xc v.so v.no v.co).mono ?_; rintro e w2 ⟨rfl, hb2⟩; have HX2 := Lib.hid (HX.out.later hb2); clear hb2)
    | (refine wpList_store_row rfl 58 (.tmp 4) (.tmp 17) rfl (w.heap.size + 2) (gvC v.xr v.xc v.so v.no v.co) rfl rfl 58 _ HX2.out.res size_gv rfl (gvC_one _ _ _ _ _) ?_))
  exact bodyPost_ret (v := .agg (gvC v.xr v.xc v.so v.no v.co)) (Cd.results_cell_row Try.results20 _ _ (w.heap.size + 2) 58 (gvC v.xr v.xc v.so v.no v.co) (0, 0) _ rfl (setRow_heap _ _ _ _ _ _ HX2.out.res) Try.underlying58 rfl size_gv) rfl ⟨v.so, v.co, by rw [← HV.out.xr, ← HV.out.xc, ← HV.out.no]; rfl, HV.out.ou, Cd.below_setRow HX2.out.below (by omega) _, fun b hb _ => by unfold sliceOf; rw [if_neg (by omega), if_neg (by omega), if_pos hb, HV.out.no]⟩
set_option maxHeartbeats 4000000 in
theorem given_11 (w0 w : World) (hw0 : Below w0.heap.size w0 w) (v : Wv) (m : Md) (hv0 : WvOK w0 v m) (y a b : Int) (z : Bool) : Calls Try.prog 20 #[.agg v.cells, .agg (prC 11 y a b z)] w (GivenPostS w0 w v 11 0 ⟨0, 0, m.nm⟩ true) := by
  have HV := Lib.hid hv0
  have HW0 := Lib.hid hw0
  have HX := Lib.hid (GvI.new w v 11 y a b z)
  have c12 := HX.out.cell 12
  obtain ⟨p0, p1⟩ := HX.out.prt
  clear hv0 hw0
  unfold prC at HX p0 p1 c12 ⊢
  unfold Wv.cells at c12 ⊢
  go_enter Try.func20, Try.ntmps20
  have HX2 := HX
  go_wp2_with (first
    | (refine wpList_buildG1 rfl (.tmp 22) rfl v.sn v.nn v.cn rfl ?_)
    | (refine wpList_store_row rfl 58 (.tmp 4) (.tmp 23) rfl (w.heap.size + 2) (gvC 0 0 v.sn v.nn v.cn) rfl rfl 58 _ HX2.out.res size_gv rfl (gvC_one _ _ _ _ _) ?_))
  exact bodyPost_ret (v := .agg (gvC 0 0 v.sn v.nn v.cn)) (Cd.results_cell_row Try.results20 _ _ (w.heap.size + 2) 58 (gvC 0 0 v.sn v.nn v.cn) (0, 0) _ rfl (setRow_heap _ _ _ _ _ _ HX2.out.res) Try.underlying58 rfl size_gv) rfl ⟨v.sn, v.cn, by rw [← HV.out.nn]; rfl, HV.out.nm, Cd.below_setRow HX2.out.below (by omega) _, fun b hb _ => by unfold sliceOf; rw [if_neg (by omega), if_pos hb, HV.out.nn]⟩
set_option maxHeartbeats 4000000 in
theorem given_2 (w0 w : World) (hw0 : Below w0.heap.size w0 w) (v : Wv) (m : Md) (hv0 : WvOK w0 v m) (y : Nat) (hy : y < v.nl) (a b : Int) (z : Bool) : Calls Try.prog 20 #[.agg v.cells, .agg (prC 2 (y : Int) a b z)] w (GivenPostS w0 w v 2 y (m.ly y 2) true) := by
  have HX := Lib.hid (GvI.new w v 2 (y : Int) a b z)
  have HY := Lib.hid hy
  have HV := Lib.hid hv0
  have HW0 := Lib.hid hw0
  clear hv0 hw0 hy
  unfold prC at HX ⊢
  go_enter Try.func20, Try.ntmps20
  go_upto_region 1 with fail
  refine gen_w (Q := fun w => Code.wp _ _ _ _ w) _ (GvI w v 2 (y : Int)) HX.out ?_
  clear HX
  intro W1 hx
  have HX := Lib.hid hx
  obtain ⟨p0, p1⟩ := hx.prt
  clear hx
  obtain ⟨lb, lo, V, hsl, hrg, hpv⟩ := lays_range HV.out.ls HY.out
  have HRg : Hid (W1.rangeAt lb (lo + y * 23) (lyC V).toList) := Lib.hid (fun j u h => ((HW0.out.trans (HX.out.below.mono HW0.out.size)).cell (block_lt_of_cell (hrg j u h))).trans (hrg j u h))
  have HPv := Lib.hid (hpv 2 (by omega) (by omega))
  have c11 : W1.cell? ⟨w.heap.size, 11, none⟩ = some (.slice v.sl v.nl v.cl) := HX.out.cell 11
  have HSc : Hid (∀ b : Bl, b.k = 2 → b.y = y → sliceOf w0 v b = some (.slice (V 2).sp (V 2).n (V 2).cap)) := Lib.hid fun b hb hy => by
    unfold sliceOf
    rw [if_neg (by omega), if_neg (by omega), if_neg (by omega), hsl, hb, hy]
    exact hrg 0 _ rfl
  rw [hsl] at c11
  clear hrg hpv hsl
  go_upto_region 8 with (first
    | (refine wpList_exec rfl (.pointer (some ⟨lb, lo + y * 23, none⟩)) (exec_at23 29 65 Try.underlying29 size_ly (.tmp 25) (.tmp 27) rfl lb lo v.nl v.cl y rfl rfl HY.out) ?_)
    | (refine wpList_load_mid rfl 65 (.tmp 28) rfl lb (lo + y * 23) rfl (lyC V).toList _ HRg.out Try.underlying65 rfl size_ly ?_)
    | (refine wpList_store_newW rfl 65 (.tmp 5) (.tmp 29) rfl (lyC V) zLy 65 rfl rfl rfl size_ly rfl (lyC_one V) ?_))
  have hal : Below W1.heap.size W1 (W1.alloc (.cells (lyC V) 65)) := (Below.refl _ _).alloc (Nat.le_refl _) _
  have HX2 := Lib.hid (HX.out.later hal)
  have HC2 := Lib.hid (heap_alloc_new W1 (.cells (lyC V) 65))
  have HP3 := HPv
  clear hal
  obtain ⟨b4, hb4⟩ : ∃ b4, W1.heap.size = b4 := ⟨_, rfl⟩
  obtain ⟨W2, hW2⟩ : ∃ W2, W1.alloc (.cells (lyC V) 65) = W2 := ⟨_, rfl⟩
  rw [hb4] at HC2 ⊢
  rw [hW2] at HX2 HC2 ⊢
  clear hb4 hW2 p0 p1 c11 HX HRg HPv
  obtain ⟨p0, p1⟩ := HX2.out.prt
  have l0 : W2.cell? ⟨b4, 0, none⟩ = some (.slice (V 2).sp (V 2).n (V 2).cap) := copy_cell HC2.out 0
  go_wp2_with (first
    | (refine wpList_buildG1 rfl (.tmp 35) rfl (V 2).sp (V 2).n (V 2).cap rfl ?_)
    | (refine wpList_store_row rfl 58 (.tmp 4) (.tmp 36) rfl (w.heap.size + 2) (gvC 0 0 (V 2).sp (V 2).n (V 2).cap) rfl rfl 58 _ HX2.out.res size_gv rfl (gvC_one _ _ _ _ _) ?_))
  have HX3 := HX2
  exact bodyPost_ret (v := .agg (gvC 0 0 (V 2).sp (V 2).n (V 2).cap)) (Cd.results_cell_row Try.results20 _ _ (w.heap.size + 2) 58 (gvC 0 0 (V 2).sp (V 2).n (V 2).cap) (0, 0) _ rfl (setRow_heap _ _ _ _ _ _ HX3.out.res) Try.underlying58 rfl size_gv) rfl ⟨(V 2).sp, (V 2).cap, by rw [← HP3.out.1]; rfl, HP3.out.2.1, Cd.below_setRow HX3.out.below (by omega) _, fun b hb hy => by rw [← HP3.out.1]; exact HSc.out b hb hy⟩
set_option maxHeartbeats 4000000 in
theorem given_7 (w0 w : World) (hw0 : Below w0.heap.size w0 w) (v : Wv) (m : Md) (hv0 : WvOK w0 v m) (y : Nat) (hy : y < v.nl) (a b : Int) (z : Bool) : Calls Try.prog 20 #[.agg v.cells, .agg (prC 7 (y : Int) a b z)] w (GivenPostS w0 w v 7 y (m.ly y 7) true) := by
  have HX := Lib.hid (GvI.new w v 7 (y : Int) a b z)
  have HY := Lib.hid hy
  have HV := Lib.hid hv0
  have HW0 := Lib.hid hw0
  clear hv0 hw0 hy
  unfold prC at HX ⊢
  go_enter Try.func20, Try.ntmps20
  go_upto_region 1 with fail
  refine gen_w (Q := fun w => Code.wp _ _ _ _ w) _ (GvI w v 7 (y : Int)) HX.out ?_
  clear HX
  intro W1 hx
  have HX := Lib.hid hx
  obtain ⟨p0, p1⟩ := hx.prt
  clear hx
  obtain ⟨lb, lo, V, hsl, hrg, hpv⟩ := lays_range HV.out.ls HY.out
  have HRg : Hid (W1.rangeAt lb (lo + y * 23) (lyC V).toList) := Lib.hid (fun j u h => ((HW0.out.trans (HX.out.below.mono HW0.out.size)).cell (block_lt_of_cell (hrg j u h))).trans (hrg j u h))
  have HPv := Lib.hid (hpv 7 (by omega) (by omega))
  have c11 : W1.cell? ⟨w.heap.size, 11, none⟩ = some (.slice v.sl v.nl v.cl) := HX.out.cell 11
  have HSc : Hid (∀ b : Bl, b.k = 7 → b.y = y → sliceOf w0 v b = some (.slice (V 7).sp (V 7).n (V 7).cap)) := Lib.hid fun b hb hy => by
    unfold sliceOf
    rw [if_neg (by omega), if_neg (by omega), if_neg (by omega), hsl, hb, hy]
    exact hrg 13 _ rfl
  rw [hsl] at c11
  clear hrg hpv hsl
  go_upto_region 8 with (first
    | (refine wpList_exec rfl (.pointer (some ⟨lb, lo + y * 23, none⟩)) (exec_at23 29 65 Try.underlying29 size_ly (.tmp 25) (.tmp 27) rfl lb lo v.nl v.cl y rfl rfl HY.out) ?_)
    | (refine wpList_load_mid rfl 65 (.tmp 28) rfl lb (lo + y * 23) rfl (lyC V).toList _ HRg.out Try.underlying65 rfl size_ly ?_)
    | (refine wpList_store_newW rfl 65 (.tmp 5) (.tmp 29) rfl (lyC V) zLy 65 rfl rfl rfl size_ly rfl (lyC_one V) ?_))
  have hal : Below W1.heap.size W1 (W1.alloc (.cells (lyC V) 65)) := (Below.refl _ _).alloc (Nat.le_refl _) _
  have HX2 := Lib.hid (HX.out.later hal)
  have HC2 := Lib.hid (heap_alloc_new W1 (.cells (lyC V) 65))
  have HP3 := HPv
  clear hal
  obtain ⟨b4, hb4⟩ : ∃ b4, W1.heap.size = b4 := ⟨_, rfl⟩
  obtain ⟨W2, hW2⟩ : ∃ W2, W1.alloc (.cells (lyC V) 65) = W2 := ⟨_, rfl⟩
  rw [hb4] at HC2 ⊢
  rw [hW2] at HX2 HC2 ⊢
  clear hb4 hW2 p0 p1 c11 HX HRg HPv
  obtain ⟨p0, p1⟩ := HX2.out.prt
  have l0 : W2.cell? ⟨b4, 13, none⟩ = some (.slice (V 7).sp (V 7).n (V 7).cap) := copy_cell HC2.out 13
  go_wp2_with (first
    | (refine wpList_buildG1 rfl (.tmp 40) rfl (V 7).sp (V 7).n (V 7).cap rfl ?_)
    | (refine wpList_store_row rfl 58 (.tmp 4) (.tmp 41) rfl (w.heap.size + 2) (gvC 0 0 (V 7).sp (V 7).n (V 7).cap) rfl rfl 58 _ HX2.out.res size_gv rfl (gvC_one _ _ _ _ _) ?_))
  have HX3 := HX2
  exact bodyPost_ret (v := .agg (gvC 0 0 (V 7).sp (V 7).n (V 7).cap)) (Cd.results_cell_row Try.results20 _ _ (w.heap.size + 2) 58 (gvC 0 0 (V 7).sp (V 7).n (V 7).cap) (0, 0) _ rfl (setRow_heap _ _ _ _ _ _ HX3.out.res) Try.underlying58 rfl size_gv) rfl ⟨(V 7).sp, (V 7).cap, by rw [← HP3.out.1]; rfl, HP3.out.2.1, Cd.below_setRow HX3.out.below (by omega) _, fun b hb hy => by rw [← HP3.out.1]; exact HSc.out b hb hy⟩
set_option maxHeartbeats 4000000 in
theorem given_3 (w0 w : World) (hw0 : Below w0.heap.size w0 w) (v : Wv) (m : Md) (hv0 : WvOK w0 v m) (y : Nat) (hy : y < v.nl) (a b : Int) (z : Bool) : Calls Try.prog 20 #[.agg v.cells, .agg (prC 3 (y : Int) a b z)] w (GivenPostS w0 w v 3 y (m.ly y 3) false) := by
  have HX := Lib.hid (GvI.new w v 3 (y : Int) a b z)
  have HY := Lib.hid hy
  have HV := Lib.hid hv0
  have HW0 := Lib.hid hw0
  clear hv0 hw0 hy
  unfold prC at HX ⊢
  go_enter Try.func20, Try.ntmps20
  go_upto_region 1 with fail
  refine gen_w (Q := fun w => Code.wp _ _ _ _ w) _ (GvI w v 3 (y : Int)) HX.out ?_
  clear HX
  intro W1 hx
  have HX := Lib.hid hx
  obtain ⟨p0, p1⟩ := hx.prt
  clear hx
  obtain ⟨lb, lo, V, hsl, hrg, hpv⟩ := lays_range HV.out.ls HY.out
  have HRg : Hid (W1.rangeAt lb (lo + y * 23) (lyC V).toList) := Lib.hid (fun j u h => ((HW0.out.trans (HX.out.below.mono HW0.out.size)).cell (block_lt_of_cell (hrg j u h))).trans (hrg j u h))
  have HPv := Lib.hid (hpv 3 (by omega) (by omega))
  have c11 : W1.cell? ⟨w.heap.size, 11, none⟩ = some (.slice v.sl v.nl v.cl) := HX.out.cell 11
  have HSc : Hid (∀ b : Bl, b.k = 3 → b.y = y → sliceOf w0 v b = some (.slice (V 3).sp (V 3).n (V 3).cap)) := Lib.hid fun b hb hy => by
    unfold sliceOf
    rw [if_neg (by omega), if_neg (by omega), if_neg (by omega), hsl, hb, hy]
    exact hrg 3 _ rfl
  rw [hsl] at c11
  clear hrg hpv hsl
  go_upto_region 8 with (first
    | (refine wpList_exec rfl (.pointer (some ⟨lb, lo + y * 23, none⟩)) (exec_at23 29 65 Try.underlying29 size_ly (.tmp 25) (.tmp 27) rfl lb lo v.nl v.cl y rfl rfl HY.out) ?_)
    | (refine wpList_load_mid rfl 65 (.tmp 28) rfl lb (lo + y * 23) rfl (lyC V).toList _ HRg.out Try.underlying65 rfl size_ly ?_)
    | (refine wpList_store_newW rfl 65 (.tmp 5) (.tmp 29) rfl (lyC V) zLy 65 rfl rfl rfl size_ly rfl (lyC_one V) ?_))
  have hal : Below W1.heap.size W1 (W1.alloc (.cells (lyC V) 65)) := (Below.refl _ _).alloc (Nat.le_refl _) _
  have HX2 := Lib.hid (HX.out.later hal)
  have HC2 := Lib.hid (heap_alloc_new W1 (.cells (lyC V) 65))
  have HP3 := HPv
  clear hal
  obtain ⟨b4, hb4⟩ : ∃ b4, W1.heap.size = b4 := ⟨_, rfl⟩
  obtain ⟨W2, hW2⟩ : ∃ W2, W1.alloc (.cells (lyC V) 65) = W2 := ⟨_, rfl⟩
  rw [hb4] at HC2 ⊢
  rw [hW2] at HX2 HC2 ⊢
  clear hb4 hW2 p0 p1 c11 HX HRg HPv
  obtain ⟨p0, p1⟩ := HX2.out.prt
  have l0 : W2.cell? ⟨b4, 1, none⟩ = some (.int .i64 (V 3).r) := copy_cell HC2.out 1
  have l1 : W2.cell? ⟨b4, 2, none⟩ = some (.int .i64 (V 3).c) := copy_cell HC2.out 2
  have l2 : W2.cell? ⟨b4, 3, none⟩ = some (.slice (V 3).sp (V 3).n (V 3).cap) := copy_cell HC2.out 3
  go_wp2_with (first
    | (go_at_call 44; refine (given1_any _ (V 3).r (V 3).c (V 3).sp (V 3).n (V 3).cap).mono ?_; rintro e W3 ⟨rfl, hb3⟩; have HX3 := Lib.hid (HX2.out.later hb3); clear hb3)
    | (refine wpList_store_row rfl 58 (.tmp 4) (.tmp 46) rfl (w.heap.size + 2) (gvC (V 3).r (V 3).c (V 3).sp (V 3).n (V 3).cap) rfl rfl 58 _ HX3.out.res size_gv rfl (gvC_one _ _ _ _ _) ?_))
  exact bodyPost_ret (v := .agg (gvC (V 3).r (V 3).c (V 3).sp (V 3).n (V 3).cap)) (Cd.results_cell_row Try.results20 _ _ (w.heap.size + 2) 58 (gvC (V 3).r (V 3).c (V 3).sp (V 3).n (V 3).cap) (0, 0) _ rfl (setRow_heap _ _ _ _ _ _ HX3.out.res) Try.underlying58 rfl size_gv) rfl ⟨(V 3).sp, (V 3).cap, by rw [← (HP3.out.2.2 rfl).1, ← (HP3.out.2.2 rfl).2, ← HP3.out.1]; rfl, HP3.out.2.1, Cd.below_setRow HX3.out.below (by omega) _, fun b hb hy => by rw [← HP3.out.1]; exact HSc.out b hb hy⟩
set_option maxHeartbeats 4000000 in
theorem given_4 (w0 w : World) (hw0 : Below w0.heap.size w0 w) (v : Wv) (m : Md) (hv0 : WvOK w0 v m) (y : Nat) (hy : y < v.nl) (a b : Int) (z : Bool) : Calls Try.prog 20 #[.agg v.cells, .agg (prC 4 (y : Int) a b z)] w (GivenPostS w0 w v 4 y (m.ly y 4) false) := by
  have HX := Lib.hid (GvI.new w v 4 (y : Int) a b z)
  have HY := Lib.hid hy
  have HV := Lib.hid hv0
  have HW0 := Lib.hid hw0
  clear hv0 hw0 hy
  unfold prC at HX ⊢
  go_enter Try.func20, Try.ntmps20
  go_upto_region 1 with fail
  refine gen_w (Q := fun w => Code.wp _ _ _ _ w) _ (GvI w v 4 (y : Int)) HX.out ?_
  clear HX
  intro W1 hx
  have HX := Lib.hid hx
  obtain ⟨p0, p1⟩ := hx.prt
  clear hx
  obtain ⟨lb, lo, V, hsl, hrg, hpv⟩ := lays_range HV.out.ls HY.out
  have HRg : Hid (W1.rangeAt lb (lo + y * 23) (lyC V).toList) := Lib.hid (fun j u h => ((HW0.out.trans (HX.out.below.mono HW0.out.size)).cell (block_lt_of_cell (hrg j u h))).trans (hrg j u h))
  have HPv := Lib.hid (hpv 4 (by omega) (by omega))
  have c11 : W1.cell? ⟨w.heap.size, 11, none⟩ = some (.slice v.sl v.nl v.cl) := HX.out.cell 11
  have HSc : Hid (∀ b : Bl, b.k = 4 → b.y = y → sliceOf w0 v b = some (.slice (V 4).sp (V 4).n (V 4).cap)) := Lib.hid fun b hb hy => by
    unfold sliceOf
    rw [if_neg (by omega), if_neg (by omega), if_neg (by omega), hsl, hb, hy]
    exact hrg 6 _ rfl
  rw [hsl] at c11
  clear hrg hpv hsl
  go_upto_region 8 with (first
    | (refine wpList_exec rfl (.pointer (some ⟨lb, lo + y * 23, none⟩)) (exec_at23 29 65 Try.underlying29 size_ly (.tmp 25) (.tmp 27) rfl lb lo v.nl v.cl y rfl rfl HY.out) ?_)
    | (refine wpList_load_mid rfl 65 (.tmp 28) rfl lb (lo + y * 23) rfl (lyC V).toList _ HRg.out Try.underlying65 rfl size_ly ?_)
    | (refine wpList_store_newW rfl 65 (.tmp 5) (.tmp 29) rfl (lyC V) zLy 65 rfl rfl rfl size_ly rfl (lyC_one V) ?_))
  have hal : Below W1.heap.size W1 (W1.alloc (.cells (lyC V) 65)) := (Below.refl _ _).alloc (Nat.le_refl _) _
  have HX2 := Lib.hid (HX.out.later hal)
  have HC2 := Lib.hid (heap_alloc_new W1 (.cells (lyC V) 65))
  have HP3 := HPv
  clear hal
  obtain ⟨b4, hb4⟩ : ∃ b4, W1.heap.size = b4 := ⟨_, rfl⟩
  obtain ⟨W2, hW2⟩ : ∃ W2, W1.alloc (.cells (lyC V) 65) = W2 := ⟨_, rfl⟩
  rw [hb4] at HC2 ⊢
  rw [hW2] at HX2 HC2 ⊢
  clear hb4 hW2 p0 p1 c11 HX HRg HPv
  obtain ⟨p0, p1⟩ := HX2.out.prt
  have l0 : W2.cell? ⟨b4, 4, none⟩ = some (.int .i64 (V 4).r) := copy_cell HC2.out 4
  have l1 : W2.cell? ⟨b4, 5, none⟩ = some (.int .i64 (V 4).c) := copy_cell HC2.out 5
  have l2 : W2.cell? ⟨b4, 6, none⟩ = some (.slice (V 4).sp (V 4).n (V 4).cap) := copy_cell HC2.out 6
  go_wp2_with (first
    | (go_at_call 44; refine (given1_any _ (V 4).r (V 4).c (V 4).sp (V 4).n (V 4).cap).mono ?_; rintro e W3 ⟨rfl, hb3⟩; have HX3 := Lib.hid (HX2.out.later hb3); clear hb3)
    | (refine wpList_store_row rfl 58 (.tmp 4) (.tmp 51) rfl (w.heap.size + 2) (gvC (V 4).r (V 4).c (V 4).sp (V 4).n (V 4).cap) rfl rfl 58 _ HX3.out.res size_gv rfl (gvC_one _ _ _ _ _) ?_))
  exact bodyPost_ret (v := .agg (gvC (V 4).r (V 4).c (V 4).sp (V 4).n (V 4).cap)) (Cd.results_cell_row Try.results20 _ _ (w.heap.size + 2) 58 (gvC (V 4).r (V 4).c (V 4).sp (V 4).n (V 4).cap) (0, 0) _ rfl (setRow_heap _ _ _ _ _ _ HX3.out.res) Try.underlying58 rfl size_gv) rfl ⟨(V 4).sp, (V 4).cap, by rw [← (HP3.out.2.2 rfl).1, ← (HP3.out.2.2 rfl).2, ← HP3.out.1]; rfl, HP3.out.2.1, Cd.below_setRow HX3.out.below (by omega) _, fun b hb hy => by rw [← HP3.out.1]; exact HSc.out b hb hy⟩
set_option maxHeartbeats 4000000 in
theorem given_5 (w0 w : World) (hw0 : Below w0.heap.size w0 w) (v : Wv) (m : Md) (hv0 : WvOK w0 v m) (y : Nat) (hy : y < v.nl) (a b : Int) (z : Bool) : Calls Try.prog 20 #[.agg v.cells, .agg (prC 5 (y : Int) a b z)] w (GivenPostS w0 w v 5 y (m.ly y 5) false) := by
  have HX := Lib.hid (GvI.new w v 5 (y : Int) a b z)
  have HY := Lib.hid hy
  have HV := Lib.hid hv0
  have HW0 := Lib.hid hw0
  clear hv0 hw0 hy
  unfold prC at HX ⊢
  go_enter Try.func20, Try.ntmps20
  go_upto_region 1 with fail
  refine gen_w (Q := fun w => Code.wp _ _ _ _ w) _ (GvI w v 5 (y : Int)) HX.out ?_
  clear HX
  intro W1 hx
  have HX := Lib.hid hx
  obtain ⟨p0, p1⟩ := hx.prt
  clear hx
  obtain ⟨lb, lo, V, hsl, hrg, hpv⟩ := lays_range HV.out.ls HY.out
  have HRg : Hid (W1.rangeAt lb (lo + y * 23) (lyC V).toList) := Lib.hid (fun j u h => ((HW0.out.trans (HX.out.below.mono HW0.out.size)).cell (block_lt_of_cell (hrg j u h))).trans (hrg j u h))
  have HPv := Lib.hid (hpv 5 (by omega) (by omega))
  have c11 : W1.cell? ⟨w.heap.size, 11, none⟩ = some (.slice v.sl v.nl v.cl) := HX.out.cell 11
  have HSc : Hid (∀ b : Bl, b.k = 5 → b.y = y → sliceOf w0 v b = some (.slice (V 5).sp (V 5).n (V 5).cap)) := Lib.hid fun b hb hy => by
    unfold sliceOf
    rw [if_neg (by omega), if_neg (by omega), if_neg (by omega), hsl, hb, hy]
    exact hrg 9 _ rfl
  rw [hsl] at c11
  clear hrg hpv hsl
  go_upto_region 8 with (first
    | (refine wpList_exec rfl (.pointer (some ⟨lb, lo + y * 23, none⟩)) (exec_at23 29 65 Try.underlying29 size_ly (.tmp 25) (.tmp 27) rfl lb lo v.nl v.cl y rfl rfl HY.out) ?_)
    | (refine wpList_load_mid rfl 65 (.tmp 28) rfl lb (lo + y * 23) rfl (lyC V).toList _ HRg.out Try.underlying65 rfl size_ly ?_)
    | (refine wpList_store_newW rfl 65 (.tmp 5) (.tmp 29) rfl (lyC V) zLy 65 rfl rfl rfl size_ly rfl (lyC_one V) ?_))
  have hal : Below W1.heap.size W1 (W1.alloc (.cells (lyC V) 65)) := (Below.refl _ _).alloc (Nat.le_refl _) _
  have HX2 := Lib.hid (HX.out.later hal)
  have HC2 := Lib.hid (heap_alloc_new W1 (.cells (lyC V) 65))
  have HP3 := HPv
  clear hal
  obtain ⟨b4, hb4⟩ : ∃ b4, W1.heap.size = b4 := ⟨_, rfl⟩
  obtain ⟨W2, hW2⟩ : ∃ W2, W1.alloc (.cells (lyC V) 65) = W2 := ⟨_, rfl⟩
  rw [hb4] at HC2 ⊢
  rw [hW2] at HX2 HC2 ⊢
  clear hb4 hW2 p0 p1 c11 HX HRg HPv
  obtain ⟨p0, p1⟩ := HX2.out.prt
  have l0 : W2.cell? ⟨b4, 7, none⟩ = some (.int .i64 (V 5).r) := copy_cell HC2.out 7
  have l1 : W2.cell? ⟨b4, 8, none⟩ = some (.int .i64 (V 5).c) := copy_cell HC2.out 8
  have l2 : W2.cell? ⟨b4, 9, none⟩ = some (.slice (V 5).sp (V 5).n (V 5).cap) := copy_cell HC2.out 9
  go_wp2_with (first
    | (go_at_call 44; refine (given1_any _ (V 5).r (V 5).c (V 5).sp (V 5).n (V 5).cap).mono ?_; rintro e W3 ⟨rfl, hb3⟩; have HX3 := Lib.hid (HX2.out.later hb3); clear hb3)
    | (refine wpList_store_row rfl 58 (.tmp 4) (.tmp 56) rfl (w.heap.size + 2) (gvC (V 5).r (V 5).c (V 5).sp (V 5).n (V 5).cap) rfl rfl 58 _ HX3.out.res size_gv rfl (gvC_one _ _ _ _ _) ?_))
  exact bodyPost_ret (v := .agg (gvC (V 5).r (V 5).c (V 5).sp (V 5).n (V 5).cap)) (Cd.results_cell_row Try.results20 _ _ (w.heap.size + 2) 58 (gvC (V 5).r (V 5).c (V 5).sp (V 5).n (V 5).cap) (0, 0) _ rfl (setRow_heap _ _ _ _ _ _ HX3.out.res) Try.underlying58 rfl size_gv) rfl ⟨(V 5).sp, (V 5).cap, by rw [← (HP3.out.2.2 rfl).1, ← (HP3.out.2.2 rfl).2, ← HP3.out.1]; rfl, HP3.out.2.1, Cd.below_setRow HX3.out.below (by omega) _, fun b hb hy => by rw [← HP3.out.1]; exact HSc.out b hb hy⟩
set_option maxHeartbeats 4000000 in
theorem given_6 (w0 w : World) (hw0 : Below w0.heap.size w0 w) (v : Wv) (m : Md) (hv0 : WvOK w0 v m) (y : Nat) (hy : y < v.nl) (a b : Int) (z : Bool) : Calls Try.prog 20 #[.agg v.cells, .agg (prC 6 (y : Int) a b z)] w (GivenPostS w0 w v 6 y (m.ly y 6) false) := by
  have HX := Lib.hid (GvI.new w v 6 (y : Int) a b z)
  have HY := Lib.hid hy
  have HV := Lib.hid hv0
  have HW0 := Lib.hid hw0
  clear hv0 hw0 hy
  unfold prC at HX ⊢
  go_enter Try.func20, Try.ntmps20
  go_upto_region 1 with fail
  refine gen_w (Q := fun w => Code.wp _ _ _ _ w) _ (GvI w v 6 (y : Int)) HX.out ?_
  clear HX
  intro W1 hx
  have HX := Lib.hid hx
  obtain ⟨p0, p1⟩ := hx.prt
  clear hx
  obtain ⟨lb, lo, V, hsl, hrg, hpv⟩ := lays_range HV.out.ls HY.out
  have HRg : Hid (W1.rangeAt lb (lo + y * 23) (lyC V).toList) := Lib.hid (fun j u h => ((HW0.out.trans (HX.out.below.mono HW0.out.size)).cell (block_lt_of_cell (hrg j u h))).trans (hrg j u h))
  have HPv := Lib.hid (hpv 6 (by omega) (by omega))
  have c11 : W1.cell? ⟨w.heap.size, 11, none⟩ = some (.slice v.sl v.nl v.cl) := HX.out.cell 11
  have HSc : Hid (∀ b : Bl, b.k = 6 → b.y = y → sliceOf w0 v b = some (.slice (V 6).sp (V 6).n (V 6).cap)) := Lib.hid fun b hb hy => by
    unfold sliceOf
    rw [if_neg (by omega), if_neg (by omega), if_neg (by omega), hsl, hb, hy]
    exact hrg 12 _ rfl
  rw [hsl] at c11
  clear hrg hpv hsl
  go_upto_region 8 with (first
    | (refine wpList_exec rfl (.pointer (some ⟨lb, lo + y * 23, none⟩)) (exec_at23 29 65 Try.underlying29 size_ly (.tmp 25) (.tmp 27) rfl lb lo v.nl v.cl y rfl rfl HY.out) ?_)
    | (refine wpList_load_mid rfl 65 (.tmp 28) rfl lb (lo + y * 23) rfl (lyC V).toList _ HRg.out Try.underlying65 rfl size_ly ?_)
    | (refine wpList_store_newW rfl 65 (.tmp 5) (.tmp 29) rfl (lyC V) zLy 65 rfl rfl rfl size_ly rfl (lyC_one V) ?_))
  have hal : Below W1.heap.size W1 (W1.alloc (.cells (lyC V) 65)) := (Below.refl _ _).alloc (Nat.le_refl _) _
  have HX2 := Lib.hid (HX.out.later hal)
  have HC2 := Lib.hid (heap_alloc_new W1 (.cells (lyC V) 65))
  have HP3 := HPv
  clear hal
  obtain ⟨b4, hb4⟩ : ∃ b4, W1.heap.size = b4 := ⟨_, rfl⟩
  obtain ⟨W2, hW2⟩ : ∃ W2, W1.alloc (.cells (lyC V) 65) = W2 := ⟨_, rfl⟩
  rw [hb4] at HC2 ⊢
  rw [hW2] at HX2 HC2 ⊢
  clear hb4 hW2 p0 p1 c11 HX HRg HPv
  obtain ⟨p0, p1⟩ := HX2.out.prt
  have l0 : W2.cell? ⟨b4, 10, none⟩ = some (.int .i64 (V 6).r) := copy_cell HC2.out 10
  have l1 : W2.cell? ⟨b4, 11, none⟩ = some (.int .i64 (V 6).c) := copy_cell HC2.out 11
  have l2 : W2.cell? ⟨b4, 12, none⟩ = some (.slice (V 6).sp (V 6).n (V 6).cap) := copy_cell HC2.out 12
  go_wp2_with (first
    | (go_at_call 44; refine (given1_any _ (V 6).r (V 6).c (V 6).sp (V 6).n (V 6).cap).mono ?_; rintro e W3 ⟨rfl, hb3⟩; have HX3 := Lib.hid (HX2.out.later hb3); clear hb3)
    | (refine wpList_store_row rfl 58 (.tmp 4) (.tmp 61) rfl (w.heap.size + 2) (gvC (V 6).r (V 6).c (V 6).sp (V 6).n (V 6).cap) rfl rfl 58 _ HX3.out.res size_gv rfl (gvC_one _ _ _ _ _) ?_))
  exact bodyPost_ret (v := .agg (gvC (V 6).r (V 6).c (V 6).sp (V 6).n (V 6).cap)) (Cd.results_cell_row Try.results20 _ _ (w.heap.size + 2) 58 (gvC (V 6).r (V 6).c (V 6).sp (V 6).n (V 6).cap) (0, 0) _ rfl (setRow_heap _ _ _ _ _ _ HX3.out.res) Try.underlying58 rfl size_gv) rfl ⟨(V 6).sp, (V 6).cap, by rw [← (HP3.out.2.2 rfl).1, ← (HP3.out.2.2 rfl).2, ← HP3.out.1]; rfl, HP3.out.2.1, Cd.below_setRow HX3.out.below (by omega) _, fun b hb hy => by rw [← HP3.out.1]; exact HSc.out b hb hy⟩
set_option maxHeartbeats 4000000 in
theorem given_8 (w0 w : World) (hw0 : Below w0.heap.size w0 w) (v : Wv) (m : Md) (hv0 : WvOK w0 v m) (y : Nat) (hy : y < v.nl) (a b : Int) (z : Bool) : Calls Try.prog 20 #[.agg v.cells, .agg (prC 8 (y : Int) a b z)] w (GivenPostS w0 w v 8 y (m.ly y 8) false) := by
  have HX := Lib.hid (GvI.new w v 8 (y : Int) a b z)
  have HY := Lib.hid hy
  have HV := Lib.hid hv0
  have HW0 := Lib.hid hw0
  clear hv0 hw0 hy
  unfold prC at HX ⊢
  go_enter Try.func20, Try.ntmps20
  go_upto_region 1 with fail
  refine gen_w (Q := fun w => Code.wp _ _ _ _ w) _ (GvI w v 8 (y : Int)) HX.out ?_
  clear HX
  intro W1 hx
  have HX := Lib.hid hx
  obtain ⟨p0, p1⟩ := hx.prt
  clear hx
  obtain ⟨lb, lo, V, hsl, hrg, hpv⟩ := lays_range HV.out.ls HY.out
  have HRg : Hid (W1.rangeAt lb (lo + y * 23) (lyC V).toList) := Lib.hid (fun j u h => ((HW0.out.trans (HX.out.below.mono HW0.out.size)).cell (block_lt_of_cell (hrg j u h))).trans (hrg j u h))
  have HPv := Lib.hid (hpv 8 (by omega) (by omega))
  have c11 : W1.cell? ⟨w.heap.size, 11, none⟩ = some (.slice v.sl v.nl v.cl) := HX.out.cell 11
  have HSc : Hid (∀ b : Bl, b.k = 8 → b.y = y → sliceOf w0 v b = some (.slice (V 8).sp (V 8).n (V 8).cap)) := Lib.hid fun b hb hy => by
    unfold sliceOf
    rw [if_neg (by omega), if_neg (by omega), if_neg (by omega), hsl, hb, hy]
    exact hrg 16 _ rfl
  rw [hsl] at c11
  clear hrg hpv hsl
  go_upto_region 8 with (first
    | (refine wpList_exec rfl (.pointer (some ⟨lb, lo + y * 23, none⟩)) (exec_at23 29 65 Try.underlying29 size_ly (.tmp 25) (.tmp 27) rfl lb lo v.nl v.cl y rfl rfl HY.out) ?_)
    | (refine wpList_load_mid rfl 65 (.tmp 28) rfl lb (lo + y * 23) rfl (lyC V).toList _ HRg.out Try.underlying65 rfl size_ly ?_)
    | (refine wpList_store_newW rfl 65 (.tmp 5) (.tmp 29) rfl (lyC V) zLy 65 rfl rfl rfl size_ly rfl (lyC_one V) ?_))
  have hal : Below W1.heap.size W1 (W1.alloc (.cells (lyC V) 65)) := (Below.refl _ _).alloc (Nat.le_refl _) _
  have HX2 := Lib.hid (HX.out.later hal)
  have HC2 := Lib.hid (heap_alloc_new W1 (.cells (lyC V) 65))
  have HP3 := HPv
  clear hal
  obtain ⟨b4, hb4⟩ : ∃ b4, W1.heap.size = b4 := ⟨_, rfl⟩
  obtain ⟨W2, hW2⟩ : ∃ W2, W1.alloc (.cells (lyC V) 65) = W2 := ⟨_, rfl⟩
  rw [hb4] at HC2 ⊢
  rw [hW2] at HX2 HC2 ⊢
  clear hb4 hW2 p0 p1 c11 HX HRg HPv
  obtain ⟨p0, p1⟩ := HX2.out.prt
  have l0 : W2.cell? ⟨b4, 14, none⟩ = some (.int .i64 (V 8).r) := copy_cell HC2.out 14
  have l1 : W2.cell? ⟨b4, 15, none⟩ = some (.int .i64 (V 8).c) := copy_cell HC2.out 15
  have l2 : W2.cell? ⟨b4, 16, none⟩ = some (.slice (V 8).sp (V 8).n (V 8).cap) := copy_cell HC2.out 16
  go_wp2_with (first
    | (go_at_call 44; refine (given1_any _ (V 8).r (V 8).c (V 8).sp (V 8).n (V 8).cap).mono ?_; rintro e W3 ⟨rfl, hb3⟩; have HX3 := Lib.hid (HX2.out.later hb3); clear hb3)
    | (refine wpList_store_row rfl 58 (.tmp 4) (.tmp 66) rfl (w.heap.size + 2) (gvC (V 8).r (V 8).c (V 8).sp (V 8).n (V 8).cap) rfl rfl 58 _ HX3.out.res size_gv rfl (gvC_one _ _ _ _ _) ?_))
  exact bodyPost_ret (v := .agg (gvC (V 8).r (V 8).c (V 8).sp (V 8).n (V 8).cap)) (Cd.results_cell_row Try.results20 _ _ (w.heap.size + 2) 58 (gvC (V 8).r (V 8).c (V 8).sp (V 8).n (V 8).cap) (0, 0) _ rfl (setRow_heap _ _ _ _ _ _ HX3.out.res) Try.underlying58 rfl size_gv) rfl ⟨(V 8).sp, (V 8).cap, by rw [← (HP3.out.2.2 rfl).1, ← (HP3.out.2.2 rfl).2, ← HP3.out.1]; rfl, HP3.out.2.1, Cd.below_setRow HX3.out.below (by omega) _, fun b hb hy => by rw [← HP3.out.1]; exact HSc.out b hb hy⟩
set_option maxHeartbeats 4000000 in
theorem given_9 (w0 w : World) (hw0 : Below w0.heap.size w0 w) (v : Wv) (m : Md) (hv0 : WvOK w0 v m) (y : Nat) (hy : y < v.nl) (a b : Int) (z : Bool) : Calls Try.prog 20 #[.agg v.cells, .agg (prC 9 (y : Int) a b z)] w (GivenPostS w0 w v 9 y (m.ly y 9) false) := by
  have HX := Lib.hid (GvI.new w v 9 (y : Int) a b z)
  have HY := Lib.hid hy
  have HV := Lib.hid hv0
  have HW0 := Lib.hid hw0
  clear hv0 hw0 hy
  unfold prC at HX ⊢
  go_enter Try.func20, Try.ntmps20
  go_upto_region 1 with fail
  refine gen_w (Q := fun w => Code.wp _ _ _ _ w) _ (GvI w v 9 (y : Int)) HX.out ?_
  clear HX
  intro W1 hx
  have HX := Lib.hid hx
  obtain ⟨p0, p1⟩ := hx.prt
  clear hx
  obtain ⟨lb, lo, V, hsl, hrg, hpv⟩ := lays_range HV.out.ls HY.out
  have HRg : Hid (W1.rangeAt lb (lo + y * 23) (lyC V).toList) := Lib.hid (fun j u h => ((HW0.out.trans (HX.out.below.mono HW0.out.size)).cell (block_lt_of_cell (hrg j u h))).trans (hrg j u h))
  have HPv := Lib.hid (hpv 9 (by omega) (by omega))
  have c11 : W1.cell? ⟨w.heap.size, 11, none⟩ = some (.slice v.sl v.nl v.cl) := HX.out.cell 11
  have HSc : Hid (∀ b : Bl, b.k = 9 → b.y = y → sliceOf w0 v b = some (.slice (V 9).sp (V 9).n (V 9).cap)) := Lib.hid fun b hb hy => by
    unfold sliceOf
    rw [if_neg (by omega), if_neg (by omega), if_neg (by omega), hsl, hb, hy]
    exact hrg 19 _ rfl
  rw [hsl] at c11
  clear hrg hpv hsl
  go_upto_region 8 with (first
    | (refine wpList_exec rfl (.pointer (some ⟨lb, lo + y * 23, none⟩)) (exec_at23 29 65 Try.underlying29 size_ly (.tmp 25) (.tmp 27) rfl lb lo v.nl v.cl y rfl rfl HY.out) ?_)
    | (refine wpList_load_mid rfl 65 (.tmp 28) rfl lb (lo + y * 23) rfl (lyC V).toList _ HRg.out Try.underlying65 rfl size_ly ?_)
    | (refine wpList_store_newW rfl 65 (.tmp 5) (.tmp 29) rfl (lyC V) zLy 65 rfl rfl rfl size_ly rfl (lyC_one V) ?_))
  have hal : Below W1.heap.size W1 (W1.alloc (.cells (lyC V) 65)) := (Below.refl _ _).alloc (Nat.le_refl _) _
  have HX2 := Lib.hid (HX.out.later hal)
  have HC2 := Lib.hid (heap_alloc_new W1 (.cells (lyC V) 65))
  have HP3 := HPv
  clear hal
  obtain ⟨b4, hb4⟩ : ∃ b4, W1.heap.size = b4 := ⟨_, rfl⟩
  obtain ⟨W2, hW2⟩ : ∃ W2, W1.alloc (.cells (lyC V) 65) = W2 := ⟨_, rfl⟩
  rw [hb4] at HC2 ⊢
  rw [hW2] at HX2 HC2 ⊢
  clear hb4 hW2 p0 p1 c11 HX HRg HPv
  obtain ⟨p0, p1⟩ := HX2.out.prt
  have l0 : W2.cell? ⟨b4, 17, none⟩ = some (.int .i64 (V 9).r) := copy_cell HC2.out 17
  have l1 : W2.cell? ⟨b4, 18, none⟩ = some (.int .i64 (V 9).c) := copy_cell HC2.out 18
  have l2 : W2.cell? ⟨b4, 19, none⟩ = some (.slice (V 9).sp (V 9).n (V 9).cap) := copy_cell HC2.out 19
  go_wp2_with (first
    | (go_at_call 44; refine (given1_any _ (V 9).r (V 9).c (V 9).sp (V 9).n (V 9).cap).mono ?_; rintro e W3 ⟨rfl, hb3⟩; have HX3 := Lib.hid (HX2.out.later hb3); clear hb3)
    | (refine wpList_store_row rfl 58 (.tmp 4) (.tmp 71) rfl (w.heap.size + 2) (gvC (V 9).r (V 9).c (V 9).sp (V 9).n (V 9).cap) rfl rfl 58 _ HX3.out.res size_gv rfl (gvC_one _ _ _ _ _) ?_))
  exact bodyPost_ret (v := .agg (gvC (V 9).r (V 9).c (V 9).sp (V 9).n (V 9).cap)) (Cd.results_cell_row Try.results20 _ _ (w.heap.size + 2) 58 (gvC (V 9).r (V 9).c (V 9).sp (V 9).n (V 9).cap) (0, 0) _ rfl (setRow_heap _ _ _ _ _ _ HX3.out.res) Try.underlying58 rfl size_gv) rfl ⟨(V 9).sp, (V 9).cap, by rw [← (HP3.out.2.2 rfl).1, ← (HP3.out.2.2 rfl).2, ← HP3.out.1]; rfl, HP3.out.2.1, Cd.below_setRow HX3.out.below (by omega) _, fun b hb hy => by rw [← HP3.out.1]; exact HSc.out b hb hy⟩
set_option maxHeartbeats 4000000 in
theorem given_10 (w0 w : World) (hw0 : Below w0.heap.size w0 w) (v : Wv) (m : Md) (hv0 : WvOK w0 v m) (y : Nat) (hy : y < v.nl) (a b : Int) (z : Bool) : Calls Try.prog 20 #[.agg v.cells, .agg (prC 10 (y : Int) a b z)] w (GivenPostS w0 w v 10 y (m.ly y 10) false) := by
  have HX := Lib.hid (GvI.new w v 10 (y : Int) a b z)
  have HY := Lib.hid hy
  have HV := Lib.hid hv0
  have HW0 := Lib.hid hw0
  clear hv0 hw0 hy
  unfold prC at HX ⊢
  go_enter Try.func20, Try.ntmps20
  go_upto_region 1 with fail
  refine gen_w (Q := fun w => Code.wp _ _ _ _ w) _ (GvI w v 10 (y : Int)) HX.out ?_
  clear HX
  intro W1 hx
  have HX := Lib.hid hx
  obtain ⟨p0, p1⟩ := hx.prt
  clear hx
  obtain ⟨lb, lo, V, hsl, hrg, hpv⟩ := lays_range HV.out.ls HY.out
  have HRg : Hid (W1.rangeAt lb (lo + y * 23) (lyC V).toList) := Lib.hid (fun j u h => ((HW0.out.trans (HX.out.below.mono HW0.out.size)).cell (block_lt_of_cell (hrg j u h))).trans (hrg j u h))
  have HPv := Lib.hid (hpv 10 (by omega) (by omega))
  have c11 : W1.cell? ⟨w.heap.size, 11, none⟩ = some (.slice v.sl v.nl v.cl) := HX.out.cell 11
  have HSc : Hid (∀ b : Bl, b.k = 10 → b.y = y → sliceOf w0 v b = some (.slice (V 10).sp (V 10).n (V 10).cap)) := Lib.hid fun b hb hy => by
    unfold sliceOf
    rw [if_neg (by omega), if_neg (by omega), if_neg (by omega), hsl, hb, hy]
    exact hrg 22 _ rfl
  rw [hsl] at c11
  clear hrg hpv hsl
  go_upto_region 8 with (first
    | (refine wpList_exec rfl (.pointer (some ⟨lb, lo + y * 23, none⟩)) (exec_at23 29 65 Try.underlying29 size_ly (.tmp 25) (.tmp 27) rfl lb lo v.nl v.cl y rfl rfl HY.out) ?_)
    | (refine wpList_load_mid rfl 65 (.tmp 28) rfl lb (lo + y * 23) rfl (lyC V).toList _ HRg.out Try.underlying65 rfl size_ly ?_)
    | (refine wpList_store_newW rfl 65 (.tmp 5) (.tmp 29) rfl (lyC V) zLy 65 rfl rfl rfl size_ly rfl (lyC_one V) ?_))
  have hal : Below W1.heap.size W1 (W1.alloc (.cells (lyC V) 65)) := (Below.refl _ _).alloc (Nat.le_refl _) _
  have HX2 := Lib.hid (HX.out.later hal)
  have HC2 := Lib.hid (heap_alloc_new W1 (.cells (lyC V) 65))
  have HP3 := HPv
  clear hal
  obtain ⟨b4, hb4⟩ : ∃ b4, W1.heap.size = b4 := ⟨_, rfl⟩
  obtain ⟨W2, hW2⟩ : ∃ W2, W1.alloc (.cells (lyC V) 65) = W2 := ⟨_, rfl⟩
  rw [hb4] at HC2 ⊢
  rw [hW2] at HX2 HC2 ⊢
  clear hb4 hW2 p0 p1 c11 HX HRg HPv
  obtain ⟨p0, p1⟩ := HX2.out.prt
  have l0 : W2.cell? ⟨b4, 20, none⟩ = some (.int .i64 (V 10).r) := copy_cell HC2.out 20
  have l1 : W2.cell? ⟨b4, 21, none⟩ = some (.int .i64 (V 10).c) := copy_cell HC2.out 21
  have l2 : W2.cell? ⟨b4, 22, none⟩ = some (.slice (V 10).sp (V 10).n (V 10).cap) := copy_cell HC2.out 22
  go_wp2_with (first
    | (go_at_call 44; refine (given1_any _ (V 10).r (V 10).c (V 10).sp (V 10).n (V 10).cap).mono ?_; rintro e W3 ⟨rfl, hb3⟩; have HX3 := Lib.hid (HX2.out.later hb3); clear hb3)
    | (refine wpList_store_row rfl 58 (.tmp 4) (.tmp 74) rfl (w.heap.size + 2) (gvC (V 10).r (V 10).c (V 10).sp (V 10).n (V 10).cap) rfl rfl 58 _ HX3.out.res size_gv rfl (gvC_one _ _ _ _ _) ?_))
  exact bodyPost_ret (v := .agg (gvC (V 10).r (V 10).c (V 10).sp (V 10).n (V 10).cap)) (Cd.results_cell_row Try.results20 _ _ (w.heap.size + 2) 58 (gvC (V 10).r (V 10).c (V 10).sp (V 10).n (V 10).cap) (0, 0) _ rfl (setRow_heap _ _ _ _ _ _ HX3.out.res) Try.underlying58 rfl size_gv) rfl ⟨(V 10).sp, (V 10).cap, by rw [← (HP3.out.2.2 rfl).1, ← (HP3.out.2.2 rfl).2, ← HP3.out.1]; rfl, HP3.out.2.1, Cd.below_setRow HX3.out.below (by omega) _, fun b hb hy => by rw [← HP3.out.1]; exact HSc.out b hb hy⟩
end Go.Proofs.Ytkfkjapkcjidnaa.Wg
