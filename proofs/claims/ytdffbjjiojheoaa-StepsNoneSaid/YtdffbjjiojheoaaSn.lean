/- Steps: the i-th step. -/
import Derived.Test.YtdffbjjiojheoaaSl
namespace Go.Proofs.Ytdffbjjiojheoaa.St
set_option maxRecDepth 100000
open Go.ChangeShapes Go.WideShapes Go.ChangeAt Go.RowKit Go.Shelf Go.Proofs.Ytdffbjjiojheoaa.Tn Go.Proofs.Ytdffbjjiojheoaa.Wg
attribute [local go_sem] Oper.semAt_some
/-- a step's cells -/
def stpC (k a y h r : Int) : Array Value := #[.int .i64 k, .int .i64 a, .int .i64 y, .int .i64 h, .int .i64 r]
/-- all steps: stretches and rows -/
def FL (L : List Str) : List (Str × Nat) := L.flatMap fun x => (List.range x.n).map fun r => (x, r)
theorem FL_append (A B : List Str) : FL (A ++ B) = FL A ++ FL B := by simp [FL]
theorem FL_len (L : List Str) : (FL L).length = sumR L := by
  induction L with
  | nil => rfl
  | cons x L ih => simp only [FL, List.flatMap_cons, List.length_append, List.length_map, List.length_range, sumR, List.map_cons, List.sum_cons] at ih ⊢; rw [ih]
theorem FL_at {pre L : List Str} {x : Str} (h : (pre ++ [x]) <+: L) {j : Nat} (hj : j < x.n) : (FL L)[sumR pre + j]? = some (x, j) := by
  obtain ⟨t, rfl⟩ := h
  rw [FL_append, FL_append, List.append_assoc, List.getElem?_append_right (by rw [FL_len]; omega), FL_len, show sumR pre + j - sumR pre = j by omega, List.getElem?_append_left (by rw [FL_len]; simp [sumR]; exact hj)]
  simp [FL, hj]
theorem size_stp : (Try.prog.info? 56).map (·.size) = some 5 := by kernel_rfl
theorem stp_one (k a y h r : Int) : (stpC k a y h r).all (·.oneCell') = true := by kernel_rfl
theorem step_any (w : World) (x : Str) (r : Int) : Calls Try.prog 36 #[x.val, .int .i64 r] w fun e w' => e = .returned (.agg (stpC x.k x.a x.y x.h r)) ∧ Below w.heap.size w w' := by
  obtain ⟨k, a, y, h, n⟩ := x
  unfold Str.val
  dsimp only
  obtain ⟨O1, hO1⟩ : ∃ O, (Obj.cells #[.int .i64 (k : Int), .int .i64 (a : Int), .int .i64 (y : Int), .int .i64 (h : Int), .int .i64 0, .int .i64 (n : Int)] 95 (0, 0)) = O := ⟨_, rfl⟩
  obtain ⟨O2, hO2⟩ : ∃ O, (Obj.cells #[.int .i64 0, .int .i64 0, .int .i64 0, .int .i64 0, .int .i64 0] 56 (0, 0)) = O := ⟨_, rfl⟩
  have hb1 : Below w.heap.size w ((w.alloc O1).alloc O2) := ((Below.refl _ _).alloc (Nat.le_refl _) _).alloc (by simp) _
  have hr1 : ((w.alloc O1).alloc O2).heap[w.heap.size]? = some (.cells #[.int .i64 (k : Int), .int .i64 (a : Int), .int .i64 (y : Int), .int .i64 (h : Int), .int .i64 0, .int .i64 (n : Int)] 95 (0, 0)) := by rw [hO1, heap_alloc_old _ _ (by simp)]; exact heap_alloc_new _ _
  have hr2 : ((w.alloc O1).alloc O2).heap[w.heap.size + 1]? = some (.cells #[.int .i64 0, .int .i64 0, .int .i64 0, .int .i64 0, .int .i64 0] 56 (0, 0)) := by
    have e : (w.alloc O1).heap.size = w.heap.size + 1 := by simp
    rw [hO2, ← e]; exact heap_alloc_new _ _
  have hs1 : ((w.alloc O1).alloc O2).heap.size = w.heap.size + 2 := by simp
  have H0 : Hid (Below w.heap.size w ((w.alloc O1).alloc O2) ∧ ((w.alloc O1).alloc O2).heap[w.heap.size]? = some (.cells #[.int .i64 (k : Int), .int .i64 (a : Int), .int .i64 (y : Int), .int .i64 (h : Int), .int .i64 0, .int .i64 (n : Int)] 95 (0, 0)) ∧ ((w.alloc O1).alloc O2).heap[w.heap.size + 1]? = some (.cells #[.int .i64 0, .int .i64 0, .int .i64 0, .int .i64 0, .int .i64 0] 56 (0, 0)) ∧ ((w.alloc O1).alloc O2).heap.size = w.heap.size + 2) := Lib.hid ⟨hb1, hr1, hr2, hs1⟩
  rw [← hO1, ← hO2] at H0
  clear hb1 hr1 hr2 hs1 hO1 hO2 O1 O2
  go_enter Try.func36, Try.ntmps36
  go_upto_region 1 with fail
  refine Mk.genM (Q := fun w => Code.wp _ _ _ _ w) _ (fun W => Below w.heap.size w W ∧ W.heap[w.heap.size]? = some (.cells #[.int .i64 (k : Int), .int .i64 (a : Int), .int .i64 (y : Int), .int .i64 (h : Int), .int .i64 0, .int .i64 (n : Int)] 95 (0, 0)) ∧ W.heap[w.heap.size + 1]? = some (.cells #[.int .i64 0, .int .i64 0, .int .i64 0, .int .i64 0, .int .i64 0] 56 (0, 0)) ∧ W.heap.size = w.heap.size + 2) H0.out ?_
  clear H0
  rintro w1 ⟨k1, k2, k3, k4⟩
  have HB := Lib.hid k1
  have HS := Lib.hid k2
  have HR := Lib.hid k3
  have HZ := Lib.hid k4
  clear k1 k2 k3 k4
  have hrg : w1.rangeAt w.heap.size 0 [.int .i64 (k : Int), .int .i64 (a : Int), .int .i64 (y : Int), .int .i64 (h : Int), .int .i64 0] := by
    intro i u hu
    rw [Nat.zero_add, cell_of_row _ _ _ _ _ _ HS.out]
    rcases i with _ | _ | _ | _ | _ | i
    all_goals first | exact hu | (simp at hu)
  have HG := Lib.hid hrg
  clear hrg
  go_upto_region 3 with (refine wpList_load_mid rfl 56 (.tmp 6) rfl w.heap.size 0 rfl [.int .i64 (k : Int), .int .i64 (a : Int), .int .i64 (y : Int), .int .i64 (h : Int), .int .i64 0] _ HG.out Try.underlying56 rfl size_stp ?_)
  have hal : Below w1.heap.size w1 (w1.alloc (.cells (stpC k a y h r) 56)) := (Below.refl _ _).alloc (Nat.le_refl _) _
  have HR2 := Lib.hid ((hal.block _ (Array.getElem?_eq_some_iff.1 HR.out).1).trans HR.out)
  have HB2 := Lib.hid (HB.out.trans (hal.mono HB.out.size))
  clear hal
  unfold stpC at HR2 HB2
  refine wp_region_lit ?_
  refine wpList_load_row rfl 56 (.tmp 5) rfl w1.heap.size rfl 56 _ (0, 0) _ (heap_alloc_new _ _) Try.underlying56 rfl size_stp ?_
  simp only [Act.put, List.setIfInBounds_toArray, List.set_cons_succ, List.set_cons_zero]
  refine wpList_store_row rfl 56 (.tmp 4) (.tmp 10) rfl (w.heap.size + 1) #[.int .i64 (k : Int), .int .i64 (a : Int), .int .i64 (y : Int), .int .i64 (h : Int), .int .i64 r] rfl rfl 56 _ HR2.out size_stp rfl (stp_one _ _ _ _ _) ?_
  go_wp2
  refine bodyPost_ret (v := .agg (stpC k a y h r)) (Mk.results_cellM Try.results36 _ _ (w.heap.size + 1) 56 _ (0, 0) _ rfl (setRow_heap _ _ _ _ _ _ HR2.out) Try.underlying56 rfl size_stp) rfl ⟨rfl, ?_⟩
  exact Mk.below_setRowM HB2.out (Nat.le_succ _) _
/-- the boxes of Step: the plan, how far to go, what is answered -/
structure SpI (w : World) (q : Pl) (z : Int) (st : Array Value) (e : Int) (W : World) : Prop where
  below : Below w.heap.size w W
  pl : W.heap[w.heap.size]? = some (.cells q.cells 40 (0, 0))
  ib : W.heap[w.heap.size + 1]? = some (.cells #[.int .i64 z] 3 (0, 0))
  rb : W.heap[w.heap.size + 1 + 1]? = some (.cells st 56 (0, 0))
  eb : W.heap[w.heap.size + 1 + 1 + 1]? = some (.cells #[.int .i64 e] 52 (0, 0))
section
variable {w W W' : World} {q : Pl} {z : Int} {st : Array Value} {e : Int}
theorem SpI.later (h : SpI w q z st e W) (hb : Below W.heap.size W W') : SpI w q z st e W' :=
  ⟨h.below.trans (hb.mono h.below.size), (hb.block _ (Array.getElem?_eq_some_iff.1 h.pl).1).trans h.pl, (hb.block _ (Array.getElem?_eq_some_iff.1 h.ib).1).trans h.ib, (hb.block _ (Array.getElem?_eq_some_iff.1 h.rb).1).trans h.rb, (hb.block _ (Array.getElem?_eq_some_iff.1 h.eb).1).trans h.eb⟩
theorem SpI.turn (h : SpI w q z st e W) (z' : Int) : SpI w q z' st e (W.setCell ⟨w.heap.size + 1, 0, none⟩ (.int .i64 z')) :=
  ⟨h.below.trans (Below.ofGrown (Mk.grownM_set _ _ _ _) h.below.size (fun k hk => by cases hk; omega)), (heap_setCell_other _ _ _ _ (by simp; try omega)).trans h.pl, by rw [heap_setCell_same _ _ _ _ _ _ h.ib]; rfl, (heap_setCell_other _ _ _ _ (by simp; try omega)).trans h.rb, (heap_setCell_other _ _ _ _ (by simp; try omega)).trans h.eb⟩
theorem SpI.put (h : SpI w q z st e W) (st' : Array Value) : SpI w q z st' e (W.setRow (w.heap.size + 1 + 1) st') :=
  ⟨Mk.below_setRowM h.below (by omega) _, (setRow_other _ _ _ _ (by omega)).trans h.pl, (setRow_other _ _ _ _ (by omega)).trans h.ib, setRow_heap _ _ _ _ _ _ h.rb, (setRow_other _ _ _ _ (by omega)).trans h.eb⟩
theorem SpI.err (h : SpI w q z st e W) (e' : Int) : SpI w q z st e' (W.setCell ⟨w.heap.size + 1 + 1 + 1, 0, none⟩ (.int .i64 e')) :=
  ⟨h.below.trans (Below.ofGrown (Mk.grownM_set _ _ _ _) h.below.size (fun k hk => by cases hk; omega)), (heap_setCell_other _ _ _ _ (by simp; try omega)).trans h.pl, (heap_setCell_other _ _ _ _ (by simp; try omega)).trans h.ib, (heap_setCell_other _ _ _ _ (by simp; try omega)).trans h.rb, by rw [heap_setCell_same _ _ _ _ _ _ h.eb]; rfl⟩
theorem SpI.cells (h : SpI w q z st e W) : W.cell? ⟨w.heap.size + 1, 0, none⟩ = some (.int .i64 z) ∧ W.frozen? ⟨w.heap.size + 1, 0, none⟩ = false ∧ W.cell? ⟨w.heap.size + 1 + 1 + 1, 0, none⟩ = some (.int .i64 e) ∧ W.frozen? ⟨w.heap.size + 1 + 1 + 1, 0, none⟩ = false :=
  ⟨by rw [cell_of_row _ _ _ _ _ _ h.ib]; rfl, frozen_of_row _ _ _ _ _ h.ib, by rw [cell_of_row _ _ _ _ _ _ h.eb]; rfl, frozen_of_row _ _ _ _ _ h.eb⟩
theorem SpI.made (w : World) (q : Pl) (z : Int) : SpI w q z (stpC 0 0 0 0 0) 0 ((((w.alloc (.cells q.cells 40)).alloc (.cells #[.int .i64 z] 3)).alloc (.cells (stpC 0 0 0 0 0) 56)).alloc (.cells #[.int .i64 0] 52)) := by
  obtain ⟨O1, hO1⟩ : ∃ O, (Obj.cells q.cells 40 (0, 0)) = O := ⟨_, rfl⟩
  obtain ⟨O2, hO2⟩ : ∃ O, (Obj.cells #[.int .i64 z] 3 (0, 0)) = O := ⟨_, rfl⟩
  obtain ⟨O3, hO3⟩ : ∃ O, (Obj.cells (stpC 0 0 0 0 0) 56 (0, 0)) = O := ⟨_, rfl⟩
  obtain ⟨O4, hO4⟩ : ∃ O, (Obj.cells #[.int .i64 0] 52 (0, 0)) = O := ⟨_, rfl⟩
  rw [hO1, hO2, hO3, hO4]
  have e1 : (w.alloc O1).heap.size = w.heap.size + 1 := by simp
  have e2 : ((w.alloc O1).alloc O2).heap.size = w.heap.size + 1 + 1 := by simp
  have e3 : (((w.alloc O1).alloc O2).alloc O3).heap.size = w.heap.size + 1 + 1 + 1 := by simp
  refine ⟨((((Below.refl _ _).alloc (Nat.le_refl _) _).alloc (by simp) _).alloc (by simp; omega) _).alloc (by simp; omega) _, ?_, ?_, ?_, ?_⟩
  · rw [hO1, heap_alloc_old _ _ (by omega), heap_alloc_old _ _ (by omega), heap_alloc_old _ _ (by omega)]; exact heap_alloc_new _ _
  · rw [hO2, heap_alloc_old _ _ (by omega), heap_alloc_old _ _ (by omega), ← e1]; exact heap_alloc_new _ _
  · rw [hO3, heap_alloc_old _ _ (by omega), ← e2]; exact heap_alloc_new _ _
  · rw [hO4, ← e3]; exact heap_alloc_new _ _
end
theorem spI_own {α : Type} {B : Nat} {w : World} {q : Pl} {f : α → Int} {st : Array Value} {e : Int} (hB : w.heap.size + 4 ≤ B) : OwnC B (fun s W => SpI w q (f s) st e W) := fun s X Y row hs hg hr => by
  have hk : ∀ (k : Nat) (o : Obj), k < B → X.heap[k]? = some o → Y.heap[k]? = some o := fun k o hkB h => (hg.block k (Array.getElem?_eq_some_iff.1 h).1 (fun e => by have := (hr k e.symm).1; omega)).trans h
  exact ⟨hs.below.trans (Below.ofGrown hg hs.below.size (fun r e => by have := (hr r e).1; omega)), hk _ _ (by omega) hs.pl, hk _ _ (by omega) hs.ib, hk _ _ (by omega) hs.rb, hk _ _ (by omega) hs.eb⟩
theorem results_rc {P : Program} {fn : Func} {p q : Tmp} {ty te : TypeId} (h : fn.results = #[.cell p ty, .cell q te]) (tmps : Array Value) (w : World) (g k : Nat) (t : TypeId) (cs : Array Value) (fr : Nat × Nat) (d d' : TypeDesc) (u : Value)
    (hp : tmps.getD p undef = .pointer (some ⟨g, 0, none⟩)) (hg : w.heap[g]? = some (.cells cs t fr))
    (hu : P.underlying ty = some d) (hd : (match d with | .struct _ | .array _ _ => true | _ => false) = true) (hi : (P.info? ty).map (·.size) = some cs.size)
    (hq : tmps.getD q undef = .pointer (some ⟨k, 0, none⟩)) (hk : w.cell? ⟨k, 0, none⟩ = some u) (hu' : P.underlying te = some d') (hd' : (match d' with | .struct _ | .array _ _ => false | _ => true) = true) :
    (results fn tmps).run P w = .ok (.tuple #[.agg cs, u]) w := by
  have hp' : tmps[p]?.getD undef = .pointer (some ⟨g, 0, none⟩) := by simpa using hp
  have hq' : tmps[q]?.getD undef = .pointer (some ⟨k, 0, none⟩) := by simpa using hq
  simp [results, h, hp', hq', asAddr, run_loadVar_row w g t ty cs fr d hg hu hd hi, Bp.run_loadVar1 te ⟨k, 0, none⟩ u hk d' hu' hd']
/-- what Step answers -/
def stepV (L : List Str) (i : Int) : Value := match (if 0 ≤ i then (FL L)[i.toNat]? else none) with
  | some (x, r) => .tuple #[.agg (stpC x.k x.a x.y x.h (r : Int)), .int .i64 0]
  | none => .tuple #[.agg (stpC 0 0 0 0 0), .int .i64 10]
def foundC (L : List Str) (i : Int) : Array Value := match (FL L)[i.toNat]? with
  | some (x, r) => stpC x.k x.a x.y x.h (r : Int)
  | none => #[]
set_option maxHeartbeats 8000000 in
theorem Step_in (w : World) (q : Pl) (L : List Str) (hL : strD q L) (i : Int) (hi : i ≤ 100000000) :
    CallsIn Fence.wide 6 Try.prog 24 #[.agg q.cells, .int .i64 i] w fun e w' => e = .returned (stepV L i) ∧ Below w.heap.size w w' := by
  have HS := Lib.hid (strD_sum hL)
  have HSt := Lib.hid (fun W => stretches_any W q)
  have HTl := Lib.hid (fun (bc : Nat) (W : World) (hb : W.heap[bc]? = _) => str_tells 5 bc q L hL W hb)
  have HM := Lib.hid (SpI.made w q i)
  have HI := Lib.hid hi
  obtain ⟨V, hV⟩ : ∃ V, stepV L i = V := ⟨_, rfl⟩
  rw [hV]
  have HV := Lib.hid hV
  clear hL hi hV
  refine callsIn_of_wp_marks Try.func24 rfl trivial ?_ rfl
  simp only [Try.ntmps24, List.size_toArray, List.length_cons, List.length_nil, Nat.reduceAdd, Nat.reduceSub, Array.replicate_succ, Array.replicate_zero, List.push_toArray, List.append_toArray, List.nil_append, List.cons_append]
  gi_upto_region 1 with fail
  refine Mk.genM (Q := fun w => Code.wpIn _ _ _ _ _ _ w) _ (fun W => SpI w q i (stpC 0 0 0 0 0) 0 W ∧ W.heap.size = w.heap.size + 4) ⟨HM.out, by simp⟩ ?_
  clear HM
  rintro w1 ⟨k1, k2⟩
  have HP1 := Lib.hid k1
  have HZ1 := Lib.hid k2
  obtain ⟨c1, z1, c3, z3⟩ := k1.cells
  clear k1 k2
  by_cases h0 : i < 0
  · have d1 : decide (i < 0) = true := by simpa using h0
    have HR : Hid (V = .tuple #[.agg (stpC 0 0 0 0 0), .int .i64 10]) := Lib.hid (by rw [← HV.out]; unfold stepV; rw [if_neg (by omega)])
    clear h0
    gi_wp2_with (refine wpListIn_store_row rfl 56 (.tmp 4) (.tmp 9) rfl (w.heap.size + 1 + 1) #[.int .i64 0, .int .i64 0, .int .i64 0, .int .i64 0, .int .i64 0] rfl rfl 56 _ HP1.out.rb size_stp rfl (stp_one 0 0 0 0 0) ?_; have HP2 := Lib.hid (HP1.out.put #[.int .i64 0, .int .i64 0, .int .i64 0, .int .i64 0, .int .i64 0]); have c3 := HP2.out.cells.2.2.1; have z3 := HP2.out.cells.2.2.2)
    have hf := HP2.out.err 10
    exact ⟨_, results_rc Try.results24 _ _ (w.heap.size + 1 + 1) (w.heap.size + 1 + 1 + 1) 56 _ (0, 0) _ _ _ rfl hf.rb Try.underlying56 rfl size_stp rfl hf.cells.2.2.1 Try.underlying52 rfl, by rw [HR.out]; rfl, hf.below⟩
  · have d1 : decide (i < 0) = false := by simpa using h0
    have h0' : 0 ≤ i := by omega
    have HI0 := Lib.hid h0'
    clear h0 h0' c3 z3
    gi_upto_region 3 with fail
    gi_wp2_with (first
      | (refine wpListIn_load_row rfl 40 (.tmp 2) rfl w.heap.size rfl 40 _ (0, 0) _ HP1.out.pl Try.underlying40 rfl size_pl ?_)
      | (refine ⟨trivial, ?_⟩; refine (callsIn_wide.2 (HSt.out _)).mono ?_; rintro e w' ⟨rfl, rfl⟩))
    have hal : Below w1.heap.size w1 (w1.alloc (.cells q.cells 40)) := (Below.refl _ _).alloc (Nat.le_refl _) _
    have hcb := heap_alloc_new w1 (.cells q.cells 40)
    have hpw := HP1.out.later hal
    have hsz : (w1.alloc (.cells q.cells 40)).heap.size = w.heap.size + 5 := by simp [HZ1.out]
    rw [HZ1.out] at hcb
    obtain ⟨W0, hW0⟩ : ∃ W0, w1.alloc (.cells q.cells 40) = W0 := ⟨_, rfl⟩
    rw [hW0] at hcb hpw hsz ⊢
    rw [HZ1.out]
    have HPw := Lib.hid hpw
    have HSz := Lib.hid hsz
    clear hW0 hal HP1 HZ1 HSt hpw c1 z1
    refine wpIn_rangeFunc_tellsC rfl (by omega) (gf := 56) (lb := #[.pointer (some ⟨w.heap.size + 4, 0, none⟩)]) rfl trivial (enters_of Try.func56 (by kernel_rfl) rfl)
      (HTl.out (w.heap.size + 4) W0 hcb) KpS.trans (fun W l o o' h1 h2 h3 h4 => KpS.put W l o o' h2 h3) (Below.refl _ _) (fun _ => rfl)
      (fun pre W => (SpI w q (i - sumR pre) (stpC 0 0 0 0 0) 0 W ∧ W0.heap.size ≤ W.heap.size) ∧ (sumR pre : Int) ≤ i) (fun c pre W => c = .ret ∧ ∃ e, SpI w q e (foundC L i) 0 W ∧ ∃ x r, (FL L)[i.toNat]? = some (x, r)) (OwnC.and (OwnC.and (spI_own (f := fun pre => i - (sumR pre : Int)) (by omega)) ownC_size) (ownC_pure _)) (fun c => by
        intro s X Y row hs hg hr
        obtain ⟨hc, e, h1, h2⟩ := hs
        exact ⟨hc, e, spI_own (α := Unit) (f := fun _ => e) (by omega) () X Y row h1 hg hr, h2⟩)
      ⟨⟨by simpa [sumR] using HPw.out, Nat.le_refl _⟩, by simpa [sumR] using HI0.out⟩
      (fun pre x a' W => (pre ++ [x]) <+: L ∧ ∃ Bx, (W0.heap.size ≤ Bx ∧ W.heap[Bx]? = some (.cells x.cells 95 (0, 0))) ∧ a' = { tmps := #[.agg q.cells, .int .i64 i, .pointer (some ⟨w.heap.size, 0, none⟩), .pointer (some ⟨w.heap.size + 1, 0, none⟩), .pointer (some ⟨w.heap.size + 1 + 1, 0, none⟩), .pointer (some ⟨w.heap.size + 1 + 1 + 1, 0, none⟩), .pointer (some ⟨Bx, 0, none⟩), .int .i64 i, .bool false, undef, .agg q.cells, .func (.func 56) #[] #[.pointer (some ⟨w.heap.size + 4, 0, none⟩)], x.val, undef, undef, undef, undef, undef, undef, undef, undef, undef, undef, undef, undef], defers := [] })
      (fun pre x a' s X Y row hs hg hr => ⟨hs.1, hs.2.imp fun Bx h => ⟨⟨h.1.1, ownC_row (f := fun (_ : Unit) => x.cells) (Or.inr (by decide)) s X Y row h.1.2 hg hr⟩, h.2⟩⟩)
      ?assign ?body ?done ?stop
    case assign =>
      rintro l pre x W K hI hG hK
      have HK := Lib.hid hK
      have HIv := Lib.hid hI
      have HG := Lib.hid hG
      clear hG hK hI
      dsimp only [Str.val]
      gi_wp2_with (refine wpListIn_store_new rfl 95 (.tmp 6) (.tmp 12) rfl x.cells #[.int .i64 0, .int .i64 0, .int .i64 0, .int .i64 0, .int .i64 0, .int .i64 0] 95 rfl rfl rfl size_str rfl rfl ?_)
      have hal : Below W.heap.size W (W.alloc (.cells x.cells 95)) := (Below.refl _ _).alloc (Nat.le_refl _) _
      exact HK.out _ _ ((KeepsOthers.alloc _ _).from _) (KpS.of_below hal) ⟨⟨HIv.out.1.1.later hal, Nat.le_trans HIv.out.1.2 hal.size⟩, HIv.out.2⟩ ⟨HG.out, W.heap.size, ⟨HIv.out.1.2, heap_alloc_new _ _⟩, rfl⟩
    case body =>
      rintro l pre x a' W hl _ hI ⟨hG, Bx, ⟨hB1, hB2⟩, rfl⟩
      have HIv := Lib.hid hI
      have HB2 := Lib.hid hB2
      have HG := Lib.hid hG
      have HB1 := Lib.hid hB1
      have hle := sumR_pre hG
      rw [sumR_append] at hle
      have hsx : sumR [x] = x.n := by simp [sumR]
      rw [hsx] at hle
      have hs6 := HS.out
      have hIi := HI.out
      have hI2 := hI.2
      have HEq : Hid (sumR (pre ++ [x]) = sumR pre + x.n) := Lib.hid (by rw [sumR_append, hsx])
      obtain ⟨A, hA⟩ : ∃ A, sumR pre = A := ⟨_, rfl⟩
      obtain ⟨R, hR⟩ : ∃ R, x.n = R := ⟨_, rfl⟩
      rw [hA, hR] at hle HEq
      rw [hA] at hI2
      obtain ⟨z, hz⟩ : ∃ z : Nat, i - (A : Int) = (z : Int) := ⟨(i - (A : Int)).toNat, by omega⟩
      have c1 : W.cell? ⟨w.heap.size + 1, 0, none⟩ = some (.int .i64 (z : Int)) := by rw [hI.1.1.cells.1, hA, hz]
      have z1 := hI.1.1.cells.2.1
      have c3 := hI.1.1.cells.2.2.1
      have z3 := hI.1.1.cells.2.2.2
      have c5 : W.cell? ⟨Bx, 5, none⟩ = some (.int .i64 (R : Int)) := by rw [cell_of_row _ _ _ _ _ _ hB2, ← hR]; rfl
      have hzb : z ≤ 100000000 := by omega
      have hRb : R ≤ 6000000 := by omega
      have HZ : Hid (i = (A : Int) + (z : Int)) := Lib.hid (by omega)
      have HA := Lib.hid hA
      have HR := Lib.hid hR
      clear hI hB2 hG hle hsx hs6 hA hR hIi hI2 hz hB1
      by_cases hlt : z < R
      · have e1 : decide (z < R) = true := by simpa using hlt
        have e2 : decide ((z : Int) < (R : Int)) = true := by simp; omega
        have HSp := Lib.hid (fun W => step_any W x (z : Int))
        have hfl : (FL L)[i.toNat]? = some (x, z) := by
          have h1 := FL_at HG.out (j := z) (by rw [HR.out]; exact hlt)
          rw [HA.out] at h1
          rw [← h1]
          have := HZ.out
          congr 1
          omega
        have HFl := Lib.hid hfl
        clear hlt hfl
        gi_upto_region 6 with fail
        gi_wp2_with (first
          | (refine wpListIn_load_row rfl 95 (.tmp 6) rfl Bx rfl 95 _ (0, 0) _ HB2.out Try.underlying95 rfl size_str ?_)
          | (refine ⟨trivial, ?_⟩; refine (CallsIn.inRound l (callsIn_wide.2 (HSp.out _))).mono ?_; rintro e w9 ⟨rfl, hb9⟩; have HP9 := Lib.hid (HIv.out.1.1.later hb9); have z3 := HP9.out.cells.2.2.2; have c3 := HP9.out.cells.2.2.1; have HKb := Lib.hid hb9; clear hb9)
          | (refine wpListIn_store_row rfl 56 (.tmp 4) (.tmp 19) rfl (w.heap.size + 1 + 1) (stpC x.k x.a x.y x.h z) rfl rfl 56 _ HP9.out.rb size_stp rfl (stp_one _ _ _ _ _) ?_; have HPa := Lib.hid (HP9.out.put (stpC x.k x.a x.y x.h z)); have z3 := HPa.out.cells.2.2.2; have c3 := HPa.out.cells.2.2.1))
        have hf : foundC L i = stpC x.k x.a x.y x.h z := by unfold foundC; rw [HFl.out]
        have hk2 : KpS W0.heap.size (w.heap.size + 4) W ((w9.setRow (w.heap.size + 1 + 1) (stpC x.k x.a x.y x.h z)).setCell ⟨w.heap.size + 1 + 1 + 1, 0, none⟩ (.int .i64 0)) := by
          refine (KpS.of_below HKb.out).trans ⟨by simp, fun k cs t hk ht e => ?_⟩
          have := HSz.out
          exact (heap_setCell_other _ _ _ _ (by simp; omega)).trans ((setRow_other _ _ _ _ (by omega)).trans e)
        have hk1 : KeepsFrom W0.heap.size W ((w9.setRow (w.heap.size + 1 + 1) (stpC x.k x.a x.y x.h z)).setCell ⟨w.heap.size + 1 + 1 + 1, 0, none⟩ (.int .i64 0)) := by
          refine ((below_keeps HKb.out).trans ⟨by simp, fun k o hk ho hc => ?_⟩).trans keepsFrom_cell
          have := HSz.out
          exact (setRow_other _ _ _ _ (by omega)).trans ho
        refine ⟨hk1, hk2, rfl, i - (sumR pre : Int), ?_, x, z, HFl.out⟩
        rw [hf]
        exact HPa.out.err 0
      · have e1 : decide (z < R) = false := by simpa using hlt
        have e2 : decide ((z : Int) < (R : Int)) = false := by simp; omega
        have hRz : R ≤ z := by omega
        have HRz := Lib.hid hRz
        have hw : wrap64 ((z : Int) - (R : Int)) = (z : Int) - (R : Int) := by unfold wrap64; omega
        clear hlt hRz
        gi_wp2
        have hz2 : (z : Int) - (R : Int) = i - (sumR (pre ++ [x]) : Int) := by rw [HEq.out]; have := HZ.out; omega
        have hp2 := HIv.out.1.1.turn ((z : Int) - (R : Int))
        rw [hz2] at hp2 ⊢
        refine ⟨keepsFrom_cell, ⟨by simp, fun k cs t hk ht e => (heap_setCell_other _ _ _ _ (by simp; have := HSz.out; omega)).trans e⟩, ⟨hp2, by simp; exact HIv.out.1.2⟩, ?_⟩
        rw [HEq.out]
        have := HZ.out
        have := HRz.out
        omega
    case done =>
      rintro D2 ys W hD rfl ⟨⟨hp, _⟩, hle⟩ hK
      have HP := Lib.hid hp
      have HR : Hid (V = .tuple #[.agg (stpC 0 0 0 0 0), .int .i64 10]) := Lib.hid (by
        rw [← HV.out]
        unfold stepV
        rw [if_pos HI0.out, List.getElem?_eq_none (by rw [FL_len]; omega)])
      have HD0 : Hid (w.heap.size ≤ D2) := Lib.hid (by omega)
      have HD1 : Hid (w.heap.size + 4 ≤ D2) := Lib.hid (by have := HSz.out; omega)
      clear hp hle
      gi_wp2_with (refine wpListIn_store_row rfl 56 (.tmp 4) (.tmp 24) rfl (w.heap.size + 1 + 1) #[.int .i64 0, .int .i64 0, .int .i64 0, .int .i64 0, .int .i64 0] rfl rfl 56 _ HP.out.rb size_stp rfl (stp_one 0 0 0 0 0) ?_; have HP2 := Lib.hid (HP.out.put #[.int .i64 0, .int .i64 0, .int .i64 0, .int .i64 0, .int .i64 0]); have c3 := HP2.out.cells.2.2.1; have z3 := HP2.out.cells.2.2.2)
      have hf := HP2.out.err 10
      have hK2 : ((W.setRow (w.heap.size + 1 + 1) #[.int .i64 0, .int .i64 0, .int .i64 0, .int .i64 0, .int .i64 0]).setCell ⟨w.heap.size + 1 + 1 + 1, 0, none⟩ (.int .i64 10)).heap[D2]? = some (.deferred (some [])) := by
        have := HD1.out
        exact (heap_setCell_other _ _ _ _ (by simp; omega)).trans ((setRow_other _ _ _ _ (by omega)).trans hK)
      have hg := spI_own (α := Unit) (B := D2) (f := fun _ => _) HD1.out () _ _ (some D2) hf (grownBy_putObj' _ D2 (.deferred none)) (fun r e => by cases e; exact ⟨Nat.le_refl _, _, hK2, Or.inl rfl⟩)
      refine ⟨by simp, .inl ⟨_, _, rfl, run_takeDeferred hK2, ?_⟩⟩
      exact ⟨_, results_rc Try.results24 _ _ (w.heap.size + 1 + 1) (w.heap.size + 1 + 1 + 1) 56 _ (0, 0) _ _ _ rfl hg.rb Try.underlying56 rfl size_stp rfl hg.cells.2.2.1 Try.underlying52 rfl, by rw [HR.out]; rfl, hg.below⟩
    case stop =>
      rintro D2 c pre W hD _ ⟨rfl, e, hp, x, r, hfl⟩ hK
      have hf : foundC L i = stpC x.k x.a x.y x.h r := by unfold foundC; rw [hfl]
      rw [hf] at hp
      have hR : V = .tuple #[.agg (stpC x.k x.a x.y x.h r), .int .i64 0] := by
        rw [← HV.out]
        unfold stepV
        rw [if_pos HI0.out, hfl]
      have HD1 : w.heap.size + 4 ≤ D2 := by have := HSz.out; omega
      have hg := spI_own (α := Unit) (B := D2) (f := fun _ => _) HD1 () _ _ (some D2) hp (grownBy_putObj' _ D2 (.deferred none)) (fun r e => by cases e; exact ⟨Nat.le_refl _, _, hK, Or.inl rfl⟩)
      gi_wp2
      refine ⟨by simp, .inl ⟨_, _, rfl, run_takeDeferred hK, ?_⟩⟩
      exact ⟨_, results_rc Try.results24 _ _ (w.heap.size + 1 + 1) (w.heap.size + 1 + 1 + 1) 56 _ (0, 0) _ _ _ rfl hg.rb Try.underlying56 rfl size_stp rfl hg.cells.2.2.1 Try.underlying52 rfl, rfl, hg.below⟩
theorem Step_any (w : World) (q : Pl) (L : List Str) (hL : strD q L) (i : Int) (hi : i ≤ 100000000) : Calls Try.prog 24 #[.agg q.cells, .int .i64 i] w fun e w' => e = .returned (stepV L i) ∧ Below w.heap.size w w' := callsIn_wide.1 (Step_in w q L hL i hi)
end Go.Proofs.Ytdffbjjiojheoaa.St
