import Derived.Test.YtdffbjjiojheoaaWd
import Derived.Test.YtdffbjjiojheoaaBs
import Derived.Great.BuildSlice
namespace Go.Proofs.Ytdffbjjiojheoaa.Wg
set_option maxRecDepth 100000
open Go.ChangeShapes Go.WideShapes Go.ChangeAt Go.RowKit Go.Proofs.Ytdffbjjiojheoaa.Tn

/-! ### the parts of a layer -/
/-- a part as the code has it: with the closures that tell where it stands -/
structure Bk where
  b : Bl
  vf : Value
  mf : Value
def Bk.cells (x : Bk) : Array Value := blC x.b.k x.b.y x.b.r x.b.c x.vf x.mf
def Bk.val (x : Bk) : Value := .agg x.cells
/-- the function that tells where a part of a layer stands in it -/
def fnK : Nat → Nat
  | 2 => 88
  | 3 => 89
  | 4 => 90
  | 5 => 91
  | 6 => 92
  | 7 => 93
  | 8 => 94
  | 9 => 95
  | 10 => 96
  | _ => 0
/-- what lies in memory beside a part of a layer -/
def LayFn (n0 : Nat) (W : World) (x : Bk) : Prop :=
  ∃ bi bl, n0 ≤ bi ∧ n0 ≤ bl ∧ W.heap[bi]? = some (.cells #[fnV (fnK x.b.k)] (if isVec x.b.k then 140 else 142) (0, 0)) ∧ W.heap[bl]? = some (.cells #[.int .i64 (x.b.y : Int)] 3 (0, 0)) ∧
    (isVec x.b.k = true → x.vf = .func (.func 85) #[] #[.pointer (some ⟨bi, 0, none⟩), .pointer (some ⟨bl, 0, none⟩)] ∧ x.mf = .nilFunc) ∧ (isVec x.b.k = false → x.vf = .nilFunc ∧ x.mf = .func (.func 87) #[] #[.pointer (some ⟨bi, 0, none⟩), .pointer (some ⟨bl, 0, none⟩)])
theorem LayFn.later {n0 : Nat} {W W' : World} {x : Bk} (h : LayFn n0 W x) (hb : Below W.heap.size W W') : LayFn n0 W' x := by
  obtain ⟨bi, bl, h1, h2, h3, h4, h5⟩ := h
  exact ⟨bi, bl, h1, h2, (hb.block _ (Array.getElem?_eq_some_iff.1 h3).1).trans h3, (hb.block _ (Array.getElem?_eq_some_iff.1 h4).1).trans h4, h5⟩
/-- a call's answer, within layerBlocks -/
def VW (bl : Nat) (y k r c : Int) (v : Bool) (f : Nat) (W : World) (yy : Value) : Prop :=
  ∃ bi, bl < bi ∧ W.heap[bi]? = some (.cells #[fnV f] (if v then 140 else 142) (0, 0)) ∧
    yy = if v then blV k y r c (.func (.func 85) #[] #[.pointer (some ⟨bi, 0, none⟩), .pointer (some ⟨bl, 0, none⟩)]) .nilFunc else blV k y r c .nilFunc (.func (.func 87) #[] #[.pointer (some ⟨bi, 0, none⟩), .pointer (some ⟨bl, 0, none⟩)])
theorem VW.later {bl : Nat} {y k r c : Int} {v : Bool} {f : Nat} {W W' : World} {yy : Value} (h : VW bl y k r c v f W yy) (hb : Below W.heap.size W W') : VW bl y k r c v f W' yy := by
  obtain ⟨bi, h1, h2, h3⟩ := h
  exact ⟨bi, h1, (hb.block _ (Array.getElem?_eq_some_iff.1 h2).1).trans h2, h3⟩
def layX (g : Nat) (d i : Int) : Nat → Option Value
  | 0 => some (.func (.func 84) #[] #[.pointer (some ⟨g + 1, 0, none⟩), .pointer (some ⟨g, 0, none⟩)])
  | 2 => some (.func (.func 86) #[] #[.pointer (some ⟨g + 1, 0, none⟩)])
  | 3 => some (.pointer (some ⟨g, 1, none⟩))
  | 4 => some (.int .i64 d)
  | 5 => some (.pointer (some ⟨g, 1, none⟩))
  | 6 => some (.int .i64 d)
  | 8 => some (.func (.func 86) #[] #[.pointer (some ⟨g + 1, 0, none⟩)])
  | 9 => some (.pointer (some ⟨g, 1, none⟩))
  | 10 => some (.int .i64 d)
  | 11 => some (.pointer (some ⟨g, 1, none⟩))
  | 12 => some (.int .i64 d)
  | 14 => some (.func (.func 86) #[] #[.pointer (some ⟨g + 1, 0, none⟩)])
  | 15 => some (.pointer (some ⟨g, 1, none⟩))
  | 16 => some (.int .i64 d)
  | 17 => some (.pointer (some ⟨g, 1, none⟩))
  | 18 => some (.int .i64 d)
  | 20 => some (.func (.func 86) #[] #[.pointer (some ⟨g + 1, 0, none⟩)])
  | 21 => some (.pointer (some ⟨g, 1, none⟩))
  | 22 => some (.int .i64 d)
  | 23 => some (.pointer (some ⟨g, 1, none⟩))
  | 24 => some (.int .i64 d)
  | 26 => some (.func (.func 84) #[] #[.pointer (some ⟨g + 1, 0, none⟩), .pointer (some ⟨g, 0, none⟩)])
  | 28 => some (.func (.func 86) #[] #[.pointer (some ⟨g + 1, 0, none⟩)])
  | 29 => some (.pointer (some ⟨g, 5, none⟩))
  | 30 => some (.int .i64 i)
  | 31 => some (.pointer (some ⟨g, 1, none⟩))
  | 32 => some (.int .i64 d)
  | 34 => some (.func (.func 86) #[] #[.pointer (some ⟨g + 1, 0, none⟩)])
  | 35 => some (.pointer (some ⟨g, 5, none⟩))
  | 36 => some (.int .i64 i)
  | 37 => some (.pointer (some ⟨g, 1, none⟩))
  | 38 => some (.int .i64 d)
  | 40 => some (.func (.func 86) #[] #[.pointer (some ⟨g + 1, 0, none⟩)])
  | 41 => some (.pointer (some ⟨g, 1, none⟩))
  | 42 => some (.int .i64 d)
  | 43 => some (.pointer (some ⟨g, 5, none⟩))
  | 44 => some (.int .i64 i)
  | _ => none
def layQ (d i : Int) : Nat → Option (Int × Int × Int × Bool × Nat)
  | 1 => some (2, 1, d, true, 88)
  | 7 => some (3, d, d, false, 89)
  | 13 => some (4, d, d, false, 90)
  | 19 => some (5, d, d, false, 91)
  | 25 => some (6, d, d, false, 92)
  | 27 => some (7, 1, d, true, 93)
  | 33 => some (8, i, d, false, 94)
  | 39 => some (9, i, d, false, 95)
  | 45 => some (10, d, i, false, 96)
  | _ => none
theorem run_cfgf (g : Nat) (W : World) : (Instr.fieldAt 31 (.pointer (some ⟨g, 0, none⟩)) 1).run Try.prog W = .ok (.pointer (some ⟨g, 1, none⟩)) W := by kernel_rfl
theorem run_cfgh (g : Nat) (W : World) : (Instr.fieldAt 31 (.pointer (some ⟨g, 0, none⟩)) 5).run Try.prog W = .ok (.pointer (some ⟨g, 5, none⟩)) W := by kernel_rfl
section
variable {a : Act} {o : Oper} {W : World}
theorem exec_cfg1 (x : Operand) (ho : o.op = .fieldAddr 31 x 1) (g : Nat) (hx : a.eval x = .pointer (some ⟨g, 0, none⟩)) : (execOp a.eval o).run Try.prog W = .ok (.value (.pointer (some ⟨g, 1, none⟩))) W := by
  unfold execOp
  simp only [ho, hx, Sem.run_bind, run_cfgf, Result.andThen_ok, Sem.run_pure]
theorem exec_cfg5 (x : Operand) (ho : o.op = .fieldAddr 31 x 5) (g : Nat) (hx : a.eval x = .pointer (some ⟨g, 0, none⟩)) : (execOp a.eval o).run Try.prog W = .ok (.value (.pointer (some ⟨g, 5, none⟩))) W := by
  unfold execOp
  simp only [ho, hx, Sem.run_bind, run_cfgh, Result.andThen_ok, Sem.run_pure]
/-- a call of a function value -/
theorem exec_callN {P : Program} (f : FuncId) (xs : Array Operand) (z : Operand) (ats : Array TypeId) (cap vs : Array Value) (ho : o.op = .call { callee := .value z, args := xs, argTypes := ats }) (hz : a.eval z = .func (.func f) #[] cap) (hx : xs.map a.eval = vs)
    (hf : (callFunc f (vs ++ cap)).run P W = .ok (.enter f (vs ++ cap)) W) : (execOp a.eval o).run P W = .ok (.enter f (vs ++ cap)) W := by
  unfold execOp
  simp only [ho, resolve, hz, Deferred.ofValue, Sem.run_bind, Sem.run_pure, Result.andThen_ok, invoke, Array.empty_append, hx]
  exact hf
end
/-- what stands in layerBlocks ahead of its region -/
structure Lb (w : World) (c : Cfg) (y : Int) (W : World) : Prop where
  below : Below w.heap.size w W
  cf : W.heap[w.heap.size]? = some (.cells c.cells 31 (0, 0))
  ly : W.heap[w.heap.size + 1]? = some (.cells #[.int .i64 y] 3 (0, 0))
theorem Lb.hi {w : World} {c : Cfg} {y : Int} {W : World} (h : Lb w c y W) : w.heap.size + 1 < W.heap.size := (Array.getElem?_eq_some_iff.1 h.ly).1
theorem Lb.made (w : World) (c : Cfg) (y : Int) : Lb w c y ((w.alloc (.cells c.cells 31)).alloc (.cells #[.int .i64 y] 3)) := by
  refine ⟨((Below.refl _ _).alloc (Nat.le_refl _) _).alloc (by simp) _, ?_, ?_⟩
  · rw [heap_alloc_old _ _ (by simp)]
    exact heap_alloc_new _ _
  · have := heap_alloc_new (w.alloc (.cells c.cells 31)) (.cells #[.int .i64 y] 3)
    rwa [World.size_alloc] at this
theorem Lb.later {w : World} {c : Cfg} {y : Int} {W W' : World} (h : Lb w c y W) (hb : Below W.heap.size W W') : Lb w c y W' :=
  ⟨h.below.trans (hb.mono h.below.size), (hb.block _ (Array.getElem?_eq_some_iff.1 h.cf).1).trans h.cf, (hb.block _ (Array.getElem?_eq_some_iff.1 h.ly).1).trans h.ly⟩
theorem Lb.d {w : World} {c : Cfg} {y : Int} {W : World} (h : Lb w c y W) : W.cell? ⟨w.heap.size, 1, none⟩ = some (.int .i64 c.d) := by rw [cell_of_row _ _ _ _ _ _ h.cf]; rfl
theorem Lb.i {w : World} {c : Cfg} {y : Int} {W : World} (h : Lb w c y W) : W.cell? ⟨w.heap.size, 5, none⟩ = some (.int .i64 c.i) := by rw [cell_of_row _ _ _ _ _ _ h.cf]; rfl
theorem Lb.y {w : World} {c : Cfg} {y : Int} {W : World} (h : Lb w c y W) : W.cell? ⟨w.heap.size + 1, 0, none⟩ = some (.int .i64 y) := by rw [cell_of_row _ _ _ _ _ _ h.ly]; rfl
/-- the parts of a layer, as they lie in a block of their own -/
structure LayAt (n0 : Nat) (d i : Int) (y : Nat) (g : Nat) (xs : List Bk) (W : World) : Prop where
  row : W.heap[g]? = some (.cells (xs.flatMap fun x => x.cells.toList).toArray 117 (0, 0))
  parts : xs.map (·.b) = layB d.toNat i.toNat y
  fns : ∀ x ∈ xs, LayFn n0 W x
set_option maxHeartbeats 8000000 in
theorem layerBlocks_any (w : World) (c : Cfg) (y : Nat) (hd : 0 ≤ c.d) (hi : 0 ≤ c.i) :
    Calls Try.prog 74 #[.agg c.cells, .int .i64 (y : Int)] w fun e w' => ∃ g xs, e = .returned (.slice (some ⟨g, 0, none⟩) 9 9) ∧ w.heap.size ≤ g ∧ LayAt w.heap.size c.d c.i y g xs w' ∧ Below w.heap.size w w' := by
  obtain ⟨cv, cd, ch, cl, cx, ci⟩ := c
  obtain ⟨D, rfl⟩ : ∃ D : Nat, cd = D := Int.eq_ofNat_of_zero_le hd
  obtain ⟨I, rfl⟩ : ∃ I : Nat, ci = I := Int.eq_ofNat_of_zero_le hi
  clear hd hi
  have HB := Lib.hid (Lb.made w ⟨cv, D, ch, cl, cx, I⟩ y)
  unfold Cfg.cells at HB ⊢
  go_enter Try.func74, Try.ntmps74
  go_upto_region 3 with fail
  refine gen_w (Q := fun w => Code.wp _ _ _ _ w) _ (Lb w ⟨cv, D, ch, cl, cx, I⟩ y) HB.out ?_
  clear HB
  intro w3 hx
  have HX := Lib.hid hx
  clear hx
  refine Tn.wp_region_spec (C := fun W => Below w3.heap.size w3 W) (Le := fun w w' => Below w.heap.size w w') 46 (fun _ ixx W yy => (∀ k r c0 v f, layQ D I ixx = some (k, r, c0, v, f) → VW (w.heap.size + 1) y k r c0 v f W yy) ∧ ∀ z, layX w.heap.size D I ixx = some z → yy = z) (by kernel_rfl) (by kernel_rfl) ⟨rfl, rfl, rfl, Nat.le_refl _, fun _ _ => rfl⟩ (fun _ _ _ _ _ _ h => h) (fun _ _ _ _ _ hb h => ⟨fun k r c0 v f e => (h.1 k r c0 v f e).later hb, h.2⟩) (fun ixx yy => ∀ z, layX w.heap.size D I ixx = some z → yy = z) (fun _ _ _ _ h => h.2) (fun ixx => (layX w.heap.size D I ixx).getD undef) (fun ixx z h => by simp [h]) ?_ ?_
  · intro u hu
    have h0 : u 0 = .func (.func 84) #[] #[.pointer (some ⟨w.heap.size + 1, 0, none⟩), .pointer (some ⟨w.heap.size, 0, none⟩)] := hu 0 _ rfl
    have h2 : u 2 = .func (.func 86) #[] #[.pointer (some ⟨w.heap.size + 1, 0, none⟩)] := hu 2 _ rfl
    have h3 : u 3 = .pointer (some ⟨w.heap.size, 1, none⟩) := hu 3 _ rfl
    have h4 : u 4 = .int .i64 (D : Int) := hu 4 _ rfl
    have h5 : u 5 = .pointer (some ⟨w.heap.size, 1, none⟩) := hu 5 _ rfl
    have h6 : u 6 = .int .i64 (D : Int) := hu 6 _ rfl
    have h8 : u 8 = .func (.func 86) #[] #[.pointer (some ⟨w.heap.size + 1, 0, none⟩)] := hu 8 _ rfl
    have h9 : u 9 = .pointer (some ⟨w.heap.size, 1, none⟩) := hu 9 _ rfl
    have h10 : u 10 = .int .i64 (D : Int) := hu 10 _ rfl
    have h11 : u 11 = .pointer (some ⟨w.heap.size, 1, none⟩) := hu 11 _ rfl
    have h12 : u 12 = .int .i64 (D : Int) := hu 12 _ rfl
    have h14 : u 14 = .func (.func 86) #[] #[.pointer (some ⟨w.heap.size + 1, 0, none⟩)] := hu 14 _ rfl
    have h15 : u 15 = .pointer (some ⟨w.heap.size, 1, none⟩) := hu 15 _ rfl
    have h16 : u 16 = .int .i64 (D : Int) := hu 16 _ rfl
    have h17 : u 17 = .pointer (some ⟨w.heap.size, 1, none⟩) := hu 17 _ rfl
    have h18 : u 18 = .int .i64 (D : Int) := hu 18 _ rfl
    have h20 : u 20 = .func (.func 86) #[] #[.pointer (some ⟨w.heap.size + 1, 0, none⟩)] := hu 20 _ rfl
    have h21 : u 21 = .pointer (some ⟨w.heap.size, 1, none⟩) := hu 21 _ rfl
    have h22 : u 22 = .int .i64 (D : Int) := hu 22 _ rfl
    have h23 : u 23 = .pointer (some ⟨w.heap.size, 1, none⟩) := hu 23 _ rfl
    have h24 : u 24 = .int .i64 (D : Int) := hu 24 _ rfl
    have h26 : u 26 = .func (.func 84) #[] #[.pointer (some ⟨w.heap.size + 1, 0, none⟩), .pointer (some ⟨w.heap.size, 0, none⟩)] := hu 26 _ rfl
    have h28 : u 28 = .func (.func 86) #[] #[.pointer (some ⟨w.heap.size + 1, 0, none⟩)] := hu 28 _ rfl
    have h29 : u 29 = .pointer (some ⟨w.heap.size, 5, none⟩) := hu 29 _ rfl
    have h30 : u 30 = .int .i64 (I : Int) := hu 30 _ rfl
    have h31 : u 31 = .pointer (some ⟨w.heap.size, 1, none⟩) := hu 31 _ rfl
    have h32 : u 32 = .int .i64 (D : Int) := hu 32 _ rfl
    have h34 : u 34 = .func (.func 86) #[] #[.pointer (some ⟨w.heap.size + 1, 0, none⟩)] := hu 34 _ rfl
    have h35 : u 35 = .pointer (some ⟨w.heap.size, 5, none⟩) := hu 35 _ rfl
    have h36 : u 36 = .int .i64 (I : Int) := hu 36 _ rfl
    have h37 : u 37 = .pointer (some ⟨w.heap.size, 1, none⟩) := hu 37 _ rfl
    have h38 : u 38 = .int .i64 (D : Int) := hu 38 _ rfl
    have h40 : u 40 = .func (.func 86) #[] #[.pointer (some ⟨w.heap.size + 1, 0, none⟩)] := hu 40 _ rfl
    have h41 : u 41 = .pointer (some ⟨w.heap.size, 1, none⟩) := hu 41 _ rfl
    have h42 : u 42 = .int .i64 (D : Int) := hu 42 _ rfl
    have h43 : u 43 = .pointer (some ⟨w.heap.size, 5, none⟩) := hu 43 _ rfl
    have h44 : u 44 = .int .i64 (I : Int) := hu 44 _ rfl
    simp only [List.take_succ_cons, List.take_zero]
    refine Tn.spec_cons (fun W hC hd => ⟨by rfl, ?_⟩) ?_
    · exact Tn.gives_val (.func (.func 84) #[] #[.pointer (some ⟨w.heap.size + 1, 0, none⟩), .pointer (some ⟨w.heap.size, 0, none⟩)]) W (by rfl) ⟨hC, Below.refl _ _, (fun k r c0 v f h => by cases h), fun z hz => by cases hz; rfl⟩
    simp only [Act.put, List.setIfInBounds_toArray, List.set_cons_succ, List.set_cons_zero, Nat.reduceAdd]
    rw [h0]
    refine Tn.spec_cons (fun W hC hd => ⟨by rfl, ?_⟩) ?_
    · refine Tn.gives_call _ _ (exec_callN 84 #[.const (.int .i64 2), .func 88] (.tmp 9) #[3, 140] #[.pointer (some ⟨w.heap.size + 1, 0, none⟩), .pointer (some ⟨w.heap.size, 0, none⟩)] #[.int .i64 2, .func (.func 88) #[] #[]] rfl rfl (by simp only [List.map_toArray, List.map_cons, List.map_nil]; rfl) (cf Try.func84 (by kernel_rfl) (by kernel_rfl) _ _)) ((vec_any W (w.heap.size + 1) w.heap.size 88 2 y D (HX.out.later hC).y (HX.out.later hC).d).mono fun e W2 ⟨e1, e2, e3⟩ => ?_)
      exact ⟨_, e1, hC.trans (e3.mono hC.size), e3, fun k r c0 v f h => by cases h; exact ⟨_, by have := (HX.out.later hC).hi; omega, e2, rfl⟩, fun z hz => by cases hz⟩
    simp only [Act.put, List.setIfInBounds_toArray, List.set_cons_succ, List.set_cons_zero, Nat.reduceAdd]
    refine Tn.spec_cons (fun W hC hd => ⟨by rfl, ?_⟩) ?_
    · exact Tn.gives_val (.func (.func 86) #[] #[.pointer (some ⟨w.heap.size + 1, 0, none⟩)]) W (by rfl) ⟨hC, Below.refl _ _, (fun k r c0 v f h => by cases h), fun z hz => by cases hz; rfl⟩
    simp only [Act.put, List.setIfInBounds_toArray, List.set_cons_succ, List.set_cons_zero, Nat.reduceAdd]
    rw [h2]
    refine Tn.spec_cons (fun W hC hd => ⟨by rfl, ?_⟩) ?_
    · exact Tn.gives_val (.pointer (some ⟨w.heap.size, 1, none⟩)) W (exec_cfg1 (.tmp 2) rfl w.heap.size rfl) ⟨hC, Below.refl _ _, (fun k r c0 v f h => by cases h), fun z hz => by cases hz; rfl⟩
    simp only [Act.put, List.setIfInBounds_toArray, List.set_cons_succ, List.set_cons_zero, Nat.reduceAdd]
    rw [h3]
    refine Tn.spec_cons (fun W hC hd => ⟨by rfl, ?_⟩) ?_
    · exact Tn.gives_val (.int .i64 (D : Int)) W (Bp.exec_load1 3 (.tmp 12) rfl ⟨w.heap.size, 1, none⟩ rfl _ (HX.out.later hC).d _ Try.underlying3 rfl) ⟨hC, Below.refl _ _, (fun k r c0 v f h => by cases h), fun z hz => by cases hz; rfl⟩
    simp only [Act.put, List.setIfInBounds_toArray, List.set_cons_succ, List.set_cons_zero, Nat.reduceAdd]
    rw [h4]
    refine Tn.spec_cons (fun W hC hd => ⟨by rfl, ?_⟩) ?_
    · exact Tn.gives_val (.pointer (some ⟨w.heap.size, 1, none⟩)) W (exec_cfg1 (.tmp 2) rfl w.heap.size rfl) ⟨hC, Below.refl _ _, (fun k r c0 v f h => by cases h), fun z hz => by cases hz; rfl⟩
    simp only [Act.put, List.setIfInBounds_toArray, List.set_cons_succ, List.set_cons_zero, Nat.reduceAdd]
    rw [h5]
    refine Tn.spec_cons (fun W hC hd => ⟨by rfl, ?_⟩) ?_
    · exact Tn.gives_val (.int .i64 (D : Int)) W (Bp.exec_load1 3 (.tmp 14) rfl ⟨w.heap.size, 1, none⟩ rfl _ (HX.out.later hC).d _ Try.underlying3 rfl) ⟨hC, Below.refl _ _, (fun k r c0 v f h => by cases h), fun z hz => by cases hz; rfl⟩
    simp only [Act.put, List.setIfInBounds_toArray, List.set_cons_succ, List.set_cons_zero, Nat.reduceAdd]
    rw [h6]
    refine Tn.spec_cons (fun W hC hd => ⟨by rfl, ?_⟩) ?_
    · refine Tn.gives_call _ _ (exec_callN 86 #[.const (.int .i64 3), .tmp 13, .tmp 15, .func 89] (.tmp 11) #[3, 3, 3, 142] #[.pointer (some ⟨w.heap.size + 1, 0, none⟩)] #[.int .i64 3, .int .i64 (D : Int), .int .i64 (D : Int), .func (.func 89) #[] #[]] rfl rfl (by simp only [List.map_toArray, List.map_cons, List.map_nil]; rfl) (cf Try.func86 (by kernel_rfl) (by kernel_rfl) _ _)) ((mat_any W (w.heap.size + 1) 89 3 y (D : Int) (D : Int) (HX.out.later hC).y).mono fun e W2 ⟨e1, e2, e3⟩ => ?_)
      exact ⟨_, e1, hC.trans (e3.mono hC.size), e3, fun k r c0 v f h => by cases h; exact ⟨_, by have := (HX.out.later hC).hi; omega, e2, rfl⟩, fun z hz => by cases hz⟩
    simp only [Act.put, List.setIfInBounds_toArray, List.set_cons_succ, List.set_cons_zero, Nat.reduceAdd]
    refine Tn.spec_cons (fun W hC hd => ⟨by rfl, ?_⟩) ?_
    · exact Tn.gives_val (.func (.func 86) #[] #[.pointer (some ⟨w.heap.size + 1, 0, none⟩)]) W (by rfl) ⟨hC, Below.refl _ _, (fun k r c0 v f h => by cases h), fun z hz => by cases hz; rfl⟩
    simp only [Act.put, List.setIfInBounds_toArray, List.set_cons_succ, List.set_cons_zero, Nat.reduceAdd]
    rw [h8]
    refine Tn.spec_cons (fun W hC hd => ⟨by rfl, ?_⟩) ?_
    · exact Tn.gives_val (.pointer (some ⟨w.heap.size, 1, none⟩)) W (exec_cfg1 (.tmp 2) rfl w.heap.size rfl) ⟨hC, Below.refl _ _, (fun k r c0 v f h => by cases h), fun z hz => by cases hz; rfl⟩
    simp only [Act.put, List.setIfInBounds_toArray, List.set_cons_succ, List.set_cons_zero, Nat.reduceAdd]
    rw [h9]
    refine Tn.spec_cons (fun W hC hd => ⟨by rfl, ?_⟩) ?_
    · exact Tn.gives_val (.int .i64 (D : Int)) W (Bp.exec_load1 3 (.tmp 18) rfl ⟨w.heap.size, 1, none⟩ rfl _ (HX.out.later hC).d _ Try.underlying3 rfl) ⟨hC, Below.refl _ _, (fun k r c0 v f h => by cases h), fun z hz => by cases hz; rfl⟩
    simp only [Act.put, List.setIfInBounds_toArray, List.set_cons_succ, List.set_cons_zero, Nat.reduceAdd]
    rw [h10]
    refine Tn.spec_cons (fun W hC hd => ⟨by rfl, ?_⟩) ?_
    · exact Tn.gives_val (.pointer (some ⟨w.heap.size, 1, none⟩)) W (exec_cfg1 (.tmp 2) rfl w.heap.size rfl) ⟨hC, Below.refl _ _, (fun k r c0 v f h => by cases h), fun z hz => by cases hz; rfl⟩
    simp only [Act.put, List.setIfInBounds_toArray, List.set_cons_succ, List.set_cons_zero, Nat.reduceAdd]
    rw [h11]
    refine Tn.spec_cons (fun W hC hd => ⟨by rfl, ?_⟩) ?_
    · exact Tn.gives_val (.int .i64 (D : Int)) W (Bp.exec_load1 3 (.tmp 20) rfl ⟨w.heap.size, 1, none⟩ rfl _ (HX.out.later hC).d _ Try.underlying3 rfl) ⟨hC, Below.refl _ _, (fun k r c0 v f h => by cases h), fun z hz => by cases hz; rfl⟩
    simp only [Act.put, List.setIfInBounds_toArray, List.set_cons_succ, List.set_cons_zero, Nat.reduceAdd]
    rw [h12]
    refine Tn.spec_cons (fun W hC hd => ⟨by rfl, ?_⟩) ?_
    · refine Tn.gives_call _ _ (exec_callN 86 #[.const (.int .i64 4), .tmp 19, .tmp 21, .func 90] (.tmp 17) #[3, 3, 3, 142] #[.pointer (some ⟨w.heap.size + 1, 0, none⟩)] #[.int .i64 4, .int .i64 (D : Int), .int .i64 (D : Int), .func (.func 90) #[] #[]] rfl rfl (by simp only [List.map_toArray, List.map_cons, List.map_nil]; rfl) (cf Try.func86 (by kernel_rfl) (by kernel_rfl) _ _)) ((mat_any W (w.heap.size + 1) 90 4 y (D : Int) (D : Int) (HX.out.later hC).y).mono fun e W2 ⟨e1, e2, e3⟩ => ?_)
      exact ⟨_, e1, hC.trans (e3.mono hC.size), e3, fun k r c0 v f h => by cases h; exact ⟨_, by have := (HX.out.later hC).hi; omega, e2, rfl⟩, fun z hz => by cases hz⟩
    simp only [Act.put, List.setIfInBounds_toArray, List.set_cons_succ, List.set_cons_zero, Nat.reduceAdd]
    refine Tn.spec_cons (fun W hC hd => ⟨by rfl, ?_⟩) ?_
    · exact Tn.gives_val (.func (.func 86) #[] #[.pointer (some ⟨w.heap.size + 1, 0, none⟩)]) W (by rfl) ⟨hC, Below.refl _ _, (fun k r c0 v f h => by cases h), fun z hz => by cases hz; rfl⟩
    simp only [Act.put, List.setIfInBounds_toArray, List.set_cons_succ, List.set_cons_zero, Nat.reduceAdd]
    rw [h14]
    refine Tn.spec_cons (fun W hC hd => ⟨by rfl, ?_⟩) ?_
    · exact Tn.gives_val (.pointer (some ⟨w.heap.size, 1, none⟩)) W (exec_cfg1 (.tmp 2) rfl w.heap.size rfl) ⟨hC, Below.refl _ _, (fun k r c0 v f h => by cases h), fun z hz => by cases hz; rfl⟩
    simp only [Act.put, List.setIfInBounds_toArray, List.set_cons_succ, List.set_cons_zero, Nat.reduceAdd]
    rw [h15]
    refine Tn.spec_cons (fun W hC hd => ⟨by rfl, ?_⟩) ?_
    · exact Tn.gives_val (.int .i64 (D : Int)) W (Bp.exec_load1 3 (.tmp 24) rfl ⟨w.heap.size, 1, none⟩ rfl _ (HX.out.later hC).d _ Try.underlying3 rfl) ⟨hC, Below.refl _ _, (fun k r c0 v f h => by cases h), fun z hz => by cases hz; rfl⟩
    simp only [Act.put, List.setIfInBounds_toArray, List.set_cons_succ, List.set_cons_zero, Nat.reduceAdd]
    rw [h16]
    refine Tn.spec_cons (fun W hC hd => ⟨by rfl, ?_⟩) ?_
    · exact Tn.gives_val (.pointer (some ⟨w.heap.size, 1, none⟩)) W (exec_cfg1 (.tmp 2) rfl w.heap.size rfl) ⟨hC, Below.refl _ _, (fun k r c0 v f h => by cases h), fun z hz => by cases hz; rfl⟩
    simp only [Act.put, List.setIfInBounds_toArray, List.set_cons_succ, List.set_cons_zero, Nat.reduceAdd]
    rw [h17]
    refine Tn.spec_cons (fun W hC hd => ⟨by rfl, ?_⟩) ?_
    · exact Tn.gives_val (.int .i64 (D : Int)) W (Bp.exec_load1 3 (.tmp 26) rfl ⟨w.heap.size, 1, none⟩ rfl _ (HX.out.later hC).d _ Try.underlying3 rfl) ⟨hC, Below.refl _ _, (fun k r c0 v f h => by cases h), fun z hz => by cases hz; rfl⟩
    simp only [Act.put, List.setIfInBounds_toArray, List.set_cons_succ, List.set_cons_zero, Nat.reduceAdd]
    rw [h18]
    refine Tn.spec_cons (fun W hC hd => ⟨by rfl, ?_⟩) ?_
    · refine Tn.gives_call _ _ (exec_callN 86 #[.const (.int .i64 5), .tmp 25, .tmp 27, .func 91] (.tmp 23) #[3, 3, 3, 142] #[.pointer (some ⟨w.heap.size + 1, 0, none⟩)] #[.int .i64 5, .int .i64 (D : Int), .int .i64 (D : Int), .func (.func 91) #[] #[]] rfl rfl (by simp only [List.map_toArray, List.map_cons, List.map_nil]; rfl) (cf Try.func86 (by kernel_rfl) (by kernel_rfl) _ _)) ((mat_any W (w.heap.size + 1) 91 5 y (D : Int) (D : Int) (HX.out.later hC).y).mono fun e W2 ⟨e1, e2, e3⟩ => ?_)
      exact ⟨_, e1, hC.trans (e3.mono hC.size), e3, fun k r c0 v f h => by cases h; exact ⟨_, by have := (HX.out.later hC).hi; omega, e2, rfl⟩, fun z hz => by cases hz⟩
    simp only [Act.put, List.setIfInBounds_toArray, List.set_cons_succ, List.set_cons_zero, Nat.reduceAdd]
    refine Tn.spec_cons (fun W hC hd => ⟨by rfl, ?_⟩) ?_
    · exact Tn.gives_val (.func (.func 86) #[] #[.pointer (some ⟨w.heap.size + 1, 0, none⟩)]) W (by rfl) ⟨hC, Below.refl _ _, (fun k r c0 v f h => by cases h), fun z hz => by cases hz; rfl⟩
    simp only [Act.put, List.setIfInBounds_toArray, List.set_cons_succ, List.set_cons_zero, Nat.reduceAdd]
    rw [h20]
    refine Tn.spec_cons (fun W hC hd => ⟨by rfl, ?_⟩) ?_
    · exact Tn.gives_val (.pointer (some ⟨w.heap.size, 1, none⟩)) W (exec_cfg1 (.tmp 2) rfl w.heap.size rfl) ⟨hC, Below.refl _ _, (fun k r c0 v f h => by cases h), fun z hz => by cases hz; rfl⟩
    simp only [Act.put, List.setIfInBounds_toArray, List.set_cons_succ, List.set_cons_zero, Nat.reduceAdd]
    rw [h21]
    refine Tn.spec_cons (fun W hC hd => ⟨by rfl, ?_⟩) ?_
    · exact Tn.gives_val (.int .i64 (D : Int)) W (Bp.exec_load1 3 (.tmp 30) rfl ⟨w.heap.size, 1, none⟩ rfl _ (HX.out.later hC).d _ Try.underlying3 rfl) ⟨hC, Below.refl _ _, (fun k r c0 v f h => by cases h), fun z hz => by cases hz; rfl⟩
    simp only [Act.put, List.setIfInBounds_toArray, List.set_cons_succ, List.set_cons_zero, Nat.reduceAdd]
    rw [h22]
    refine Tn.spec_cons (fun W hC hd => ⟨by rfl, ?_⟩) ?_
    · exact Tn.gives_val (.pointer (some ⟨w.heap.size, 1, none⟩)) W (exec_cfg1 (.tmp 2) rfl w.heap.size rfl) ⟨hC, Below.refl _ _, (fun k r c0 v f h => by cases h), fun z hz => by cases hz; rfl⟩
    simp only [Act.put, List.setIfInBounds_toArray, List.set_cons_succ, List.set_cons_zero, Nat.reduceAdd]
    rw [h23]
    refine Tn.spec_cons (fun W hC hd => ⟨by rfl, ?_⟩) ?_
    · exact Tn.gives_val (.int .i64 (D : Int)) W (Bp.exec_load1 3 (.tmp 32) rfl ⟨w.heap.size, 1, none⟩ rfl _ (HX.out.later hC).d _ Try.underlying3 rfl) ⟨hC, Below.refl _ _, (fun k r c0 v f h => by cases h), fun z hz => by cases hz; rfl⟩
    simp only [Act.put, List.setIfInBounds_toArray, List.set_cons_succ, List.set_cons_zero, Nat.reduceAdd]
    rw [h24]
    refine Tn.spec_cons (fun W hC hd => ⟨by rfl, ?_⟩) ?_
    · refine Tn.gives_call _ _ (exec_callN 86 #[.const (.int .i64 6), .tmp 31, .tmp 33, .func 92] (.tmp 29) #[3, 3, 3, 142] #[.pointer (some ⟨w.heap.size + 1, 0, none⟩)] #[.int .i64 6, .int .i64 (D : Int), .int .i64 (D : Int), .func (.func 92) #[] #[]] rfl rfl (by simp only [List.map_toArray, List.map_cons, List.map_nil]; rfl) (cf Try.func86 (by kernel_rfl) (by kernel_rfl) _ _)) ((mat_any W (w.heap.size + 1) 92 6 y (D : Int) (D : Int) (HX.out.later hC).y).mono fun e W2 ⟨e1, e2, e3⟩ => ?_)
      exact ⟨_, e1, hC.trans (e3.mono hC.size), e3, fun k r c0 v f h => by cases h; exact ⟨_, by have := (HX.out.later hC).hi; omega, e2, rfl⟩, fun z hz => by cases hz⟩
    simp only [Act.put, List.setIfInBounds_toArray, List.set_cons_succ, List.set_cons_zero, Nat.reduceAdd]
    refine Tn.spec_cons (fun W hC hd => ⟨by rfl, ?_⟩) ?_
    · exact Tn.gives_val (.func (.func 84) #[] #[.pointer (some ⟨w.heap.size + 1, 0, none⟩), .pointer (some ⟨w.heap.size, 0, none⟩)]) W (by rfl) ⟨hC, Below.refl _ _, (fun k r c0 v f h => by cases h), fun z hz => by cases hz; rfl⟩
    simp only [Act.put, List.setIfInBounds_toArray, List.set_cons_succ, List.set_cons_zero, Nat.reduceAdd]
    rw [h26]
    refine Tn.spec_cons (fun W hC hd => ⟨by rfl, ?_⟩) ?_
    · refine Tn.gives_call _ _ (exec_callN 84 #[.const (.int .i64 7), .func 93] (.tmp 35) #[3, 140] #[.pointer (some ⟨w.heap.size + 1, 0, none⟩), .pointer (some ⟨w.heap.size, 0, none⟩)] #[.int .i64 7, .func (.func 93) #[] #[]] rfl rfl (by simp only [List.map_toArray, List.map_cons, List.map_nil]; rfl) (cf Try.func84 (by kernel_rfl) (by kernel_rfl) _ _)) ((vec_any W (w.heap.size + 1) w.heap.size 93 7 y D (HX.out.later hC).y (HX.out.later hC).d).mono fun e W2 ⟨e1, e2, e3⟩ => ?_)
      exact ⟨_, e1, hC.trans (e3.mono hC.size), e3, fun k r c0 v f h => by cases h; exact ⟨_, by have := (HX.out.later hC).hi; omega, e2, rfl⟩, fun z hz => by cases hz⟩
    simp only [Act.put, List.setIfInBounds_toArray, List.set_cons_succ, List.set_cons_zero, Nat.reduceAdd]
    refine Tn.spec_cons (fun W hC hd => ⟨by rfl, ?_⟩) ?_
    · exact Tn.gives_val (.func (.func 86) #[] #[.pointer (some ⟨w.heap.size + 1, 0, none⟩)]) W (by rfl) ⟨hC, Below.refl _ _, (fun k r c0 v f h => by cases h), fun z hz => by cases hz; rfl⟩
    simp only [Act.put, List.setIfInBounds_toArray, List.set_cons_succ, List.set_cons_zero, Nat.reduceAdd]
    rw [h28]
    refine Tn.spec_cons (fun W hC hd => ⟨by rfl, ?_⟩) ?_
    · exact Tn.gives_val (.pointer (some ⟨w.heap.size, 5, none⟩)) W (exec_cfg5 (.tmp 2) rfl w.heap.size rfl) ⟨hC, Below.refl _ _, (fun k r c0 v f h => by cases h), fun z hz => by cases hz; rfl⟩
    simp only [Act.put, List.setIfInBounds_toArray, List.set_cons_succ, List.set_cons_zero, Nat.reduceAdd]
    rw [h29]
    refine Tn.spec_cons (fun W hC hd => ⟨by rfl, ?_⟩) ?_
    · exact Tn.gives_val (.int .i64 (I : Int)) W (Bp.exec_load1 3 (.tmp 38) rfl ⟨w.heap.size, 5, none⟩ rfl _ (HX.out.later hC).i _ Try.underlying3 rfl) ⟨hC, Below.refl _ _, (fun k r c0 v f h => by cases h), fun z hz => by cases hz; rfl⟩
    simp only [Act.put, List.setIfInBounds_toArray, List.set_cons_succ, List.set_cons_zero, Nat.reduceAdd]
    rw [h30]
    refine Tn.spec_cons (fun W hC hd => ⟨by rfl, ?_⟩) ?_
    · exact Tn.gives_val (.pointer (some ⟨w.heap.size, 1, none⟩)) W (exec_cfg1 (.tmp 2) rfl w.heap.size rfl) ⟨hC, Below.refl _ _, (fun k r c0 v f h => by cases h), fun z hz => by cases hz; rfl⟩
    simp only [Act.put, List.setIfInBounds_toArray, List.set_cons_succ, List.set_cons_zero, Nat.reduceAdd]
    rw [h31]
    refine Tn.spec_cons (fun W hC hd => ⟨by rfl, ?_⟩) ?_
    · exact Tn.gives_val (.int .i64 (D : Int)) W (Bp.exec_load1 3 (.tmp 40) rfl ⟨w.heap.size, 1, none⟩ rfl _ (HX.out.later hC).d _ Try.underlying3 rfl) ⟨hC, Below.refl _ _, (fun k r c0 v f h => by cases h), fun z hz => by cases hz; rfl⟩
    simp only [Act.put, List.setIfInBounds_toArray, List.set_cons_succ, List.set_cons_zero, Nat.reduceAdd]
    rw [h32]
    refine Tn.spec_cons (fun W hC hd => ⟨by rfl, ?_⟩) ?_
    · refine Tn.gives_call _ _ (exec_callN 86 #[.const (.int .i64 8), .tmp 39, .tmp 41, .func 94] (.tmp 37) #[3, 3, 3, 142] #[.pointer (some ⟨w.heap.size + 1, 0, none⟩)] #[.int .i64 8, .int .i64 (I : Int), .int .i64 (D : Int), .func (.func 94) #[] #[]] rfl rfl (by simp only [List.map_toArray, List.map_cons, List.map_nil]; rfl) (cf Try.func86 (by kernel_rfl) (by kernel_rfl) _ _)) ((mat_any W (w.heap.size + 1) 94 8 y (I : Int) (D : Int) (HX.out.later hC).y).mono fun e W2 ⟨e1, e2, e3⟩ => ?_)
      exact ⟨_, e1, hC.trans (e3.mono hC.size), e3, fun k r c0 v f h => by cases h; exact ⟨_, by have := (HX.out.later hC).hi; omega, e2, rfl⟩, fun z hz => by cases hz⟩
    simp only [Act.put, List.setIfInBounds_toArray, List.set_cons_succ, List.set_cons_zero, Nat.reduceAdd]
    refine Tn.spec_cons (fun W hC hd => ⟨by rfl, ?_⟩) ?_
    · exact Tn.gives_val (.func (.func 86) #[] #[.pointer (some ⟨w.heap.size + 1, 0, none⟩)]) W (by rfl) ⟨hC, Below.refl _ _, (fun k r c0 v f h => by cases h), fun z hz => by cases hz; rfl⟩
    simp only [Act.put, List.setIfInBounds_toArray, List.set_cons_succ, List.set_cons_zero, Nat.reduceAdd]
    rw [h34]
    refine Tn.spec_cons (fun W hC hd => ⟨by rfl, ?_⟩) ?_
    · exact Tn.gives_val (.pointer (some ⟨w.heap.size, 5, none⟩)) W (exec_cfg5 (.tmp 2) rfl w.heap.size rfl) ⟨hC, Below.refl _ _, (fun k r c0 v f h => by cases h), fun z hz => by cases hz; rfl⟩
    simp only [Act.put, List.setIfInBounds_toArray, List.set_cons_succ, List.set_cons_zero, Nat.reduceAdd]
    rw [h35]
    refine Tn.spec_cons (fun W hC hd => ⟨by rfl, ?_⟩) ?_
    · exact Tn.gives_val (.int .i64 (I : Int)) W (Bp.exec_load1 3 (.tmp 44) rfl ⟨w.heap.size, 5, none⟩ rfl _ (HX.out.later hC).i _ Try.underlying3 rfl) ⟨hC, Below.refl _ _, (fun k r c0 v f h => by cases h), fun z hz => by cases hz; rfl⟩
    simp only [Act.put, List.setIfInBounds_toArray, List.set_cons_succ, List.set_cons_zero, Nat.reduceAdd]
    rw [h36]
    refine Tn.spec_cons (fun W hC hd => ⟨by rfl, ?_⟩) ?_
    · exact Tn.gives_val (.pointer (some ⟨w.heap.size, 1, none⟩)) W (exec_cfg1 (.tmp 2) rfl w.heap.size rfl) ⟨hC, Below.refl _ _, (fun k r c0 v f h => by cases h), fun z hz => by cases hz; rfl⟩
    simp only [Act.put, List.setIfInBounds_toArray, List.set_cons_succ, List.set_cons_zero, Nat.reduceAdd]
    rw [h37]
    refine Tn.spec_cons (fun W hC hd => ⟨by rfl, ?_⟩) ?_
    · exact Tn.gives_val (.int .i64 (D : Int)) W (Bp.exec_load1 3 (.tmp 46) rfl ⟨w.heap.size, 1, none⟩ rfl _ (HX.out.later hC).d _ Try.underlying3 rfl) ⟨hC, Below.refl _ _, (fun k r c0 v f h => by cases h), fun z hz => by cases hz; rfl⟩
    simp only [Act.put, List.setIfInBounds_toArray, List.set_cons_succ, List.set_cons_zero, Nat.reduceAdd]
    rw [h38]
    refine Tn.spec_cons (fun W hC hd => ⟨by rfl, ?_⟩) ?_
    · refine Tn.gives_call _ _ (exec_callN 86 #[.const (.int .i64 9), .tmp 45, .tmp 47, .func 95] (.tmp 43) #[3, 3, 3, 142] #[.pointer (some ⟨w.heap.size + 1, 0, none⟩)] #[.int .i64 9, .int .i64 (I : Int), .int .i64 (D : Int), .func (.func 95) #[] #[]] rfl rfl (by simp only [List.map_toArray, List.map_cons, List.map_nil]; rfl) (cf Try.func86 (by kernel_rfl) (by kernel_rfl) _ _)) ((mat_any W (w.heap.size + 1) 95 9 y (I : Int) (D : Int) (HX.out.later hC).y).mono fun e W2 ⟨e1, e2, e3⟩ => ?_)
      exact ⟨_, e1, hC.trans (e3.mono hC.size), e3, fun k r c0 v f h => by cases h; exact ⟨_, by have := (HX.out.later hC).hi; omega, e2, rfl⟩, fun z hz => by cases hz⟩
    simp only [Act.put, List.setIfInBounds_toArray, List.set_cons_succ, List.set_cons_zero, Nat.reduceAdd]
    refine Tn.spec_cons (fun W hC hd => ⟨by rfl, ?_⟩) ?_
    · exact Tn.gives_val (.func (.func 86) #[] #[.pointer (some ⟨w.heap.size + 1, 0, none⟩)]) W (by rfl) ⟨hC, Below.refl _ _, (fun k r c0 v f h => by cases h), fun z hz => by cases hz; rfl⟩
    simp only [Act.put, List.setIfInBounds_toArray, List.set_cons_succ, List.set_cons_zero, Nat.reduceAdd]
    rw [h40]
    refine Tn.spec_cons (fun W hC hd => ⟨by rfl, ?_⟩) ?_
    · exact Tn.gives_val (.pointer (some ⟨w.heap.size, 1, none⟩)) W (exec_cfg1 (.tmp 2) rfl w.heap.size rfl) ⟨hC, Below.refl _ _, (fun k r c0 v f h => by cases h), fun z hz => by cases hz; rfl⟩
    simp only [Act.put, List.setIfInBounds_toArray, List.set_cons_succ, List.set_cons_zero, Nat.reduceAdd]
    rw [h41]
    refine Tn.spec_cons (fun W hC hd => ⟨by rfl, ?_⟩) ?_
    · exact Tn.gives_val (.int .i64 (D : Int)) W (Bp.exec_load1 3 (.tmp 50) rfl ⟨w.heap.size, 1, none⟩ rfl _ (HX.out.later hC).d _ Try.underlying3 rfl) ⟨hC, Below.refl _ _, (fun k r c0 v f h => by cases h), fun z hz => by cases hz; rfl⟩
    simp only [Act.put, List.setIfInBounds_toArray, List.set_cons_succ, List.set_cons_zero, Nat.reduceAdd]
    rw [h42]
    refine Tn.spec_cons (fun W hC hd => ⟨by rfl, ?_⟩) ?_
    · exact Tn.gives_val (.pointer (some ⟨w.heap.size, 5, none⟩)) W (exec_cfg5 (.tmp 2) rfl w.heap.size rfl) ⟨hC, Below.refl _ _, (fun k r c0 v f h => by cases h), fun z hz => by cases hz; rfl⟩
    simp only [Act.put, List.setIfInBounds_toArray, List.set_cons_succ, List.set_cons_zero, Nat.reduceAdd]
    rw [h43]
    refine Tn.spec_cons (fun W hC hd => ⟨by rfl, ?_⟩) ?_
    · exact Tn.gives_val (.int .i64 (I : Int)) W (Bp.exec_load1 3 (.tmp 52) rfl ⟨w.heap.size, 5, none⟩ rfl _ (HX.out.later hC).i _ Try.underlying3 rfl) ⟨hC, Below.refl _ _, (fun k r c0 v f h => by cases h), fun z hz => by cases hz; rfl⟩
    simp only [Act.put, List.setIfInBounds_toArray, List.set_cons_succ, List.set_cons_zero, Nat.reduceAdd]
    rw [h44]
    refine Tn.spec_cons (fun W hC hd => ⟨by rfl, ?_⟩) ?_
    · refine Tn.gives_call _ _ (exec_callN 86 #[.const (.int .i64 10), .tmp 51, .tmp 53, .func 96] (.tmp 49) #[3, 3, 3, 142] #[.pointer (some ⟨w.heap.size + 1, 0, none⟩)] #[.int .i64 10, .int .i64 (D : Int), .int .i64 (I : Int), .func (.func 96) #[] #[]] rfl rfl (by simp only [List.map_toArray, List.map_cons, List.map_nil]; rfl) (cf Try.func86 (by kernel_rfl) (by kernel_rfl) _ _)) ((mat_any W (w.heap.size + 1) 96 10 y (D : Int) (I : Int) (HX.out.later hC).y).mono fun e W2 ⟨e1, e2, e3⟩ => ?_)
      exact ⟨_, e1, hC.trans (e3.mono hC.size), e3, fun k r c0 v f h => by cases h; exact ⟨_, by have := (HX.out.later hC).hi; omega, e2, rfl⟩, fun z hz => by cases hz⟩
    simp only [Act.put, List.setIfInBounds_toArray, List.set_cons_succ, List.set_cons_zero, Nat.reduceAdd]
    exact Tn.spec_nil
  · intro u W hu hC hP
    have h0 : u 0 = .func (.func 84) #[] #[.pointer (some ⟨w.heap.size + 1, 0, none⟩), .pointer (some ⟨w.heap.size, 0, none⟩)] := hu 0 _ rfl
    have h2 : u 2 = .func (.func 86) #[] #[.pointer (some ⟨w.heap.size + 1, 0, none⟩)] := hu 2 _ rfl
    have h3 : u 3 = .pointer (some ⟨w.heap.size, 1, none⟩) := hu 3 _ rfl
    have h4 : u 4 = .int .i64 (D : Int) := hu 4 _ rfl
    have h5 : u 5 = .pointer (some ⟨w.heap.size, 1, none⟩) := hu 5 _ rfl
    have h6 : u 6 = .int .i64 (D : Int) := hu 6 _ rfl
    have h8 : u 8 = .func (.func 86) #[] #[.pointer (some ⟨w.heap.size + 1, 0, none⟩)] := hu 8 _ rfl
    have h9 : u 9 = .pointer (some ⟨w.heap.size, 1, none⟩) := hu 9 _ rfl
    have h10 : u 10 = .int .i64 (D : Int) := hu 10 _ rfl
    have h11 : u 11 = .pointer (some ⟨w.heap.size, 1, none⟩) := hu 11 _ rfl
    have h12 : u 12 = .int .i64 (D : Int) := hu 12 _ rfl
    have h14 : u 14 = .func (.func 86) #[] #[.pointer (some ⟨w.heap.size + 1, 0, none⟩)] := hu 14 _ rfl
    have h15 : u 15 = .pointer (some ⟨w.heap.size, 1, none⟩) := hu 15 _ rfl
    have h16 : u 16 = .int .i64 (D : Int) := hu 16 _ rfl
    have h17 : u 17 = .pointer (some ⟨w.heap.size, 1, none⟩) := hu 17 _ rfl
    have h18 : u 18 = .int .i64 (D : Int) := hu 18 _ rfl
    have h20 : u 20 = .func (.func 86) #[] #[.pointer (some ⟨w.heap.size + 1, 0, none⟩)] := hu 20 _ rfl
    have h21 : u 21 = .pointer (some ⟨w.heap.size, 1, none⟩) := hu 21 _ rfl
    have h22 : u 22 = .int .i64 (D : Int) := hu 22 _ rfl
    have h23 : u 23 = .pointer (some ⟨w.heap.size, 1, none⟩) := hu 23 _ rfl
    have h24 : u 24 = .int .i64 (D : Int) := hu 24 _ rfl
    have h26 : u 26 = .func (.func 84) #[] #[.pointer (some ⟨w.heap.size + 1, 0, none⟩), .pointer (some ⟨w.heap.size, 0, none⟩)] := hu 26 _ rfl
    have h28 : u 28 = .func (.func 86) #[] #[.pointer (some ⟨w.heap.size + 1, 0, none⟩)] := hu 28 _ rfl
    have h29 : u 29 = .pointer (some ⟨w.heap.size, 5, none⟩) := hu 29 _ rfl
    have h30 : u 30 = .int .i64 (I : Int) := hu 30 _ rfl
    have h31 : u 31 = .pointer (some ⟨w.heap.size, 1, none⟩) := hu 31 _ rfl
    have h32 : u 32 = .int .i64 (D : Int) := hu 32 _ rfl
    have h34 : u 34 = .func (.func 86) #[] #[.pointer (some ⟨w.heap.size + 1, 0, none⟩)] := hu 34 _ rfl
    have h35 : u 35 = .pointer (some ⟨w.heap.size, 5, none⟩) := hu 35 _ rfl
    have h36 : u 36 = .int .i64 (I : Int) := hu 36 _ rfl
    have h37 : u 37 = .pointer (some ⟨w.heap.size, 1, none⟩) := hu 37 _ rfl
    have h38 : u 38 = .int .i64 (D : Int) := hu 38 _ rfl
    have h40 : u 40 = .func (.func 86) #[] #[.pointer (some ⟨w.heap.size + 1, 0, none⟩)] := hu 40 _ rfl
    have h41 : u 41 = .pointer (some ⟨w.heap.size, 1, none⟩) := hu 41 _ rfl
    have h42 : u 42 = .int .i64 (D : Int) := hu 42 _ rfl
    have h43 : u 43 = .pointer (some ⟨w.heap.size, 5, none⟩) := hu 43 _ rfl
    have h44 : u 44 = .int .i64 (I : Int) := hu 44 _ rfl
    obtain ⟨b1, l1, r1, e1⟩ := (hP 1 (by decide)).1 _ _ _ _ _ rfl
    simp only [if_true] at r1 e1
    obtain ⟨b7, l7, r7, e7⟩ := (hP 7 (by decide)).1 _ _ _ _ _ rfl
    simp only [Bool.false_eq_true, if_false] at r7 e7
    obtain ⟨b13, l13, r13, e13⟩ := (hP 13 (by decide)).1 _ _ _ _ _ rfl
    simp only [Bool.false_eq_true, if_false] at r13 e13
    obtain ⟨b19, l19, r19, e19⟩ := (hP 19 (by decide)).1 _ _ _ _ _ rfl
    simp only [Bool.false_eq_true, if_false] at r19 e19
    obtain ⟨b25, l25, r25, e25⟩ := (hP 25 (by decide)).1 _ _ _ _ _ rfl
    simp only [Bool.false_eq_true, if_false] at r25 e25
    obtain ⟨b27, l27, r27, e27⟩ := (hP 27 (by decide)).1 _ _ _ _ _ rfl
    simp only [if_true] at r27 e27
    obtain ⟨b33, l33, r33, e33⟩ := (hP 33 (by decide)).1 _ _ _ _ _ rfl
    simp only [Bool.false_eq_true, if_false] at r33 e33
    obtain ⟨b39, l39, r39, e39⟩ := (hP 39 (by decide)).1 _ _ _ _ _ rfl
    simp only [Bool.false_eq_true, if_false] at r39 e39
    obtain ⟨b45, l45, r45, e45⟩ := (hP 45 (by decide)).1 _ _ _ _ _ rfl
    simp only [Bool.false_eq_true, if_false] at r45 e45
    simp only [List.take_succ_cons, List.take_zero, List.drop_succ_cons, List.drop_zero, Tn.putAll, Act.put, List.setIfInBounds_toArray, List.set_cons_succ, List.set_cons_zero, Nat.reduceAdd]
    rw [h0, e1, h2, h3, h4, h5, h6, e7, h8, h9, h10, h11, h12, e13, h14, h15, h16, h17, h18, e19, h20, h21, h22, h23, h24, e25, h26, e27, h28, h29, h30, h31, h32, e33, h34, h35, h36, h37, h38, e39, h40, h41, h42, h43, h44, e45]
    have HC := Lib.hid hC
    have R1 := Lib.hid r1
    have L1 := Lib.hid l1
    have R7 := Lib.hid r7
    have L7 := Lib.hid l7
    have R13 := Lib.hid r13
    have L13 := Lib.hid l13
    have R19 := Lib.hid r19
    have L19 := Lib.hid l19
    have R25 := Lib.hid r25
    have L25 := Lib.hid l25
    have R27 := Lib.hid r27
    have L27 := Lib.hid l27
    have R33 := Lib.hid r33
    have L33 := Lib.hid l33
    have R39 := Lib.hid r39
    have L39 := Lib.hid l39
    have R45 := Lib.hid r45
    have L45 := Lib.hid l45
    clear hu hC hP h0 h2 h3 h4 h5 h6 h8 h9 h10 h11 h12 h14 h15 h16 h17 h18 h20 h21 h22 h23 h24 h26 h28 h29 h30 h31 h32 h34 h35 h36 h37 h38 h40 h41 h42 h43 h44 r1 l1 e1 r7 l7 e7 r13 l13 e13 r19 l19 e19 r25 l25 e25 r27 l27 e27 r33 l33 e33 r39 l39 e39 r45 l45 e45
    unfold blV
    go_wp2
    go_ret
    refine ⟨W.heap.size, [⟨⟨2, y, 1, D⟩, .func (.func 85) #[] #[.pointer (some ⟨b1, 0, none⟩), .pointer (some ⟨w.heap.size + 1, 0, none⟩)], .nilFunc⟩, ⟨⟨3, y, D, D⟩, .nilFunc, .func (.func 87) #[] #[.pointer (some ⟨b7, 0, none⟩), .pointer (some ⟨w.heap.size + 1, 0, none⟩)]⟩, ⟨⟨4, y, D, D⟩, .nilFunc, .func (.func 87) #[] #[.pointer (some ⟨b13, 0, none⟩), .pointer (some ⟨w.heap.size + 1, 0, none⟩)]⟩, ⟨⟨5, y, D, D⟩, .nilFunc, .func (.func 87) #[] #[.pointer (some ⟨b19, 0, none⟩), .pointer (some ⟨w.heap.size + 1, 0, none⟩)]⟩, ⟨⟨6, y, D, D⟩, .nilFunc, .func (.func 87) #[] #[.pointer (some ⟨b25, 0, none⟩), .pointer (some ⟨w.heap.size + 1, 0, none⟩)]⟩, ⟨⟨7, y, 1, D⟩, .func (.func 85) #[] #[.pointer (some ⟨b27, 0, none⟩), .pointer (some ⟨w.heap.size + 1, 0, none⟩)], .nilFunc⟩, ⟨⟨8, y, I, D⟩, .nilFunc, .func (.func 87) #[] #[.pointer (some ⟨b33, 0, none⟩), .pointer (some ⟨w.heap.size + 1, 0, none⟩)]⟩, ⟨⟨9, y, I, D⟩, .nilFunc, .func (.func 87) #[] #[.pointer (some ⟨b39, 0, none⟩), .pointer (some ⟨w.heap.size + 1, 0, none⟩)]⟩, ⟨⟨10, y, D, I⟩, .nilFunc, .func (.func 87) #[] #[.pointer (some ⟨b45, 0, none⟩), .pointer (some ⟨w.heap.size + 1, 0, none⟩)]⟩], rfl, by have h1 := HX.out.below.size; have h2 := HC.out.size; omega, ⟨?_, ?_, ?_⟩, (HX.out.below.trans (HC.out.mono HX.out.below.size)).trans (((Below.refl _ _).alloc (Nat.le_refl _) _).mono (by have := HX.out.below.size; have := HC.out.size; omega))⟩
    · exact heap_alloc_new _ _
    · rfl
    · have hba : Below W.heap.size W (W.alloc (.cells (List.flatMap (fun x : Bk => x.cells.toList) ([⟨⟨2, y, 1, D⟩, .func (.func 85) #[] #[.pointer (some ⟨b1, 0, none⟩), .pointer (some ⟨w.heap.size + 1, 0, none⟩)], .nilFunc⟩, ⟨⟨3, y, D, D⟩, .nilFunc, .func (.func 87) #[] #[.pointer (some ⟨b7, 0, none⟩), .pointer (some ⟨w.heap.size + 1, 0, none⟩)]⟩, ⟨⟨4, y, D, D⟩, .nilFunc, .func (.func 87) #[] #[.pointer (some ⟨b13, 0, none⟩), .pointer (some ⟨w.heap.size + 1, 0, none⟩)]⟩, ⟨⟨5, y, D, D⟩, .nilFunc, .func (.func 87) #[] #[.pointer (some ⟨b19, 0, none⟩), .pointer (some ⟨w.heap.size + 1, 0, none⟩)]⟩, ⟨⟨6, y, D, D⟩, .nilFunc, .func (.func 87) #[] #[.pointer (some ⟨b25, 0, none⟩), .pointer (some ⟨w.heap.size + 1, 0, none⟩)]⟩, ⟨⟨7, y, 1, D⟩, .func (.func 85) #[] #[.pointer (some ⟨b27, 0, none⟩), .pointer (some ⟨w.heap.size + 1, 0, none⟩)], .nilFunc⟩, ⟨⟨8, y, I, D⟩, .nilFunc, .func (.func 87) #[] #[.pointer (some ⟨b33, 0, none⟩), .pointer (some ⟨w.heap.size + 1, 0, none⟩)]⟩, ⟨⟨9, y, I, D⟩, .nilFunc, .func (.func 87) #[] #[.pointer (some ⟨b39, 0, none⟩), .pointer (some ⟨w.heap.size + 1, 0, none⟩)]⟩, ⟨⟨10, y, D, I⟩, .nilFunc, .func (.func 87) #[] #[.pointer (some ⟨b45, 0, none⟩), .pointer (some ⟨w.heap.size + 1, 0, none⟩)]⟩])).toArray 117)) := (Below.refl _ _).alloc (Nat.le_refl _) _
      have HY := HX.out.later HC.out
      intro x hx
      simp only [List.mem_cons, List.not_mem_nil, or_false] at hx
      rcases hx with rfl | rfl | rfl | rfl | rfl | rfl | rfl | rfl | rfl
      · exact ⟨b1, w.heap.size + 1, by have := L1.out; omega, by omega, (hba.block _ (Array.getElem?_eq_some_iff.1 R1.out).1).trans R1.out, (hba.block _ (Array.getElem?_eq_some_iff.1 HY.ly).1).trans HY.ly, fun _ => ⟨rfl, rfl⟩, fun h => by cases h⟩
      · exact ⟨b7, w.heap.size + 1, by have := L7.out; omega, by omega, (hba.block _ (Array.getElem?_eq_some_iff.1 R7.out).1).trans R7.out, (hba.block _ (Array.getElem?_eq_some_iff.1 HY.ly).1).trans HY.ly, (fun h => by cases h), fun _ => ⟨rfl, rfl⟩⟩
      · exact ⟨b13, w.heap.size + 1, by have := L13.out; omega, by omega, (hba.block _ (Array.getElem?_eq_some_iff.1 R13.out).1).trans R13.out, (hba.block _ (Array.getElem?_eq_some_iff.1 HY.ly).1).trans HY.ly, (fun h => by cases h), fun _ => ⟨rfl, rfl⟩⟩
      · exact ⟨b19, w.heap.size + 1, by have := L19.out; omega, by omega, (hba.block _ (Array.getElem?_eq_some_iff.1 R19.out).1).trans R19.out, (hba.block _ (Array.getElem?_eq_some_iff.1 HY.ly).1).trans HY.ly, (fun h => by cases h), fun _ => ⟨rfl, rfl⟩⟩
      · exact ⟨b25, w.heap.size + 1, by have := L25.out; omega, by omega, (hba.block _ (Array.getElem?_eq_some_iff.1 R25.out).1).trans R25.out, (hba.block _ (Array.getElem?_eq_some_iff.1 HY.ly).1).trans HY.ly, (fun h => by cases h), fun _ => ⟨rfl, rfl⟩⟩
      · exact ⟨b27, w.heap.size + 1, by have := L27.out; omega, by omega, (hba.block _ (Array.getElem?_eq_some_iff.1 R27.out).1).trans R27.out, (hba.block _ (Array.getElem?_eq_some_iff.1 HY.ly).1).trans HY.ly, fun _ => ⟨rfl, rfl⟩, fun h => by cases h⟩
      · exact ⟨b33, w.heap.size + 1, by have := L33.out; omega, by omega, (hba.block _ (Array.getElem?_eq_some_iff.1 R33.out).1).trans R33.out, (hba.block _ (Array.getElem?_eq_some_iff.1 HY.ly).1).trans HY.ly, (fun h => by cases h), fun _ => ⟨rfl, rfl⟩⟩
      · exact ⟨b39, w.heap.size + 1, by have := L39.out; omega, by omega, (hba.block _ (Array.getElem?_eq_some_iff.1 R39.out).1).trans R39.out, (hba.block _ (Array.getElem?_eq_some_iff.1 HY.ly).1).trans HY.ly, (fun h => by cases h), fun _ => ⟨rfl, rfl⟩⟩
      · exact ⟨b45, w.heap.size + 1, by have := L45.out; omega, by omega, (hba.block _ (Array.getElem?_eq_some_iff.1 R45.out).1).trans R45.out, (hba.block _ (Array.getElem?_eq_some_iff.1 HY.ly).1).trans HY.ly, (fun h => by cases h), fun _ => ⟨rfl, rfl⟩⟩
end Go.Proofs.Ytdffbjjiojheoaa.Wg
