import Derived.Test.YtmolkbmdfkeniaaDoorNb
import Derived.Test.YtmolkbmdfkeniaaDoorTb
import Derived.Deep.MidRow
import Derived.Laws.Tables
namespace Go.Proofs.YtmolkbmdfkeniaaDoor.Dr
set_option maxRecDepth 100000
open Go.ChangeShapes Go.WideShapes Go.ChangeAt Go.RowKit Go.Proofs.YtmolkbmdfkeniaaDoor.Tn

/-! ### streams in memory -/
/-- a stream's cells -/
def rowS (s : List Int) (c : Int) : Array Value := (s.map (Value.int .u8) ++ [Value.int .i64 c]).toArray
theorem rowS_size {s : List Int} (hs : s.length = 32) (c : Int) : (rowS s c).size = 33 := by simp [rowS, hs]
theorem rowS_count {s : List Int} (hs : s.length = 32) (c : Int) : (rowS s c)[32]? = some (.int .i64 c) := by simp [rowS, hs]
theorem rowS_seed {s : List Int} (_hs : s.length = 32) (c : Int) (j : Nat) (v : Value) (h : (s.map (Value.int .u8))[j]? = some v) : (rowS s c)[j]? = some v := by
  have hj := (List.getElem?_eq_some_iff.1 h).1
  unfold rowS
  rw [List.getElem?_toArray, List.getElem?_append_left hj, h]
theorem rowS_set {s : List Int} (hs : s.length = 32) (c x : Int) : (rowS s c).setIfInBounds 32 (.int .i64 x) = rowS s x := by
  apply Array.ext'
  simp only [rowS, Array.toList_setIfInBounds]
  rw [List.set_append_right _ _ (by simp [hs])]
  simp [hs]
structure St8 (w : World) (g : Nat) (s : List Int) (c : Int) : Prop where
  row : w.heap[g]? = some (.cells (rowS s c) 55 (0, 0))
  seed : Seed s
  rng : 0 ≤ c ∧ c ≤ mostC
  far : 2 < g
theorem St8.lt {w : World} {g : Nat} {s : List Int} {c : Int} (h : St8 w g s c) : g < w.heap.size := (Array.getElem?_eq_some_iff.1 h.row).1
theorem St8.later {w w' : World} {g : Nat} {s : List Int} {c : Int} (h : St8 w g s c) (hb : Below w.heap.size w w') : St8 w' g s c := ⟨(hb.block _ h.lt).trans h.row, h.seed, h.rng, h.far⟩
theorem St8.apart {w w' : World} {g k : Nat} {s : List Int} {c : Int} (h : St8 w g s c) (hb : w.grownBy w' (some k)) (hne : g ≠ k) : St8 w' g s c := ⟨(hb.block _ h.lt (fun e => hne (Option.some.inj e))).trans h.row, h.seed, h.rng, h.far⟩
theorem St8.count {w : World} {g : Nat} {s : List Int} {c : Int} (h : St8 w g s c) : w.cell? ⟨g, 32, none⟩ = some (.int .i64 c) := by rw [cell_of_row _ _ _ _ _ _ h.row, rowS_count h.seed.1]
theorem St8.free {w : World} {g : Nat} {s : List Int} {c : Int} (h : St8 w g s c) : w.frozen? ⟨g, 32, none⟩ = false := frozen_of_row _ _ _ _ _ h.row
theorem St8.digest {w : World} {g : Nat} {s : List Int} {c : Int} (h : St8 w g s c) : w.rangeAt g 0 (s.map (Value.int .u8)) := fun j v hv => by
  rw [Nat.zero_add, cell_of_row _ _ _ _ _ _ h.row]
  exact rowS_seed h.seed.1 c j v hv
theorem St8.put {w : World} {g : Nat} {s : List Int} {c : Int} (h : St8 w g s c) (x : Int) (h0 : 0 ≤ x) (h1 : x ≤ mostC) : St8 (w.setCell ⟨g, 32, none⟩ (.int .i64 x)) g s x :=
  ⟨by rw [heap_setCell_same _ _ _ _ _ _ h.row, rowS_set h.seed.1], h.seed, ⟨h0, h1⟩, h.far⟩
theorem grown_put {w W : World} {g : Nat} (hb : Below w.heap.size w W) (v : Value) : w.grownBy (W.setCell ⟨g, 32, none⟩ v) (some g) :=
  ⟨hb.os, hb.tape, hb.output, by simpa using hb.size, fun k hk hne => by rw [heap_setCell_other _ _ _ _ (fun e => hne (by rw [e]))]; exact hb.block k hk⟩
theorem grown_of {w W : World} {g : Nat} (hb : Below w.heap.size w W) : w.grownBy W (some g) := ⟨hb.os, hb.tape, hb.output, hb.size, fun k hk _ => hb.block k hk⟩
theorem cons_of {α : Type} {l : List α} {n : Nat} (h : l.length = n + 1) : ∃ a r, l = a :: r ∧ r.length = n := by
  rcases l with _ | ⟨a, r⟩
  · simp at h
  · exact ⟨a, r, rfl, by simpa using h⟩
theorem builtS {s : List Int} (hs : s.length = 32) (c : Int) : Tryd.prog.built 55 [(0, .agg (rowB s)), (1, .int .i64 c)] = some (rowS s c) := by
  obtain ⟨a0, s0, rfl, hs0⟩ := cons_of hs
  obtain ⟨a1, s1, rfl, hs1⟩ := cons_of hs0
  obtain ⟨a2, s2, rfl, hs2⟩ := cons_of hs1
  obtain ⟨a3, s3, rfl, hs3⟩ := cons_of hs2
  obtain ⟨a4, s4, rfl, hs4⟩ := cons_of hs3
  obtain ⟨a5, s5, rfl, hs5⟩ := cons_of hs4
  obtain ⟨a6, s6, rfl, hs6⟩ := cons_of hs5
  obtain ⟨a7, s7, rfl, hs7⟩ := cons_of hs6
  obtain ⟨a8, s8, rfl, hs8⟩ := cons_of hs7
  obtain ⟨a9, s9, rfl, hs9⟩ := cons_of hs8
  obtain ⟨a10, s10, rfl, hs10⟩ := cons_of hs9
  obtain ⟨a11, s11, rfl, hs11⟩ := cons_of hs10
  obtain ⟨a12, s12, rfl, hs12⟩ := cons_of hs11
  obtain ⟨a13, s13, rfl, hs13⟩ := cons_of hs12
  obtain ⟨a14, s14, rfl, hs14⟩ := cons_of hs13
  obtain ⟨a15, s15, rfl, hs15⟩ := cons_of hs14
  obtain ⟨a16, s16, rfl, hs16⟩ := cons_of hs15
  obtain ⟨a17, s17, rfl, hs17⟩ := cons_of hs16
  obtain ⟨a18, s18, rfl, hs18⟩ := cons_of hs17
  obtain ⟨a19, s19, rfl, hs19⟩ := cons_of hs18
  obtain ⟨a20, s20, rfl, hs20⟩ := cons_of hs19
  obtain ⟨a21, s21, rfl, hs21⟩ := cons_of hs20
  obtain ⟨a22, s22, rfl, hs22⟩ := cons_of hs21
  obtain ⟨a23, s23, rfl, hs23⟩ := cons_of hs22
  obtain ⟨a24, s24, rfl, hs24⟩ := cons_of hs23
  obtain ⟨a25, s25, rfl, hs25⟩ := cons_of hs24
  obtain ⟨a26, s26, rfl, hs26⟩ := cons_of hs25
  obtain ⟨a27, s27, rfl, hs27⟩ := cons_of hs26
  obtain ⟨a28, s28, rfl, hs28⟩ := cons_of hs27
  obtain ⟨a29, s29, rfl, hs29⟩ := cons_of hs28
  obtain ⟨a30, s30, rfl, hs30⟩ := cons_of hs29
  obtain ⟨a31, s31, rfl, hs31⟩ := cons_of hs30
  obtain rfl : s31 = [] := List.eq_nil_of_length_eq_zero hs31
  kernel_rfl
theorem wpList_buildS {w : World} {ops : Array Oper} {rest : List Oper} {o : Oper} {a : Act} {Q : Exit → Act → World → Prop} (hg : o.guard = none) (x y : Operand) (ho : o.op = .build 55 #[(0, x), (1, y)]) (s : List Int) (c : Int) (hx : a.eval x = .agg (rowB s)) (hy : a.eval y = .int .i64 c) (hs : s.length = 32)
    (h : wpList Tryd.prog ops Q rest (a.put o.dst (.agg (rowS s c))) w) : wpList Tryd.prog ops Q (o :: rest) a w := by
  have e : ((#[(0, x), (1, y)] : Array (Nat × Operand)).map fun (i, x) => (i, a.eval x)).toList = [(0, .agg (rowB s)), (1, .int .i64 c)] := by simp [hx, hy]
  refine wpList_build hg _ _ ho (by rw [e, builtS hs c]; rfl) ?_
  rw [e, builtS hs c]
  exact h
section
variable {a : Act} {o : Oper} {W : World}
theorem exec_load_seed (x : Operand) (ho : o.op = .load 23 x) (g : Nat) (hx : a.eval x = .pointer (some ⟨g, 0, none⟩)) (d : List Int) (hd : d.length = 32) (hr : W.rangeAt g 0 (d.map (Value.int .u8))) : (execOp a.eval o).run Tryd.prog W = .ok (.value (.agg (rowB d))) W := by
  have h := run_loadVar_mid (P := Tryd.prog) W g 0 23 (d.map (Value.int .u8)) _ hr Tryd.underlying23 rfl (by rw [List.length_map, hd]; exact size25)
  unfold execOp
  simp only [ho, hx, Instr.loadAt, Instr.sureAddr, Sem.run_bind, Sem.run_pure, Result.andThen_ok, h]
  rfl
theorem run_fld0 (g : Nat) : (Instr.fieldAt 55 (.pointer (some ⟨g, 0, none⟩)) 0).run Tryd.prog W = .ok (.pointer (some ⟨g, 0, none⟩)) W := by kernel_rfl
theorem run_fld1 (g : Nat) : (Instr.fieldAt 55 (.pointer (some ⟨g, 0, none⟩)) 1).run Tryd.prog W = .ok (.pointer (some ⟨g, 32, none⟩)) W := by kernel_rfl
theorem exec_fld0 (x : Operand) (ho : o.op = .fieldAddr 55 x 0) (g : Nat) (hx : a.eval x = .pointer (some ⟨g, 0, none⟩)) : (execOp a.eval o).run Tryd.prog W = .ok (.value (.pointer (some ⟨g, 0, none⟩))) W := by
  unfold execOp
  simp only [ho, hx, Sem.run_bind, run_fld0, Result.andThen_ok, Sem.run_pure]
theorem exec_fld1 (x : Operand) (ho : o.op = .fieldAddr 55 x 1) (g : Nat) (hx : a.eval x = .pointer (some ⟨g, 0, none⟩)) : (execOp a.eval o).run Tryd.prog W = .ok (.value (.pointer (some ⟨g, 32, none⟩))) W := by
  unfold execOp
  simp only [ho, hx, Sem.run_bind, run_fld1, Result.andThen_ok, Sem.run_pure]
theorem exec_nilc (x : Operand) (ho : o.op = .nilCheck x) (g : Nat) (hx : a.eval x = .pointer (some ⟨g, 0, none⟩)) : (execOp a.eval o).run Tryd.prog W = .ok (.value (.pointer (some ⟨g, 0, none⟩))) W := by
  unfold execOp
  simp only [ho, hx, Sem.run_pure]
end
/-- what the listed variables hold -/
structure E8 (w : World) : Prop where
  sha : Env w
  steps : Tn.E0 w
theorem E8.below {w w' : World} (h : E8 w) (hb : Below w.heap.size w w') : E8 w' := ⟨h.sha.below hb, h.steps.below hb⟩
theorem E8.three {w : World} (h : E8 w) : 2 < w.heap.size := by
  obtain ⟨t2, fr2, h2⟩ := h.steps.steps
  exact (Array.getElem?_eq_some_iff.1 h2).1
theorem lt_yes {c : Int} (h : c < 0) : decide (c < 0) = true := by simpa using h
theorem lt_no {c : Int} (h : ¬ c < 0) : decide (c < 0) = false := by simpa using h
set_option maxHeartbeats 4000000 in
theorem dnumber_any (w : World) (s : List Int) (c : Int) (he : E8 w) (hs : Seed s) (_h1 : -9223372036854775808 ≤ c) (_h2 : c ≤ mostC) :
    Calls Tryd.prog 11 #[dgV s, .int .i64 c] w fun e w' => e = .returned (two (if c < 0 then 0 else numV s c) (if c < 0 then 10 else 0)) ∧ Below w.heap.size w w' := by
  have HZ := Lib.hid (row_dig hs.1)
  have HN : Hid (∀ W, Below w.heap.size w W → _) := Lib.hid (fun W (hb : Below w.heap.size w W) => numberOf_any W s c hs.1 hs.2 (he.sha.below hb))
  have hb0 : Below w.heap.size w (w.alloc (.cells (rowB s) 23)) := (Below.refl _ _).alloc (Nat.le_refl _) _
  have HB0 := Lib.hid hb0
  have HD0 : Hid ((w.alloc (.cells (rowB s) 23)).heap[w.heap.size]? = some (.cells (rowB s) 23 (0, 0))) := Lib.hid (heap_alloc_new _ _)
  change Calls Tryd.prog 11 #[.agg (rowB s), .int .i64 c] w _
  by_cases hc : c < 0
  · rw [if_pos hc, if_pos hc]
    have d1 := lt_yes hc
    clear he hs hb0 _h1 _h2
    go_enter Tryd.func11, Tryd.ntmps11
    go_wp2
    go_ret2
    exact ⟨rfl, HB0.out⟩
  · rw [if_neg hc, if_neg hc]
    have d1 := lt_no hc
    clear he hs hb0 _h1 _h2
    go_enter Tryd.func11, Tryd.ntmps11
    go_wp2_with (refine wpList_load_row rfl 23 (.tmp 2) rfl w.heap.size rfl 23 (rowB s) (0, 0) _ HD0.out Tryd.underlying23 rfl HZ.out ?_)
    refine (HN.out _ HB0.out).mono ?_
    rintro e w1 ⟨rfl, hb1⟩
    have HB1 := Lib.hid (HB0.out.trans (hb1.mono HB0.out.size))
    clear hb1
    obtain ⟨x, hx⟩ : ∃ x, numV s c = x := ⟨_, rfl⟩
    rw [hx]
    have HX := Lib.hid hx
    clear hx
    go_wp2
    go_ret2
    exact ⟨by rw [HX.out]; rfl, HB1.out⟩
set_option maxHeartbeats 4000000 in
theorem dnewNo_any (w : World) (s : List Int) (c : Int) (hc : c < 0) :
    Calls Tryd.prog 12 #[dgV s, .int .i64 c] w fun e w' => e = .returned (.tuple #[.pointer none, .int .i64 10]) ∧ Below w.heap.size w w' := by
  have HB0 : Hid (Below w.heap.size w (w.alloc (.cells (rowB s) 23))) := Lib.hid ((Below.refl _ _).alloc (Nat.le_refl _) _)
  change Calls Tryd.prog 12 #[.agg (rowB s), .int .i64 c] w _
  have d1 := lt_yes hc
  go_enter Tryd.func12, Tryd.ntmps12
  go_wp2
  go_ret2
  exact ⟨rfl, HB0.out⟩
set_option maxHeartbeats 4000000 in
theorem dnew_any (w : World) (s : List Int) (c : Int) (he : E8 w) (hs : Seed s) (h0 : 0 ≤ c) (h1 : c ≤ mostC) :
    Calls Tryd.prog 12 #[dgV s, .int .i64 c] w fun e w' => ∃ g, e = .returned (.tuple #[ptV g, .int .i64 0]) ∧ w.heap.size ≤ g ∧ St8 w' g s c ∧ Below w.heap.size w w' := by
  have HZ := Lib.hid (row_dig hs.1)
  have HS := Lib.hid hs
  have HD0 : Hid ((w.alloc (.cells (rowB s) 23)).heap[w.heap.size]? = some (.cells (rowB s) 23 (0, 0))) := Lib.hid (heap_alloc_new _ _)
  have HB2 : Hid (Below w.heap.size w ((w.alloc (.cells (rowB s) 23)).alloc (.cells (rowS s c) 55)) ∧ St8 ((w.alloc (.cells (rowB s) 23)).alloc (.cells (rowS s c) 55)) (w.heap.size + 1) s c) := Lib.hid ⟨((Below.refl _ _).alloc (Nat.le_refl _) _).alloc (by simp) _, heap_alloc2_new _ _ _, hs, ⟨h0, h1⟩, by have := he.three; omega⟩
  change Calls Tryd.prog 12 #[.agg (rowB s), .int .i64 c] w _
  have d1 := lt_no (c := c) (by omega)
  clear hs h0 h1 he
  go_enter Tryd.func12, Tryd.ntmps12
  go_wp2_with (first
    | (refine wpList_load_row rfl 23 (.tmp 2) rfl w.heap.size rfl 23 (rowB s) (0, 0) _ HD0.out Tryd.underlying23 rfl HZ.out ?_)
    | (refine wpList_buildS rfl (.tmp 8) (.tmp 9) rfl s c rfl rfl HS.out.1 ?_))
  go_ret2
  exact ⟨w.heap.size + 1, rfl, by omega, HB2.out.2, HB2.out.1⟩
set_option maxHeartbeats 4000000 in
theorem dcount_any (w : World) (g : Nat) (s : List Int) (c : Int) (h : St8 w g s c) : Calls Tryd.prog 15 #[ptV g] w fun e w' => e = .returned (.int .i64 c) ∧ Below w.heap.size w w' := by
  have c1 := h.count
  clear h
  unfold ptV
  go_enter Tryd.func15, Tryd.ntmps15
  go_wp2
  go_ret
  exact ⟨rfl, Below.refl _ _⟩
set_option maxHeartbeats 4000000 in
theorem nilCount_any (w : World) : Calls Tryd.prog 15 #[.pointer none] w fun e w' => e = .returned (.int .i64 0) ∧ Below w.heap.size w w' := by
  go_enter Tryd.func15, Tryd.ntmps15
  go_wp2
  go_ret
  exact ⟨rfl, Below.refl _ _⟩
set_option maxHeartbeats 4000000 in
theorem nilNext_any (w : World) : Calls Tryd.prog 16 #[.pointer none] w fun e w' => e = .returned (two 0 2) ∧ Below w.heap.size w w' := by
  go_enter Tryd.func16, Tryd.ntmps16
  go_wp2
  go_ret2
  exact ⟨rfl, Below.refl _ _⟩
set_option maxHeartbeats 4000000 in
theorem dnext_any (w : World) (g : Nat) (s : List Int) (c : Int) (he : E8 w) (h : St8 w g s c) :
    Calls Tryd.prog 16 #[ptV g] w fun e w' => e = .returned (two (if c = mostC then 0 else numV s c) (if c = mostC then 17 else 0)) ∧ St8 w' g s (if c = mostC then c else c + 1) ∧ w.grownBy w' (some g) := by
  have c1 := h.count
  have HS := Lib.hid h
  have HE := Lib.hid he
  obtain ⟨r0, r1⟩ := h.rng
  unfold mostC at r1
  clear h he
  unfold ptV
  by_cases hc : c = mostC
  · rw [if_pos hc, if_pos hc, if_pos hc]
    have d1 : (c == 9223372036854775807) = true := by rw [hc]; rfl
    go_enter Tryd.func16, Tryd.ntmps16
    go_wp2
    go_ret2
    exact ⟨rfl, HS.out, grown_of (Below.refl _ _)⟩
  · rw [if_neg hc, if_neg hc, if_neg hc]
    unfold mostC at hc
    have d1 : (c == 9223372036854775807) = false := by simpa using hc
    have HI : Hid (0 ≤ c + 1 ∧ c + 1 ≤ mostC) := Lib.hid (by unfold mostC; omega)
    have hw1 : IntKind.i64.wrap (c + 1) = c + 1 := IntWalk.i64_in _ (by omega)
    obtain ⟨x, hx⟩ : ∃ x, numV s c = x := ⟨_, rfl⟩
    rw [hx]
    have HN : Hid (∀ W, Below w.heap.size w W → Calls Tryd.prog 24 #[.agg (rowB s), .int .i64 c] W fun e w' => e = .returned (.int .i64 x) ∧ Below W.heap.size W w') := Lib.hid (fun W hb => by rw [← hx]; exact numberOf_any W s c HS.out.seed.1 HS.out.seed.2 (HE.out.sha.below hb))
    clear hx hc HE
    go_enter Tryd.func16, Tryd.ntmps16
    go_upto_region 5 with fail
    refine Tn.wp_region_spec (C := fun W => Below w.heap.size w W) (Le := fun _ _ => True) 9 (fun _ ixx _ yy => yy = ([.pointer (some ⟨g, 0, none⟩), .pointer (some ⟨g, 0, none⟩), .pointer (some ⟨g, 0, none⟩), .agg (rowB s), .pointer (some ⟨g, 0, none⟩), .pointer (some ⟨g, 0, none⟩), .pointer (some ⟨g, 32, none⟩), .int .i64 c, .int .i64 x] : List Value).getD ixx undef) (by kernel_rfl) (by kernel_rfl) ⟨rfl, rfl, rfl, Nat.le_refl _, fun _ _ => rfl⟩ (fun _ _ _ _ _ _ h => h) (fun _ _ _ _ _ _ h => h) (fun ixx yy => yy = ([.pointer (some ⟨g, 0, none⟩), .pointer (some ⟨g, 0, none⟩), .pointer (some ⟨g, 0, none⟩), .agg (rowB s), .pointer (some ⟨g, 0, none⟩), .pointer (some ⟨g, 0, none⟩), .pointer (some ⟨g, 32, none⟩), .int .i64 c, .int .i64 x] : List Value).getD ixx undef) (fun _ _ _ _ h => h) (fun ixx => ([.pointer (some ⟨g, 0, none⟩), .pointer (some ⟨g, 0, none⟩), .pointer (some ⟨g, 0, none⟩), .agg (rowB s), .pointer (some ⟨g, 0, none⟩), .pointer (some ⟨g, 0, none⟩), .pointer (some ⟨g, 32, none⟩), .int .i64 c, .int .i64 x] : List Value).getD ixx undef) (fun _ => rfl) ?_ ?_
    · intro u hu
      have h0 : u 0 = .pointer (some ⟨g, 0, none⟩) := hu 0
      have h1 : u 1 = .pointer (some ⟨g, 0, none⟩) := hu 1
      have h2 : u 2 = .pointer (some ⟨g, 0, none⟩) := hu 2
      have h3 : u 3 = .agg (rowB s) := hu 3
      have h4 : u 4 = .pointer (some ⟨g, 0, none⟩) := hu 4
      have h5 : u 5 = .pointer (some ⟨g, 0, none⟩) := hu 5
      have h6 : u 6 = .pointer (some ⟨g, 32, none⟩) := hu 6
      have h7 : u 7 = .int .i64 c := hu 7
      have h8 : u 8 = .int .i64 x := hu 8
      simp only [List.take_succ_cons, List.take_zero]
      refine Tn.spec_cons (fun W hC hd => ⟨by rfl, ?_⟩) ?_
      · exact Tn.gives_val (.pointer (some ⟨g, 0, none⟩)) W (by rfl) ⟨hC, trivial, rfl⟩
      simp only [Act.put, List.setIfInBounds_toArray, List.set_cons_succ, List.set_cons_zero, Nat.reduceAdd]
      rw [h0]
      refine Tn.spec_cons (fun W hC hd => ⟨by rfl, ?_⟩) ?_
      · exact Tn.gives_val (.pointer (some ⟨g, 0, none⟩)) W (exec_nilc (.tmp 14) rfl g rfl) ⟨hC, trivial, rfl⟩
      simp only [Act.put, List.setIfInBounds_toArray, List.set_cons_succ, List.set_cons_zero, Nat.reduceAdd]
      rw [h1]
      refine Tn.spec_cons (fun W hC hd => ⟨by rfl, ?_⟩) ?_
      · exact Tn.gives_val (.pointer (some ⟨g, 0, none⟩)) W (exec_fld0 (.tmp 15) rfl g rfl) ⟨hC, trivial, rfl⟩
      simp only [Act.put, List.setIfInBounds_toArray, List.set_cons_succ, List.set_cons_zero, Nat.reduceAdd]
      rw [h2]
      refine Tn.spec_cons (fun W hC hd => ⟨by rfl, ?_⟩) ?_
      · exact Tn.gives_val (.agg (rowB s)) W (exec_load_seed (.tmp 16) rfl g rfl s HS.out.seed.1 (HS.out.later hC).digest) ⟨hC, trivial, rfl⟩
      simp only [Act.put, List.setIfInBounds_toArray, List.set_cons_succ, List.set_cons_zero, Nat.reduceAdd]
      rw [h3]
      refine Tn.spec_cons (fun W hC hd => ⟨by rfl, ?_⟩) ?_
      · exact Tn.gives_val (.pointer (some ⟨g, 0, none⟩)) W (by rfl) ⟨hC, trivial, rfl⟩
      simp only [Act.put, List.setIfInBounds_toArray, List.set_cons_succ, List.set_cons_zero, Nat.reduceAdd]
      rw [h4]
      refine Tn.spec_cons (fun W hC hd => ⟨by rfl, ?_⟩) ?_
      · exact Tn.gives_val (.pointer (some ⟨g, 0, none⟩)) W (exec_nilc (.tmp 18) rfl g rfl) ⟨hC, trivial, rfl⟩
      simp only [Act.put, List.setIfInBounds_toArray, List.set_cons_succ, List.set_cons_zero, Nat.reduceAdd]
      rw [h5]
      refine Tn.spec_cons (fun W hC hd => ⟨by rfl, ?_⟩) ?_
      · exact Tn.gives_val (.pointer (some ⟨g, 32, none⟩)) W (exec_fld1 (.tmp 19) rfl g rfl) ⟨hC, trivial, rfl⟩
      simp only [Act.put, List.setIfInBounds_toArray, List.set_cons_succ, List.set_cons_zero, Nat.reduceAdd]
      rw [h6]
      refine Tn.spec_cons (fun W hC hd => ⟨by rfl, ?_⟩) ?_
      · exact Tn.gives_val (.int .i64 c) W (Tn.exec_load1 3 (.tmp 20) rfl ⟨g, 32, none⟩ rfl _ (HS.out.later hC).count _ Tryd.underlying3 rfl) ⟨hC, trivial, rfl⟩
      simp only [Act.put, List.setIfInBounds_toArray, List.set_cons_succ, List.set_cons_zero, Nat.reduceAdd]
      rw [h7]
      refine Tn.spec_cons (fun W hC hd => ⟨by rfl, ?_⟩) ?_
      · exact Tn.gives_call _ _ (Tn.exec_call2 24 (.tmp 17) (.tmp 21) #[23, 3] _ _ rfl rfl rfl (Tn.cf Tryd.func24 (by kernel_rfl) (by kernel_rfl) _ _)) ((HN.out W hC).mono fun e W' h => ⟨_, h.1, hC.trans (h.2.mono hC.size), trivial, rfl⟩)
      simp only [Act.put, List.setIfInBounds_toArray, List.set_cons_succ, List.set_cons_zero, Nat.reduceAdd]
      rw [h8]
      exact Tn.spec_nil
    · intro u W hu hC _
      have h0 : u 0 = .pointer (some ⟨g, 0, none⟩) := hu 0
      have h1 : u 1 = .pointer (some ⟨g, 0, none⟩) := hu 1
      have h2 : u 2 = .pointer (some ⟨g, 0, none⟩) := hu 2
      have h3 : u 3 = .agg (rowB s) := hu 3
      have h4 : u 4 = .pointer (some ⟨g, 0, none⟩) := hu 4
      have h5 : u 5 = .pointer (some ⟨g, 0, none⟩) := hu 5
      have h6 : u 6 = .pointer (some ⟨g, 32, none⟩) := hu 6
      have h7 : u 7 = .int .i64 c := hu 7
      have h8 : u 8 = .int .i64 x := hu 8
      simp only [List.take_succ_cons, List.take_zero, List.drop_succ_cons, List.drop_zero, Tn.putAll, Act.put, List.setIfInBounds_toArray, List.set_cons_succ, List.set_cons_zero, Nat.reduceAdd]
      rw [h0, h1, h2, h3, h4, h5, h6, h7, h8]
      clear hu h0 h1 h2 h3 h4 h5 h6 h7 h8
      have HB1 := Lib.hid hC
      have HS1 := Lib.hid (HS.out.later hC)
      have c2 := HS1.out.count
      have f2 := HS1.out.free
      clear hC c1
      go_wp2
      go_ret2
      exact ⟨rfl, HS1.out.put _ HI.out.1 HI.out.2, grown_put HB1.out _⟩
end Go.Proofs.YtmolkbmdfkeniaaDoor.Dr
