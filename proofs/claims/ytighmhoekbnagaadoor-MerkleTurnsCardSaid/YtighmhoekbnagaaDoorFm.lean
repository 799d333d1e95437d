import Derived.Test.YtighmhoekbnagaaDoorNh
import Derived.Test.YtighmhoekbnagaaDoorSr
namespace Go.Proofs.YtighmhoekbnagaaDoor

section
open Go.ChangeShapes Go.WideShapes Go.ChangeAt Go.RowKit Go.Shelf
attribute [local go_sem] Oper.semAt_some

/-- how many parts are beside the way -/
def CountI (w : World) (n i : Nat) (pre : List (OnWay n i)) (W : World) : Prop :=
  (Boxed W w.heap.size 3 (.int .i64 pre.length) ∧ Boxed W (w.heap.size + 1) 3 (.int .i64 n) ∧ Boxed W (w.heap.size + 2) 3 (.int .i64 i)) ∧ Below w.heap.size w W
theorem countI_own (w : World) (n i : Nat) (B : Nat) (hB : w.heap.size ≤ B) : OwnFrom B (CountI w n i) :=
  OwnFrom.and (OwnFrom.and (Own.from (boxed_own w.heap.size 3 (fun pre : List (OnWay n i) => .int .i64 pre.length)) _)
    (OwnFrom.and (Own.from (boxed_own _ _ _) _) (Own.from (boxed_own _ _ _) _))) (ownFrom_below (Nat.le_refl _) hB)
set_option maxRecDepth 100000 in
set_option maxHeartbeats 4000000 in
theorem proofLen_in (n i : Nat) (w : World) (hi : i < n) (hn : n ≤ 9223372036854775807) :
    CallsIn Fence.wide 6 Tryd.prog 40 #[.int .i64 n, .int .i64 i] w fun e w' => e = .returned (.int .i64 ((wy n i 63).length : Nat)) ∧ Below w.heap.size w w' := by
  refine callsIn_of_wp_marks Tryd.func40 rfl trivial ?_ rfl
  simp only [Tryd.ntmps40, List.size_toArray, List.length_cons, List.length_nil, Nat.reduceAdd, Nat.reduceSub, Array.replicate_succ, Array.replicate_zero, List.push_toArray, List.append_toArray, List.nil_append, List.cons_append]
  gi_wp2_with (first
    | (refine ⟨trivial, ?_⟩; gi_at_call 38; refine (callsIn_wide.2 (way_any _ _ _)).mono ?_; rintro e w' ⟨rfl, rfl⟩))
  have b0 := ((Boxed.new w 3 (.int .i64 0)).alloc (.cells #[.int .i64 n] 3)).alloc (.cells #[.int .i64 i] 3)
  have b1 := (Boxed.new (w.alloc (.cells #[.int .i64 0] 3)) 3 (.int .i64 n)).alloc (.cells #[.int .i64 i] 3)
  have b2 := Boxed.new ((w.alloc (.cells #[.int .i64 0] 3)).alloc (.cells #[.int .i64 n] 3)) 3 (.int .i64 i)
  simp only [World.size_alloc, Nat.add_assoc, Nat.reduceAdd] at b1 b2 ⊢
  have hB0 : Below w.heap.size w (((w.alloc (.cells #[.int .i64 0] 3)).alloc (.cells #[.int .i64 n] 3)).alloc (.cells #[.int .i64 i] 3)) :=
    (((Below.refl _ w).alloc (Nat.le_refl _) _).alloc (by simp) _).alloc (by simp; omega) _
  have hsz : (((w.alloc (.cells #[.int .i64 0] 3)).alloc (.cells #[.int .i64 n] 3)).alloc (.cells #[.int .i64 i] 3)).heap.size = w.heap.size + 3 := by simp
  obtain ⟨W0, hW0⟩ : ∃ W0, ((w.alloc (.cells #[.int .i64 0] 3)).alloc (.cells #[.int .i64 n] 3)).alloc (.cells #[.int .i64 i] 3) = W0 := ⟨_, rfl⟩
  rw [hW0] at b0 b1 b2 hB0 hsz ⊢
  clear hW0
  have hN := dp_wy 63 n i hi (by omega)
  have hdp := dp_le 63 n i
  refine wpIn_rangeFunc_ownH rfl (by omega) (gf := 55) (lb := #[.pointer (some ⟨w.heap.size + 1, 0, none⟩), .pointer (some ⟨w.heap.size + 2, 0, none⟩)]) rfl trivial (enters_of Tryd.func55 (by kernel_rfl) rfl)
    (way_stops 5 (by omega) (w.heap.size + 1) (w.heap.size + 2) n i hi hn W0 b1.cell b2.cell) keep_t (fun W l o o' h1 h2 h3 h4 => keep_b W l o o' h1 h2 h3 h4) (Below.refl _ _) (fun _ => rfl)
    (CountI w n i) (fun _ _ _ => False) (countI_own w n i _ (by omega)) (fun _ _ _ _ _ hs _ _ => hs)
    ⟨⟨b0, b1, b2⟩, hB0⟩
    (fun x a' W => a' =
      { tmps := #[.int .i64 n, .int .i64 i, undef, undef, .int .i64 0, .pointer (some ⟨w.heap.size, 0, none⟩), .int .i64 n, .int .i64 i,
          .func (.func 55) #[] #[.pointer (some ⟨w.heap.size + 1, 0, none⟩), .pointer (some ⟨w.heap.size + 2, 0, none⟩)], .agg #[.int .i64 x.val.1, .int .i64 x.val.2], undef, undef, undef], defers := [] })
    (fun x a' _ X Y row hs hg hr => hs)
    ?assign ?body ?done ?stop
  case assign =>
    rintro l pre x W K hI hK
    dsimp only [pv]
    gi_wp2
    exact hK _ _ (KeepsFrom.refl _ _) (fun b v _ h => h) hI (by simp)
  case body =>
    rintro l pre x a' W hl _ hI rfl hlt
    obtain ⟨⟨h0, h1, h2⟩, hb⟩ := hI
    have c0 := h0.cell
    have f0 := h0.frozen
    have HB := Lib.hid hb
    have H0 := Lib.hid h0
    have H1 := Lib.hid h1
    have H2 := Lib.hid h2
    clear hb h0 h1 h2
    obtain ⟨p, hp⟩ : ∃ p, pre.length = p := ⟨_, rfl⟩
    rw [hp] at c0 hlt H0
    gi_wp2
    have e1 : ((p : Int) + 1) = ((p + 1 : Nat) : Int) := by omega
    rw [e1]
    refine ⟨KeepsFrom.of_grownBy (grownBy_setCell' W w.heap.size _) (fun j e => by cases e; omega), keep_boxes H1.out H2.out (H1.out.other (by omega) _) (H2.out.other (by omega) _), ⟨?_, H1.out.other (by omega) _, H2.out.other (by omega) _⟩, HB.out.setCell (Nat.le_refl _) _⟩
    have := H0.out.set (.int .i64 (p + 1 : Nat))
    rw [List.length_append, hp]
    exact this
  case done =>
    rintro D ys W hD hys ⟨⟨h0, h1, h2⟩, hB⟩ hK
    have hc := h0.cell
    have e1 : ys.length = (wy n i 63).length := by rw [← hys, List.length_map]
    rw [e1] at hc
    clear h0 h1 h2
    gi_wp2
    refine ⟨by simp, .inl ⟨_, _, rfl, run_takeDeferred hK, ?_⟩⟩
    exact ⟨_, results_tmp rfl _ _ _, rfl, hB.trans (belowK_b (w := w) (Nat.le_refl _) W D _ _ (by omega) hK rfl rfl)⟩
  case stop =>
    rintro D c pre W _ _ h _
    exact h.elim
end

section
open Go.ChangeShapes Go.WideShapes Go.ChangeAt Go.RowKit Go.Shelf
attribute [local go_sem] Oper.semAt_some

theorem proofLen_any (n i : Nat) (w : World) (hi : i < n) (hn : n ≤ 9223372036854775807) :
    Calls Tryd.prog 40 #[.int .i64 n, .int .i64 i] w fun e w' => e = .returned (.int .i64 ((wy n i 63).length : Nat)) ∧ Below w.heap.size w w' :=
  callsIn_wide.1 (proofLen_in n i w hi hn)
theorem jn_length (p : Nat) (a b : List Int) : (jn nodeD p a b).length = 32 := by
  unfold jn
  split <;> exact nodeD_length _ _
/-- the boxes of joined's parameters and of its result -/
def JnS (w : World) (a b : List Int) (W : World) : Prop := Below w.heap.size w W ∧ W.heap[w.heap.size + 1]? = some (.cells (rowB a) 24 (0, 0)) ∧ W.heap[w.heap.size + 2]? = some (.cells (rowB b) 24 (0, 0)) ∧ W.heap[w.heap.size + 3]? = some (.cells (rowB (zs 32)) 24 (0, 0))
theorem JnS.made (w : World) (a b : List Int) (P : Obj) : JnS w a b ((((w.alloc P).alloc (.cells (rowB a) 24)).alloc (.cells (rowB b) 24)).alloc (.cells (rowB (zs 32)) 24)) := by
  refine ⟨((((Below.refl _ _).alloc (Nat.le_refl _) _).alloc (by simp) _).alloc (by simp; omega) _).alloc (by simp; omega) _, ?_, ?_, ?_⟩
  · have := heap_alloc_new (w.alloc P) (.cells (rowB a) 24)
    simp only [World.size_alloc] at this
    rw [Below.heap_alloc _ _ _ (by simp), Below.heap_alloc _ _ _ (by simp)]
    exact this
  · have := heap_alloc_new ((w.alloc P).alloc (.cells (rowB a) 24)) (.cells (rowB b) 24)
    simp only [World.size_alloc] at this
    rw [Below.heap_alloc _ _ _ (by simp)]
    exact this
  · have := heap_alloc_new (((w.alloc P).alloc (.cells (rowB a) 24)).alloc (.cells (rowB b) 24)) (.cells (rowB (zs 32)) 24)
    simp only [World.size_alloc] at this
    exact this
theorem JnS.later {w W W' : World} {a b : List Int} (h : JnS w a b W) (hb : Below W.heap.size W W') : JnS w a b W' :=
  ⟨h.1.trans (hb.mono h.1.size), (hb.block _ (Array.getElem?_eq_some_iff.1 h.2.1).1).trans h.2.1, (hb.block _ (Array.getElem?_eq_some_iff.1 h.2.2.1).1).trans h.2.2.1, (hb.block _ (Array.getElem?_eq_some_iff.1 h.2.2.2).1).trans h.2.2.2⟩
set_option maxRecDepth 100000 in
set_option maxHeartbeats 4000000 in
theorem joined_any (px qx : Nat) (a b : List Int) (w : World) (ha : a.length = 32) (hb : b.length = 32) (he : Env w) (hq : qx ≤ 9223372036854775807) :
    Calls Tryd.prog 41 #[.agg #[.int .i64 px, .int .i64 qx], .agg (rowB a), .agg (rowB b)] w fun e w' => e = .returned (.agg (rowB (jn nodeD qx a b))) ∧ Below w.heap.size w w' := by
  have HN1 := Lib.hid (fun W (hB : Below w.heap.size w W) => node_any W a b ha hb (he.below hB))
  have HN2 := Lib.hid (fun W (hB : Below w.heap.size w W) => node_any W b a hb ha (he.below hB))
  have HZa := Lib.hid (row_dig ha)
  have HZb := Lib.hid (row_dig hb)
  clear he ha hb
  by_cases h0 : qx % 2 = 0
  · have ej : jn nodeD qx a b = nodeD b a := if_pos h0
    have d0 : ((qx : Int) % 2 == 0) = true := by simp; omega
    have h32 := nodeD_length b a
    obtain ⟨F, hF⟩ : ∃ R, nodeD b a = R := ⟨_, rfl⟩
    rw [ej, hF]
    rw [hF] at HN2 h32
    have HZ := Lib.hid (row_dig h32)
    have HY := Lib.hid (row_dig0 h32)
    have HX := Lib.hid (rowB_one F)
    clear hF ej h32
    go_enter Tryd.func41, Tryd.ntmps41
    go_upto_region 2 with fail
    simp only [Nat.add_assoc, Nat.reduceAdd]
    refine gen_world (Q := fun w => Code.wp _ _ _ _ w) _ (JnS w a b) (JnS.made w a b _) ?_
    intro w1 hj
    have HJ := Lib.hid hj
    clear hj
    go_wp2_with (first
      | (refine wpList_load_row rfl 24 (.tmp 5) rfl (w.heap.size + 2) rfl 24 (rowB b) (0, 0) _ HJ.out.2.2.1 Tryd.underlying24 rfl HZb.out ?_)
      | (refine wpList_load_row rfl 24 (.tmp 4) rfl (w.heap.size + 1) rfl 24 (rowB a) (0, 0) _ HJ.out.2.1 Tryd.underlying24 rfl HZa.out ?_)
      | (go_at_call 15; refine (HN2.out _ HJ.out.1).mono ?_; rintro e w2 ⟨rfl, hb2⟩; have HJ2 := Lib.hid (HJ.out.later hb2); clear hb2)
      | (refine wpList_store_row rfl 24 (.tmp 6) (.tmp 13) rfl (w.heap.size + 3) (rowB F) rfl rfl 24 _ HJ2.out.2.2.2 HZ.out HY.out HX.out ?_))
    exact bodyPost_ret (v := .agg (rowB F)) (results_cell_row Tryd.results41 _ _ (w.heap.size + 3) 24 (rowB F) (0, 0) _ rfl (setRow_heap _ _ _ _ _ _ HJ2.out.2.2.2) Tryd.underlying24 rfl HZ.out) rfl ⟨rfl, below_setRow HJ2.out.1 (by omega) _⟩
  · have ej : jn nodeD qx a b = nodeD a b := if_neg h0
    have d0 : ((qx : Int) % 2 == 0) = false := by simp; omega
    have h32 := nodeD_length a b
    obtain ⟨F, hF⟩ : ∃ R, nodeD a b = R := ⟨_, rfl⟩
    rw [ej, hF]
    rw [hF] at HN1 h32
    have HZ := Lib.hid (row_dig h32)
    have HY := Lib.hid (row_dig0 h32)
    have HX := Lib.hid (rowB_one F)
    clear hF ej h32
    go_enter Tryd.func41, Tryd.ntmps41
    go_upto_region 3 with fail
    simp only [Nat.add_assoc, Nat.reduceAdd]
    refine gen_world (Q := fun w => Code.wp _ _ _ _ w) _ (JnS w a b) (JnS.made w a b _) ?_
    intro w1 hj
    have HJ := Lib.hid hj
    clear hj
    go_wp2_with (first
      | (refine wpList_load_row rfl 24 (.tmp 4) rfl (w.heap.size + 1) rfl 24 (rowB a) (0, 0) _ HJ.out.2.1 Tryd.underlying24 rfl HZa.out ?_)
      | (refine wpList_load_row rfl 24 (.tmp 5) rfl (w.heap.size + 2) rfl 24 (rowB b) (0, 0) _ HJ.out.2.2.1 Tryd.underlying24 rfl HZb.out ?_)
      | (go_at_call 15; refine (HN1.out _ HJ.out.1).mono ?_; rintro e w2 ⟨rfl, hb2⟩; have HJ2 := Lib.hid (HJ.out.later hb2); clear hb2)
      | (refine wpList_store_row rfl 24 (.tmp 6) (.tmp 16) rfl (w.heap.size + 3) (rowB F) rfl rfl 24 _ HJ2.out.2.2.2 HZ.out HY.out HX.out ?_))
    exact bodyPost_ret (v := .agg (rowB F)) (results_cell_row Tryd.results41 _ _ (w.heap.size + 3) 24 (rowB F) (0, 0) _ rfl (setRow_heap _ _ _ _ _ _ HJ2.out.2.2.2) Tryd.underlying24 rfl HZ.out) rfl ⟨rfl, below_setRow HJ2.out.1 (by omega) _⟩
end

section
open Go.ChangeShapes Go.WideShapes Go.ChangeAt Go.RowKit Go.Shelf
attribute [local go_sem] Oper.semAt_some

/-- digests but for the first -/
theorem Digs.tail {w : World} {sp : Option Addr} {cap : Nat} {r : List Int} {ds : List (List Int)} (h : Digs w sp cap (r :: ds)) : Digs w (if cap = 1 then sp else sp.map (·.add 32)) (cap - 1) ds := by
  have hle := h.le
  have hm := h.max
  rw [List.length_cons] at hle
  have hr : r.length = 32 := h.all r (by simp)
  obtain ⟨c, o, e, hl⟩ := h.lies (by simp)
  subst e
  refine ⟨by omega, by omega, fun e => ?_, fun d hd => h.all d (by simp [hd]), fun h0 => ?_⟩
  · split at e
    · omega
    · cases e
  · rw [if_neg (by omega), Option.map_some, add_plain]
    refine ⟨c, o + 32, rfl, fun i hi => ?_⟩
    have := hl (32 + i) (by rw [List.flatten_cons, List.length_append]; omega)
    rw [← Nat.add_assoc] at this
    rw [this, List.flatten_cons, List.getD_eq_getElem?_getD, List.getElem?_append_right (by omega), List.getD_eq_getElem?_getD, hr, Nat.add_sub_cancel_left]
theorem run_tailD (sp : Option Addr) (m cap : Nat) (h1 : 1 ≤ m) (w : World) : (Instr.slice 33 (.slice sp m cap) (some (.int .i64 1)) none none).run Tryd.prog w = .ok (.slice (if cap = 1 then sp else sp.map (·.add 32)) (m - 1) (cap - 1)) w := by
  have he := size25
  cases hq : Tryd.prog.info? 24 with
  | none => simp [hq] at he
  | some i =>
    have hi : i.size = 32 := by simpa [hq] using he
    simp only [Instr.slice, run_underlying Tryd.underlying33, Instr.sliceBounds, Instr.sliceBound, asIntOf, sizeOf, typeInfo, Sem.run_bind, Result.andThen_ok, Sem.run_pure, Sem.run_ite]
    simp [hq, hi]
    intro h
    omega
theorem results_two {P : Program} {fn : Func} {p q : Tmp} {ty : TypeId} (h : fn.results = #[.cell p ty, .tmp q]) (tmps : Array Value) (w : World) (g : Nat) (t : TypeId) (cs : Array Value) (fr : Nat × Nat) (d : TypeDesc) (v : Value)
    (hp : tmps.getD p undef = .pointer (some ⟨g, 0, none⟩)) (hq : tmps.getD q undef = v) (hg : w.heap[g]? = some (.cells cs t fr))
    (hu : P.underlying ty = some d) (hd : (match d with | .struct _ | .array _ _ => true | _ => false) = true) (hi : (P.info? ty).map (·.size) = some cs.size) :
    (results fn tmps).run P w = .ok (.tuple #[.agg cs, v]) w := by
  have hp' : tmps[p]?.getD undef = .pointer (some ⟨g, 0, none⟩) := by simpa using hp
  have hq' : tmps[q]?.getD undef = v := by simpa using hq
  simp [results, h, hp', hq', asAddr, run_loadVar_row w g t ty cs fr d hg hu hd hi]
set_option maxRecDepth 100000 in
set_option maxHeartbeats 4000000 in
theorem fold_no (i n : Int) (w : World) (s1 s2 : Option Addr) (n1 n2 c1 c2 : Nat) (h : ¬ (0 ≤ i ∧ i < n)) :
    Calls Tryd.prog 20 #[.int .i64 n, .int .i64 i, .slice s1 n1 c1, .slice s2 n2 c2] w fun e w' => e = .returned (.tuple #[.agg (rowB (zs 32)), .int .i64 10]) ∧ Below w.heap.size w w' := by
  go_enter Tryd.func20, Tryd.ntmps20
  go_upto_region 2 with (go_at_call 37; refine (place_no _ _ _ h).mono ?_; rintro e w' ⟨rfl, rfl⟩)
  refine gen_world (Q := fun w => Code.wp _ _ _ _ w) _ (Res w) (Res.new w _ (by kernel_rfl)) ?_
  intro w1 hr1
  have HR1 := Lib.hid hr1
  clear hr1
  have HZ := Lib.hid (row_dig (d := zs 32) rfl)
  have HY := Lib.hid (row_dig0 (d := zs 32) rfl)
  have HX := Lib.hid (rowB_one (zs 32))
  go_wp2_with (first
    | (refine wpList_val rfl (.agg (rowB (zs 32))) (exec_built 24 #[] rfl (rowB (zs 32)) (by kernel_rfl)) ?_)
    | (refine wpList_store_row rfl 24 (.tmp 8) (.tmp 17) rfl w.heap.size (rowB (zs 32)) rfl rfl 24 _ HR1.out.res HZ.out HY.out HX.out ?_))
  exact bodyPost_ret (v := .tuple #[.agg (rowB (zs 32)), .int .i64 10]) (results_two Tryd.results20 _ _ w.heap.size 24 (rowB (zs 32)) (0, 0) _ _ rfl rfl (setRow_heap _ _ _ _ _ _ HR1.out.res) Tryd.underlying24 rfl HZ.out) rfl ⟨rfl, below_setRow HR1.out.below (Nat.le_refl _) _⟩
end

section
open Go.ChangeShapes Go.WideShapes Go.ChangeAt Go.RowKit Go.Shelf
attribute [local go_sem] Oper.semAt_some

theorem wpListIn_store_row {F : Fence} {n : Nat} {P : Program} {ops : Array Oper} {rest : List Oper} {o : Oper} {a : Act} {w : World} {Q : Exit → Act → World → Prop} (hgd : o.guard = none) (ty : TypeId) (x y : Operand) (ho : o.op = .store ty x y)
    (g : Nat) (cells : Array Value) (hx : a.eval x = .pointer (some ⟨g, 0, none⟩)) (hy : a.eval y = .agg cells)
    (t : TypeId) (old : Array Value) (hg : w.heap[g]? = some (.cells old t (0, 0))) (hi : (P.info? ty).map (·.size) = some cells.size)
    (hold : old.size = cells.size) (h1 : cells.all (·.oneCell') = true)
    (h : wpListIn F n P ops Q rest (a.put o.dst undef) (w.setRow g cells)) : wpListIn F n P ops Q (o :: rest) a w := by
  refine wpListIn_plain hgd fun K hK => ?_
  unfold Oper.wpIn
  refine ⟨?_, ?_⟩
  · simp [Oper.about, ho]
  · rw [Oper.semAt_plain F _ _ (by rw [ho]; intro c hc'; cases hc')]
    unfold execOp
    simp only [ho, hx, hy, Instr.storeAt, Instr.sureAddr, Sem.run_bind, Sem.run_pure, Result.andThen_ok, run_storeVar_row w g t ty old cells hg hi hold h1]
    exact hK _ _ h
set_option maxRecDepth 100000 in
set_option maxHeartbeats 4000000 in
theorem fold_len (i n : Nat) (w : World) (s1 s2 : Option Addr) (n1 n2 c1 c2 : Nat) (hi : i < n) (hn : n ≤ 9223372036854775807) (hl : n2 ≠ (wy n i 63).length) :
    Calls Tryd.prog 20 #[.int .i64 n, .int .i64 i, .slice s1 n1 c1, .slice s2 n2 c2] w fun e w' => e = .returned (.tuple #[.agg (rowB (zs 32)), .int .i64 23]) ∧ Below w.heap.size w w' := by
  have HL := Lib.hid (fun W => proofLen_any n i W hi hn)
  obtain ⟨L, hL⟩ : ∃ L, (wy n i 63).length = L := ⟨_, rfl⟩
  rw [hL] at HL hl
  clear hL
  have hd : ((n2 : Int) != (L : Int)) = true := by simp; omega
  go_enter Tryd.func20, Tryd.ntmps20
  go_upto_region 3 with (go_at_call 37; refine (place_yes _ _ _ (by omega) (by omega)).mono ?_; rintro e w' ⟨rfl, rfl⟩)
  refine gen_world (Q := fun w => Code.wp _ _ _ _ w) _ (Res w) (Res.new w _ (by kernel_rfl)) ?_
  intro w1 hr1
  have HR1 := Lib.hid hr1
  clear hr1
  have HZ := Lib.hid (row_dig (d := zs 32) rfl)
  have HY := Lib.hid (row_dig0 (d := zs 32) rfl)
  have HX := Lib.hid (rowB_one (zs 32))
  go_wp2_with (first
    | (go_at_call 40; refine (HL.out _).mono ?_; rintro e w2 ⟨rfl, hb2⟩; have HR2 := Lib.hid (HR1.out.later hb2); clear hb2)
    | (refine wpList_val rfl (.agg (rowB (zs 32))) (exec_built 24 #[] rfl (rowB (zs 32)) (by kernel_rfl)) ?_)
    | (refine wpList_store_row rfl 24 (.tmp 8) (.tmp 24) rfl w.heap.size (rowB (zs 32)) rfl rfl 24 _ HR2.out.res HZ.out HY.out HX.out ?_))
  exact bodyPost_ret (v := .tuple #[.agg (rowB (zs 32)), .int .i64 23]) (results_two Tryd.results20 _ _ w.heap.size 24 (rowB (zs 32)) (0, 0) _ _ rfl rfl (setRow_heap _ _ _ _ _ _ HR2.out.res) Tryd.underlying24 rfl HZ.out) rfl ⟨rfl, below_setRow HR2.out.below (Nat.le_refl _) _⟩
end

section
open Go.ChangeShapes Go.WideShapes Go.ChangeAt Go.RowKit Go.Shelf
attribute [local go_sem] Oper.semAt_some

theorem wpListIn_val {F : Fence} {n : Nat} {P : Program} {w : World} {ops : Array Oper} {rest : List Oper} {o : Oper} {a : Act} {Q : Exit → Act → World → Prop} (hg : o.guard = none) (v : Value) (hr : (execOp a.eval o).run P w = .ok (.value v) w) (hp : ∀ c, o.op ≠ .defer c) (ha : Oper.about P w a.eval o = none)
    (h : wpListIn F n P ops Q rest (a.put o.dst v) w) : wpListIn F n P ops Q (o :: rest) a w := by
  refine wpListIn_plain hg fun K hK => ?_
  unfold Oper.wpIn
  refine And.intro (fun f hf => by rw [ha] at hf; cases hf) ?_
  rw [Oper.semAt_plain F _ _ (fun c hc => hp c hc), hr]
  exact hK _ _ h
theorem cfJoined (vs : Array Value) (W : World) : (callFunc 41 vs).run Tryd.prog W = .ok (.enter 41 vs) W := cf Tryd.func41 (by kernel_rfl) (by kernel_rfl) vs W
/-- what stands between two rounds of Fold -/
def FoldI (w3 : World) (n i : Nat) (D0 : List Int) (q : List (List Int)) (pre : List (OnWay n i)) (W : World) : Prop :=
  (W.heap[w3.heap.size]? = some (.cells (rowB (go nodeD (pre.map Subtype.val) D0 (q.take pre.length))) 24 (0, 0)) ∧
    (∃ sp cap, Boxed W (w3.heap.size + 1) 33 (.slice sp (q.length - pre.length) cap) ∧ Digs w3 sp cap (q.drop pre.length)) ∧
    Boxed W (w3.heap.size + 2) 3 (.int .i64 n) ∧ Boxed W (w3.heap.size + 3) 3 (.int .i64 i)) ∧ Below w3.heap.size w3 W
theorem foldI_own (w3 : World) (n i : Nat) (D0 : List Int) (q : List (List Int)) (B : Nat) (hB : w3.heap.size ≤ B) : OwnFrom B (FoldI w3 n i D0 q) := by
  rintro pre X Y row ⟨⟨h1, ⟨sp, cap, h2, h3⟩, h4, h5⟩, hb⟩ hg hr
  have hr' := fun r e => (hr r e).2
  exact ⟨⟨row_own _ _ _ _ () X Y row h1 hg hr', ⟨sp, cap, boxed_own (β := Unit) _ _ (fun _ => _) () X Y row h2 hg hr', h3⟩, boxed_own (β := Unit) _ _ (fun _ => _) () X Y row h4 hg hr', boxed_own (β := Unit) _ _ (fun _ => _) () X Y row h5 hg hr'⟩,
    ownFrom_below (β := Unit) (Nat.le_refl _) hB () X Y row hb hg hr⟩
theorem drop_one (q : List (List Int)) (t : Nat) (h : t < q.length) : q.drop t = q.getD t [] :: q.drop (t + 1) := by
  rw [List.drop_eq_getElem_cons h]
  simp [h]
theorem go_more (n i : Nat) (pre : List (OnWay n i)) (x : OnWay n i) (D0 : List Int) (q : List (List Int)) (h : pre.length < q.length) :
    go nodeD ((pre ++ [x]).map Subtype.val) D0 (q.take (pre ++ [x]).length) = jn nodeD x.val.2 (go nodeD (pre.map Subtype.val) D0 (q.take pre.length)) (q.getD pre.length []) := by
  rw [List.length_append, List.length_singleton, take_snocD q pre.length h, List.map_append, List.map_cons, List.map_nil]
  exact go_snoc nodeD _ _ _ _ _ (by rw [List.length_map, List.length_take]; omega)
theorem go_length : ∀ (xs : List (Nat × Nat)) (d : List Int) (q : List (List Int)), d.length = 32 → (go nodeD xs d q).length = 32 := by
  intro xs
  induction xs with
  | nil => intro d q hd; exact hd
  | cons x xs ih =>
    intro d q hd
    exact ih _ _ (jn_length _ _ _)
theorem FoldI.start (w3 : World) (n i n2 c2 : Nat) (s2 : Option Addr) (D0 : List Int) (q : List (List Int)) (X : Array Value) (hq : q.length = n2) (hQ : Digs w3 s2 c2 q) :
    FoldI w3 n i D0 q [] (((((w3.alloc (.cells X 24)).setRow w3.heap.size (rowB D0)).alloc (.cells #[.slice s2 n2 c2] 33)).alloc (.cells #[.int .i64 n] 3)).alloc (.cells #[.int .i64 i] 3)) := by
  subst hq
  obtain ⟨W1, hW1⟩ : ∃ W1, (w3.alloc (.cells X 24)).setRow w3.heap.size (rowB D0) = W1 := ⟨_, rfl⟩
  have h1 : W1.heap[w3.heap.size]? = some (.cells (rowB D0) 24 (0, 0)) := by rw [← hW1]; exact setRow_heap _ _ _ _ _ _ (heap_alloc_new _ _)
  have hs : W1.heap.size = w3.heap.size + 1 := by rw [← hW1]; simp
  have hb : Below w3.heap.size w3 W1 := by rw [← hW1]; exact below_setRow ((Below.refl _ _).alloc (Nat.le_refl _) _) (Nat.le_refl _) _
  rw [hW1]
  have b2 := ((Boxed.new W1 33 (.slice s2 q.length c2)).alloc (.cells #[.int .i64 n] 3)).alloc (.cells #[.int .i64 i] 3)
  have b3 := (Boxed.new (W1.alloc (.cells #[.slice s2 q.length c2] 33)) 3 (.int .i64 n)).alloc (.cells #[.int .i64 i] 3)
  have b4 := Boxed.new ((W1.alloc (.cells #[.slice s2 q.length c2] 33)).alloc (.cells #[.int .i64 n] 3)) 3 (.int .i64 i)
  simp only [World.size_alloc, hs, Nat.add_assoc, Nat.reduceAdd] at b2 b3 b4
  refine ⟨⟨?_, ⟨s2, c2, b2, hQ⟩, b3, b4⟩, ((hb.alloc (by omega) _).alloc (by simp; omega) _).alloc (by simp; omega) _⟩
  rw [Below.heap_alloc _ _ _ (by simp; omega), Below.heap_alloc _ _ _ (by simp; omega), Below.heap_alloc _ _ _ (by omega)]
  exact h1
set_option maxRecDepth 100000 in
set_option maxHeartbeats 4000000 in
theorem fold_in (i n : Nat) (w : World) (s1 s2 : Option Addr) (n1 n2 c1 c2 : Nat) (l : List Int) (q : List (List Int)) (hi : i < n) (hn : n ≤ 9223372036854775807) (hl1 : l.length = n1) (hb : Byt w s1 c1 l) (hs : n1 ≤ 1000000) (hq : q.length = n2) (hQ : Digs w s2 c2 q) (he : Env w)
    (hl : n2 = (wy n i 63).length) :
    CallsIn Fence.wide 6 Tryd.prog 20 #[.int .i64 n, .int .i64 i, .slice s1 n1 c1, .slice s2 n2 c2] w fun e w' => e = .returned (.tuple #[.agg (rowB (go nodeD (wy n i 63) (leafD l) q)), .int .i64 0]) ∧ Below w.heap.size w w' := by
  have HL := Lib.hid (fun W => proofLen_any n i W hi hn)
  rw [← hl] at HL
  have HLl := Lib.hid hl
  have HQ := Lib.hid hQ
  have HE := Lib.hid he
  have HQn := Lib.hid hq
  have HLf := Lib.hid (fun W (hB : Below w.heap.size w W) => leaf_any W s1 n1 c1 l hl1 (hb.below hB) (he.below hB) hs)
  have hml : n2 ≤ 9223372036854775807 := by rw [← hq]; exact hQ.len
  clear hl hQ he hq hb
  refine callsIn_of_wp_marks Tryd.func20 rfl trivial ?_ rfl
  simp only [Tryd.ntmps20, List.size_toArray, List.length_cons, List.length_nil, Nat.reduceAdd, Nat.reduceSub, Array.replicate_succ, Array.replicate_zero, List.push_toArray, List.append_toArray, List.nil_append, List.cons_append]
  gi_wp2_with (first
    | (refine ⟨trivial, ?_⟩; gi_at_call 37; refine (callsIn_wide.2 (place_yes _ _ _ (by omega) (by omega))).mono ?_; rintro e w' ⟨rfl, rfl⟩)
    | (refine ⟨trivial, ?_⟩; gi_at_call 40; refine (callsIn_wide.2 (HL.out _)).mono ?_; rintro e w2 ⟨rfl, hb2⟩))
  have HR2 : Hid (Res w w2) := (Res.new w _ (by kernel_rfl)).later hb2
  clear hb2
  refine ⟨trivial, (callsIn_wide.2 (HLf.out w2 HR2.out.below)).mono ?_⟩
  rintro e w3 ⟨rfl, hb3⟩
  have HR3 := Lib.hid (HR2.out.later hb3)
  clear hb3 HR2
  have hl32 := leafD_length l
  obtain ⟨D0, hD0⟩ : ∃ R, leafD l = R := ⟨_, rfl⟩
  rw [hD0] at hl32 ⊢
  have HD0 := Lib.hid hD0
  clear hD0
  have HZ := Lib.hid (row_dig hl32)
  have HY := Lib.hid (row_dig0 hl32)
  have HX := Lib.hid (rowB_one D0)
  gi_wp2_with (first
    | (refine wpListIn_store_row rfl 24 (.tmp 10) (.tmp 26) rfl w3.heap.size (rowB D0) rfl rfl 24 _ (heap_alloc_new _ _) HZ.out HY.out HX.out ?_)
    | (refine ⟨trivial, ?_⟩; gi_at_call 38; refine (callsIn_wide.2 (way_any _ _ _)).mono ?_; rintro e w' ⟨rfl, rfl⟩))
  simp only [Nat.add_assoc, Nat.reduceAdd]
  have hst := FoldI.start w3 n i n2 c2 s2 D0 q (rowB (zs 32)) HQn.out (HQ.out.below HR3.out.below)
  refine gen_world (Q := fun w => Code.wpIn _ _ _ _ _ _ w) _ (FoldI w3 n i D0 q []) hst ?_
  intro W0 h0
  have hsz : w3.heap.size + 4 ≤ W0.heap.size := by have := (Array.getElem?_eq_some_iff.1 h0.1.2.2.2).1; omega
  have b1 := h0.1.2.2.1
  have b2 := h0.1.2.2.2
  refine wpIn_rangeFunc_ownH rfl (by omega) (gf := 55) (lb := #[.pointer (some ⟨w3.heap.size + 2, 0, none⟩), .pointer (some ⟨w3.heap.size + 3, 0, none⟩)]) rfl trivial (enters_of Tryd.func55 (by kernel_rfl) rfl)
    (way_stops 5 (by omega) (w3.heap.size + 2) (w3.heap.size + 3) n i hi hn W0 b1.cell b2.cell) keep_t (fun W l o o' h1 h2 h3 h4 => keep_b W l o o' h1 h2 h3 h4) (Below.refl _ _) (fun _ => rfl)
    (FoldI w3 n i D0 q) (fun _ _ _ => False) (foldI_own w3 n i D0 q _ (by omega)) (fun _ _ _ _ _ hs _ _ => hs)
    h0
    (fun x a' W => ∃ Bx, w3.heap.size + 3 < Bx ∧ W.heap[Bx]? = some (.cells #[.int .i64 x.val.1, .int .i64 x.val.2] 71 (0, 0)) ∧ ∃ u31, a' =
      { tmps := #[.int .i64 n, .int .i64 i, .slice s1 n1 c1, .slice s2 n2 c2, undef, undef, undef, undef, .pointer (some ⟨w.heap.size, 0, none⟩), .int .i64 0, .pointer (some ⟨w3.heap.size, 0, none⟩),
          .pointer (some ⟨w3.heap.size + 1, 0, none⟩), .pointer (some ⟨Bx, 0, none⟩), .int .i64 i, .int .i64 n, .bool true, .bool false, undef, .slice s2 n2 c2, .int .i64 n2, .int .i64 n, .int .i64 i, .int .i64 n2,
          .bool false, undef, .slice s1 n1 c1, .agg (rowB D0), .slice s2 n2 c2, .int .i64 n, .int .i64 i,
          .func (.func 55) #[] #[.pointer (some ⟨w3.heap.size + 2, 0, none⟩), .pointer (some ⟨w3.heap.size + 3, 0, none⟩)], u31, undef, undef, undef, undef, undef, undef, undef, undef, undef], defers := [] })
    (fun x a' _ X Y row hs hg hr => by obtain ⟨Bx, h1, h2, h3⟩ := hs; exact ⟨Bx, h1, row_own Bx _ _ _ () X Y row h2 hg (fun r e => (hr r e).2), h3⟩)
    ?assign ?body ?done ?stop
  case assign =>
    rintro l pre x W K hI hK
    have l3 := (Array.getElem?_eq_some_iff.1 hI.1.2.2.2).1
    dsimp only [pv]
    gi_wp2
    exact hK _ _ ((KeepsOthers.alloc _ _).from _) (keep_of (by omega) (by omega) ((Below.refl _ _).alloc (Nat.le_refl _) _)) ((foldI_own w3 n i D0 q _ (Nat.le_refl _)).alloc _ hI) ⟨W.heap.size, l3, heap_alloc_new _ _, _, rfl⟩
  case body =>
    rintro l pre x a' W hl _ hI ⟨Bx, hBx, bX, u31, rfl⟩ hlt
    have hT : pre.length < q.length := by rw [HQn.out, HLl.out]; exact hlt
    have hgm := go_more n i pre x D0 q hT
    obtain ⟨⟨h1, ⟨sp, cap, h2, h3⟩, h4, h5⟩, hb⟩ := hI
    rw [drop_one q pre.length hT] at h3
    have hd32 := go_length (pre.map Subtype.val) D0 (q.take pre.length) hl32
    have hr32 := h3.all (q.getD pre.length []) (by simp)
    have htl := h3.tail
    obtain ⟨c, o, rfl, hrg⟩ := h3.at_ 0 (by simp)
    simp only [List.getD_cons_zero, Nat.mul_zero, Nat.add_zero] at hrg
    have hxq : x.val.2 ≤ 9223372036854775807 := by
      have h6 := (wy_mem n i 63 _ x.property).2
      have h7 := Nat.div_le_self (n - 1) (2 ^ x.val.1)
      omega
    have hcap1 : 1 ≤ cap := by have := h3.le; simp at this; omega
    obtain ⟨⟨px, qx⟩, hx⟩ := x
    simp only at hxq bX hgm ⊢
    obtain ⟨d, hd⟩ : ∃ d, go nodeD (pre.map Subtype.val) D0 (q.take pre.length) = d := ⟨_, rfl⟩
    obtain ⟨r, hr⟩ : ∃ r, q.getD pre.length [] = r := ⟨_, rfl⟩
    rw [hd] at h1 hd32 hgm
    rw [hr] at h3 hr32 hrg hgm
    obtain ⟨m, hm⟩ : ∃ m, q.length - pre.length = m := ⟨_, rfl⟩
    have hm1 : 1 ≤ m := by omega
    have hm2 : q.length - (pre ++ [(⟨(px, qx), hx⟩ : OnWay n i)]).length = m - 1 := by rw [List.length_append, List.length_singleton]; omega
    rw [hm] at h2
    have zd := row_dig hd32
    have hj32 := jn_length qx d r
    obtain ⟨E, hE⟩ : ∃ E, jn nodeD qx d r = E := ⟨_, rfl⟩
    have HJ := Lib.hid (fun W' (hB : Below w3.heap.size w3 W') => joined_any px qx d r W' hd32 hr32 (HE.out.below (HR3.out.below.trans (hB.mono HR3.out.below.size))) hxq)
    rw [hE] at HJ hj32 hgm
    have HZ1 := Lib.hid (row_dig hj32)
    have HY1 := Lib.hid (show (rowB d).size = (rowB E).size by rw [rowB_size, rowB_size, hd32, hj32])
    have HX1 := Lib.hid (rowB_one E)
    have H1 := Lib.hid h1
    have H2 := Lib.hid h2
    have H4 := Lib.hid h4
    have H5 := Lib.hid h5
    have HB := Lib.hid hb
    have HG := Lib.hid hgm
    have hrt := run_tailD (some ⟨c, o, none⟩) m cap hm1
    obtain ⟨sp', hsp'⟩ : ∃ s : Option Addr, (if cap = 1 then some (⟨c, o, none⟩ : Addr) else Option.map (fun x : Addr => x.add 32) (some (⟨c, o, none⟩ : Addr))) = s := ⟨_, rfl⟩
    rw [hsp'] at hrt htl
    have HRt := Lib.hid hrt
    have HT := Lib.hid htl
    clear hrt hsp'
    have HX2 := Lib.hid bX
    have hw : ∀ W', Below W.heap.size W W' → Below w3.heap.size w3 W' := fun W' h => HB.out.trans (h.mono HB.out.size)
    have hrg' : ∀ W', Below W.heap.size W W' → W'.rangeAt c o (r.map (Value.int .u8)) := fun W' h j v hv => ((hw W' h).cell (block_lt_of_cell (hrg j v hv))).trans (hrg j v hv)
    clear h1 h2 h3 h4 h5 hb hgm htl bX hd hr hE hrg
    gi_wp2
    refine wpIn_region_quiet_tail (C := fun W' => Below W.heap.size W W') 6 (by kernel_rfl) (by kernel_rfl) (fun ⟨_, _, h⟩ => h) (by kernel_rfl) ⟨rfl, rfl, rfl, Nat.le_refl _, fun _ _ => rfl⟩ ?_
    simp only [List.take_succ_cons, List.take_zero, List.drop_succ_cons, List.drop_zero]
    refine q_val (.agg #[.int .i64 px, .int .i64 qx]) rfl (fun W' hW' => exec_load_row 71 (.tmp 12) rfl Bx rfl 71 _ (0, 0) _ ((hW'.block Bx (Array.getElem?_eq_some_iff.1 HX2.out).1).trans HX2.out) Tryd.underlying71 rfl part_size) ?_
    simp only [Act.put, List.setIfInBounds_toArray, List.set_cons_succ, List.set_cons_zero]
    refine q_val (.agg (rowB d)) rfl (fun W' hW' => exec_load_row 24 (.tmp 10) rfl w3.heap.size rfl 24 _ (0, 0) _ ((hW'.block _ (Array.getElem?_eq_some_iff.1 H1.out).1).trans H1.out) Tryd.underlying24 rfl zd) ?_
    simp only [Act.put, List.setIfInBounds_toArray, List.set_cons_succ, List.set_cons_zero]
    refine q_val (.slice (some ⟨c, o, none⟩) m cap) rfl (fun W' hW' => exec_load1 33 (.tmp 11) rfl ⟨w3.heap.size + 1, 0, none⟩ rfl _ (Boxed.cell (boxed_below H2.out hW')) _ Tryd.underlying33 rfl) ?_
    simp only [Act.put, List.setIfInBounds_toArray, List.set_cons_succ, List.set_cons_zero]
    refine q_val (.pointer (some ⟨c, o + 32 * 0, none⟩)) rfl (fun W' _ => exec_dig_at (.tmp 34) (.const (.int .i64 0)) rfl c o m cap 0 rfl rfl (by omega)) ?_
    simp only [Act.put, List.setIfInBounds_toArray, List.set_cons_succ, List.set_cons_zero]
    refine q_val (.agg (rowB r)) rfl (fun W' hW' => exec_load_mid (.tmp 35) rfl c o rfl r hr32 (hrg' W' hW')) ?_
    simp only [Act.put, List.setIfInBounds_toArray, List.set_cons_succ, List.set_cons_zero]
    refine q_call 41 #[.agg #[.int .i64 px, .int .i64 qx], .agg (rowB d), .agg (rowB r)] (.agg (rowB E)) rfl (fun _ _ => exec_call3 41 (.tmp 32) (.tmp 33) (.tmp 36) #[71, 24, 24] _ _ _ rfl rfl rfl rfl (cfJoined _ _)) (fun W' hW' => (HJ.out W' (hw W' hW')).mono fun e W'' h => ⟨h.1, hW'.trans (h.2.mono hW'.size)⟩) ?_
    simp only [Act.put, List.setIfInBounds_toArray, List.set_cons_succ, List.set_cons_zero]
    refine wpQuiet_nil ?_
    intro W2 hW2
    have hW2' := Lib.hid hW2
    have H1b := Lib.hid ((hW2.block _ (Array.getElem?_eq_some_iff.1 H1.out).1).trans H1.out)
    have H2b := Lib.hid (boxed_below H2.out hW2)
    have H4b := Lib.hid (boxed_below H4.out hW2)
    have H5b := Lib.hid (boxed_below H5.out hW2)
    clear hW2 hw hrg'
    have G1 : Hid ((W2.setRow w3.heap.size (rowB E)).heap[w3.heap.size]? = some (.cells (rowB E) 24 (0, 0))) := setRow_heap _ _ _ _ _ _ H1b.out
    have G2 := Lib.hid (H2b.out.kept (grown_setRow (p := w3.heap.size) (cs := rowB E)) (by simp))
    have G4 := Lib.hid (H4b.out.kept (grown_setRow (p := w3.heap.size) (cs := rowB E)) (by simp))
    have G5 := Lib.hid (H5b.out.kept (grown_setRow (p := w3.heap.size) (cs := rowB E)) (by simp))
    have hc2 := G2.out.cell
    have hf2 := G2.out.frozen
    refine wpList_store_row rfl 24 (.tmp 10) (.tmp 37) rfl w3.heap.size (rowB E) rfl rfl 24 _ H1b.out HZ1.out HY1.out HX1.out ?_
    refine wpList_nil ?_
    simp only [Act.put]
    gi_wp2_with (refine wpListIn_val rfl _ (exec_cut 33 24 (.tmp 38) (some (.const (.int .i64 1))) none rfl Tryd.underlying33 _ (HRt.out _)) (fun _ h => by cases h) rfl ?_)
    have k4 := G4.out.other (B' := w3.heap.size + 1) (by omega) (.slice sp' (m - 1) (cap - 1))
    have k5 := G5.out.other (B' := w3.heap.size + 1) (by omega) (.slice sp' (m - 1) (cap - 1))
    have k2 := G2.out.set (.slice sp' (m - 1) (cap - 1))
    have hb2 := hW2'.out.mono HB.out.size
    refine ⟨(below_keeps hW2'.out).trans ((KeepsFrom.of_grownBy (grown_setRow (p := w3.heap.size) (cs := rowB E)) (fun j e => by cases e; omega)).trans (KeepsFrom.of_grownBy (grownBy_setCell' _ (w3.heap.size + 1) _) (fun j e => by cases e; omega))),
      keep_boxes H4.out H5.out k4 k5, ⟨⟨?_, ⟨_, cap - 1, by rw [hm2]; exact k2, ?_⟩, k4, k5⟩, (below_setRow (HB.out.trans hb2) (Nat.le_refl _) _).setCell (by simp) _⟩⟩
    · rw [HG.out]
      exact ((grownBy_setCell' (W2.setRow w3.heap.size (rowB E)) (w3.heap.size + 1) _).block _ (Array.getElem?_eq_some_iff.1 G1.out).1 (by simp)).trans G1.out
    · rw [List.length_append, List.length_singleton]
      exact HT.out
  case done =>
    rintro D ys W hD hys ⟨⟨h1, ⟨sp, cap, h2, h3⟩, h4, h5⟩, hB⟩ hK
    have e1 : ys.length = n2 := by rw [HLl.out, ← hys, List.length_map]
    rw [hys, e1, ← HQn.out, List.take_length] at h1
    clear h2 h3 h4 h5
    have hg32 := go_length (wy n i 63) D0 q hl32
    obtain ⟨F, hF⟩ : ∃ F, go nodeD (wy n i 63) D0 q = F := ⟨_, rfl⟩
    rw [hF] at h1 hg32
    have HZ1 := Lib.hid (row_dig hg32)
    have HY1 := Lib.hid (row_dig0 hg32)
    have HX1 := Lib.hid (rowB_one F)
    have HFh := Lib.hid hF
    have H1 := Lib.hid h1
    have HRs := Lib.hid ((hB.block _ (Array.getElem?_eq_some_iff.1 HR3.out.res).1).trans HR3.out.res)
    clear hF h1 hys
    gi_wp2_with (first
      | (refine wpListIn_val rfl (.agg (rowB F)) (exec_load_row 24 (.tmp 10) rfl w3.heap.size rfl 24 _ (0, 0) _ H1.out Tryd.underlying24 rfl HZ1.out) (fun _ h => by cases h) rfl ?_)
      | (refine wpListIn_store_row rfl 24 (.tmp 8) (.tmp 40) rfl w.heap.size (rowB F) rfl rfl 24 _ HRs.out HZ1.out HY1.out HX1.out ?_))
    have hD' : D ≠ w.heap.size := fun e => by
      have h1 := HRs.out
      rw [← e, hK] at h1
      cases h1
    have hKD : (W.setRow w.heap.size (rowB F)).heap[D]? = some (.deferred (some [])) := ((grown_setRow (p := w.heap.size) (cs := rowB F)).block D (Array.getElem?_eq_some_iff.1 hK).1 (by simpa using hD')).trans hK
    have hres : (W.setRow w.heap.size (rowB F)).heap[w.heap.size]? = some (.cells (rowB F) 24 (0, 0)) := setRow_heap _ _ _ _ _ _ HRs.out
    refine ⟨by simp, .inl ⟨_, _, rfl, run_takeDeferred hKD, ?_⟩⟩
    have hres2 : ((W.setRow w.heap.size (rowB F)).putObj D (.deferred none)).heap[w.heap.size]? = some (.cells (rowB F) 24 (0, 0)) := ((grownBy_putObj' _ D _).block _ (Array.getElem?_eq_some_iff.1 hres).1 (by simpa using Ne.symm hD')).trans hres
    have hBw : Below w.heap.size w (W.setRow w.heap.size (rowB F)) := below_setRow (HR3.out.below.trans (hB.mono HR3.out.below.size)) (Nat.le_refl _) _
    exact ⟨_, results_two Tryd.results20 _ _ w.heap.size 24 (rowB F) (0, 0) _ (.int .i64 0) rfl rfl hres2 Tryd.underlying24 rfl HZ1.out, by rw [HD0.out, HFh.out], hBw.trans (belowK_b (w := w) (Nat.le_refl _) _ D _ _ (by have := HR3.out.below.size; omega) hKD rfl rfl)⟩
  case stop =>
    rintro D c pre W _ _ h _
    exact h.elim
/-- Fold, of any n: where there is such a place, and so many digests -/
theorem fold_any (i n : Nat) (w : World) (s1 s2 : Option Addr) (n1 n2 c1 c2 : Nat) (l : List Int) (q : List (List Int)) (hi : i < n) (hn : n ≤ 9223372036854775807) (hl1 : l.length = n1) (hb : Byt w s1 c1 l) (hs : n1 ≤ 1000000) (hq : q.length = n2) (hQ : Digs w s2 c2 q) (he : Env w)
    (hl : n2 = dp 63 n i) :
    Calls Tryd.prog 20 #[.int .i64 n, .int .i64 i, .slice s1 n1 c1, .slice s2 n2 c2] w fun e w' => e = .returned (.tuple #[.agg (rowB (fd nodeD 63 n i (leafD l) q)), .int .i64 0]) ∧ Below w.heap.size w w' := by
  have e1 := dp_wy 63 n i hi (by omega)
  rw [fd_go nodeD 63 n i (leafD l) q hi (by omega) (by rw [hq, hl])]
  exact callsIn_wide.1 (fold_in i n w s1 s2 n1 n2 c1 c2 l q hi hn hl1 hb hs hq hQ he (by rw [hl, e1]))
end

end Go.Proofs.YtighmhoekbnagaaDoor
