/- Pools of rows in pages: the laws' row and ints. -/
import Derived.Test.YtcfhchdkohjbfaaLa
namespace Go.Proofs.Ytcfhchdkohjbfaa.Kv
set_option maxRecDepth 100000
open Go.ChangeShapes Go.WideShapes Go.ChangeAt Go.RowKit Go.Shelf Go.Proofs.Ytcfhchdkohjbfaa.Tn
attribute [local go_sem] Oper.semAt_some
theorem results_cell2 {P : Program} {fn : Func} {p q : Tmp} {ty tz : TypeId} (h : fn.results = #[.cell p ty, .cell q tz]) (tmps : Array Value) (w : World) (a b : Addr) (u v : Value) (d e : TypeDesc)
    (hp : tmps.getD p undef = .pointer (some a)) (hq : tmps.getD q undef = .pointer (some b)) (ha : w.cell? a = some u) (hb : w.cell? b = some v) (hu : P.underlying ty = some d) (hd : (match d with | .struct _ | .array _ _ => false | _ => true) = true) (hv : P.underlying tz = some e) (he : (match e with | .struct _ | .array _ _ => false | _ => true) = true) :
    (results fn tmps).run P w = .ok (.tuple #[u, v]) w := by
  have hp' : tmps[p]?.getD undef = .pointer (some a) := by simpa using hp
  have hq' : tmps[q]?.getD undef = .pointer (some b) := by simpa using hq
  simp [results, h, hp', hq', asAddr, run_loadVar1 ty a u ha d hu hd, run_loadVar1 tz b v hb e hv he]
/-- what stands between two rounds of row -/
def RowI (w : World) (L : List Int) (pre : List (Ix L.length)) (W : World) : Prop :=
  (∃ v, Boxed W w.heap.size 40 v ∧ W.ownsRow w.heap.size 3 1 v pre.length (pre.map fun x => numV L x.val) ∧ True) ∧ Below w.heap.size w W
theorem rowI_own (w : World) (L : List Int) (B : Nat) (hB : w.heap.size ≤ B) : OwnFrom B (RowI w L) :=
  OwnFrom.and (Own.from (holdsRow_own w.heap.size w.heap.size 40 3 1 (fun pre : List (Ix L.length) => pre.length) (fun pre => pre.map fun x => numV L x.val) (fun _ _ => True)) _) (ownFrom_below (Nat.le_refl _) hB)
theorem ownsRow_putObj' {W : World} {base n size : Nat} {e : TypeId} {v : Value} {xs : List Value} {l : Nat} {o : Obj} (h : W.ownsRow base e size v n xs) (o' : Obj) (ho : W.heap[l]? = some o) (hc : o.isCells = false) : (W.putObj l o').ownsRow base e size v n xs :=
  h.kept (grownBy_putObj' W l o') (by
    rcases h.2 with ⟨rfl, _⟩ | ⟨g, cap, cur, rfl, _, hgb, _⟩
    · exact .inl rfl
    · refine .inr fun e' => ?_
      have : g = l := by simpa [Value.ownBlock] using e'
      subst this
      rw [hgb] at ho
      cases ho
      cases hc)
theorem Row.block {w : World} {e : TypeId} {v : Value} {b : Option Nat} {xs : List Value} (h : Row w e v b xs) {c : Nat} (hc : b = some c) : ∃ cur, w.heap[c]? = some (.cells cur e (0, 0)) := by
  rcases h with ⟨rfl, _⟩ | ⟨g, cap, cur, rfl, _, h2, _⟩
  · cases hc
  · cases hc
    exact ⟨cur, h2⟩
/-- what row answers -/
def RowAns (w : World) (L : List Int) (e : Ending) (w' : World) : Prop := ∃ sq cq b', e = .returned (.tuple #[.slice sq L.length cq, .bool true]) ∧ Row w' 3 (.slice sq L.length cq) b' (L.map (Value.int .i64)) ∧ (∀ c, b' = some c → w.heap.size ≤ c) ∧ Below w.heap.size w w'
set_option maxHeartbeats 8000000 in
theorem row_in (w : World) (p : Value) (id : Int) (L : List Int) (hL : L.length ≤ 2000) (hall : Calls Try.prog 41 #[p, .int .i64 id] ((w.alloc (.cells #[.slice none 0 0] 40)).alloc (.cells #[.bool false] 4)) fun e w' => I.SeqOf ((w.alloc (.cells #[.slice none 0 0] 40)).alloc (.cells #[.bool false] 4)) L e w') :
    CallsIn Fence.wide 6 Try.prog 13 #[p, .int .i64 id] w fun e w' => RowAns w L e w' := by
  obtain ⟨i0, hi, hz0, hz1, hz2⟩ := info_parts info3
  have HA := Lib.hid hall
  have HL := Lib.hid hL
  clear hall hL
  refine callsIn_of_wp_marks Try.func13 rfl trivial ?_ rfl
  simp only [Try.ntmps13, List.size_toArray, List.length_cons, List.length_nil, Nat.reduceAdd, Nat.reduceSub, Array.replicate_succ, Array.replicate_zero, List.push_toArray, List.append_toArray, List.nil_append, List.cons_append]
  have hne : ∀ W q, (binOp .eql 75 (.func (.func 67) #[] #[.pointer (some ⟨q, 0, none⟩)]) .nilFunc).run Try.prog W = .ok (.bool false) W := fun W q => by kernel_rfl
  gi_wp2_with (refine ⟨trivial, ?_⟩; gi_at_call 41; refine (callsIn_wide.2 HA.out).mono ?_; rintro e w1 ⟨q, sq, cq, b', rfl, k1, k2, k3⟩; have K1 := Lib.hid k1; have K2 := Lib.hid k2; have K3 := Lib.hid k3; clear k1 k2 k3)
  obtain ⟨B0, hB0e⟩ : ∃ B0, w.heap.size = B0 := ⟨_, rfl⟩
  have HB0e := Lib.hid hB0e
  have hA2 : ((w.alloc (.cells #[.slice none 0 0] 40)).alloc (.cells #[.bool false] 4)).heap.size = B0 + 2 := by rw [← hB0e]; simp
  have hA3 : Below w.heap.size w ((w.alloc (.cells #[.slice none 0 0] 40)).alloc (.cells #[.bool false] 4)) := ((Below.refl _ _).alloc (Nat.le_refl _) _).alloc (by simp) _
  have r1 : w1.heap[B0]? = some (.cells #[.slice none 0 0] 40 (0, 0)) := by
    rw [K3.out.block _ (by rw [hA2]; omega), alloc_old _ _ _ (by rw [← hB0e]; simp), ← hB0e]
    exact alloc_new _ _
  have r2 : w1.heap[B0 + 1]? = some (.cells #[.bool false] 4 (0, 0)) := by
    rw [K3.out.block _ (by rw [hA2]; omega)]
    have := alloc_new (w.alloc (.cells #[.slice none 0 0] 40)) (.cells #[.bool false] 4)
    rw [World.size_alloc, hB0e] at this
    exact this
  have hs1 := K3.out.size
  rw [hA2] at hs1
  rw [hB0e]
  have HW1 := Lib.hid (hA3.trans (K3.out.mono (by rw [hA2]; omega)))
  have HR1 := Lib.hid r1
  have HR2 := Lib.hid r2
  have b0 := Boxed.new w1 40 (.slice none 0 0)
  have hB0 : Below w1.heap.size w1 (w1.alloc (.cells #[.slice none 0 0] 40)) := (Below.refl _ w1).alloc (Nat.le_refl _) _
  have hsz : (w1.alloc (.cells #[.slice none 0 0] 40)).heap.size = w1.heap.size + 1 := by simp
  have hq := (Array.getElem?_eq_some_iff.1 K1.out).1
  have c1 : (w1.alloc (.cells #[.slice none 0 0] 40)).cell? ⟨q, 0, none⟩ = some (.slice sq L.length cq) := by
    rw [cell_of_row _ _ _ _ _ _ ((hB0.block q hq).trans K1.out)]; rfl
  have hrow0 := K2.out.kept (w' := w1.alloc (.cells #[.slice none 0 0] 40)) (fun c hc => hB0.block c (K2.out.lt hc))
  obtain ⟨sp', cap', hsl, hcap, _, _⟩ := K2.out.slice
  injection hsl with e1 e2 e3
  subst e1
  subst e3
  clear e2
  have hcap2 : L.length ≤ cq := by simpa using hcap
  obtain ⟨W0, hW0⟩ : ∃ W0, w1.alloc (.cells #[.slice none 0 0] 40) = W0 := ⟨_, rfl⟩
  rw [hW0] at b0 hB0 hsz c1 hrow0 ⊢
  clear hW0 r1 r2 hA2 hA3
  refine wpIn_rangeFunc_ownH rfl (by omega) (gf := 67) (lb := #[.pointer (some ⟨q, 0, none⟩)]) rfl trivial (enters_of Try.func67 (by kernel_rfl) rfl)
    (vals_stops 5 (by omega) q w1.heap.size hq L L.length rfl (by have := HL.out; omega) sq cq hcap2 b' (fun c hc => K2.out.lt hc) W0 c1 hrow0) belowK_t (fun W l o o' h1 h2 h3 h4 => belowK_b (w := W0) hB0.size W l o o' h1 h2 h3 h4) (Below.refl _ _) (fun _ => rfl)
    (RowI w1 L) (fun _ _ _ => False) (rowI_own w1 L _ (by omega)) (fun _ _ _ _ _ hs _ _ => hs)
    ⟨⟨_, b0, World.ownsRow_nil _ _ _ _, trivial⟩, hB0⟩
    (fun x a' _ => a' = { tmps := #[p, Value.int IntKind.i64 id, undef, undef, Value.pointer (some ⟨B0, 0, none⟩), Value.pointer (some ⟨B0 + 1, 0, none⟩), .func (.func 67) #[] #[.pointer (some ⟨q, 0, none⟩)], .pointer (some ⟨w1.heap.size, 0, none⟩), numV L x.val, p, Value.int IntKind.i64 id, .func (.func 67) #[] #[.pointer (some ⟨q, 0, none⟩)], .func (.func 67) #[] #[.pointer (some ⟨q, 0, none⟩)], Value.bool false, .func (.func 67) #[] #[.pointer (some ⟨q, 0, none⟩)], numV L x.val, undef, undef, undef, undef, undef, undef, undef, undef], defers := [] })
    (fun x a' _ X Y row hs hg hr => hs)
    ?assign ?body ?done ?stop
  case assign =>
    rintro l pre x W K hI hK
    have HK := Lib.hid hK
    have HI := Lib.hid hI
    clear hK hI
    dsimp only [numV]
    gi_wp2
    exact HK.out _ _ ((KeepsOthers.refl _).from _) (Below.refl _ _) HI.out rfl
  case body =>
    rintro l pre x a' W hl _ hI rfl hlt
    obtain ⟨⟨v, hv, hr, _⟩, hb⟩ := hI
    have hcv := hv.cell
    have HV := Lib.hid hv
    have HRo := Lib.hid hr
    have HB := Lib.hid hb
    have hB1 := hb.size
    clear hv hr hb
    have hLx := HL.out
    have hd : decide (2000 < pre.length + 1) = false := by simp; omega
    have hd2 : decide ((2000 : Int) < (pre.length : Int) + 1) = false := by simp; omega
    have hd3 : decide ((2000 : Int) < ((pre.length + 1 : Nat) : Int)) = false := by simp; omega
    dsimp only [numV]
    gi_wp2_with (gi_at_builtin; refine wpListIn_append_own _ rfl _ _ 40 rfl w1.heap.size 3 i0 (.int .i64 0) 1 8 Try.underlying40 hi hz0 hz1 hz2 rfl (by decide) _ _ _ rfl (HRo.out.alloc _) ⟨W.heap.size, 0, none⟩ 1 1 [numV L x.val] rfl rfl (cell_one_new _ _ _) (by simp [numV, Value.oneCell']) (by unfold maxLen; omega) (by omega) (by simp; omega) ?_; intro v' w1' hown' hgrow _; obtain ⟨g', cap', rfl⟩ := ownsRow_succ hown'; obtain ⟨hv1, hv2, hr2, hk2, hb2⟩ := HV.out.appended (by decide) HRo.out hB1 (Nat.le_refl _) hown' hgrow; have hc1 := hv1.cell; have hf1 := hv1.frozen; have hc2 := hv2.cell)
    refine ⟨hk2.from _, hb2, ⟨_, hv2, ?_, trivial⟩, HB.out.trans hb2⟩
    rw [List.length_append, List.map_append]
    exact hr2
  case done =>
    rintro D ys W hD hys ⟨⟨v, hv, hrow, _⟩, hB⟩ hK
    obtain ⟨sv, cv, rfl, _, _, _⟩ := Sl.all1 hrow
    have hc := hv.cell
    have HH := Lib.hid hys
    have HRow := Lib.hid hrow
    have HBb := Lib.hid hB
    have q1 : W.heap[B0]? = some (.cells #[.slice none 0 0] 40 (0, 0)) := (hB.block _ (by omega)).trans HR1.out
    have q2 : W.heap[B0 + 1]? = some (.cells #[.bool false] 4 (0, 0)) := (hB.block _ (by omega)).trans HR2.out
    have p1 := cell_of_row W B0 0 _ _ _ q1
    have p2 := cell_of_row W (B0 + 1) 0 _ _ _ q2
    have f1 := row_frozen (i := 0) q1
    have f2 := row_frozen (i := 0) q2
    clear hys hrow hB
    gi_wp2
    have hown := ownsRow_putObj' HRow.out (.deferred none) hK rfl
    have hHl : ys.length = L.length := by
      have := congrArg List.length HH.out
      simpa using this
    have hHv : (ys.map fun x => numV L x.val) = L.map (Value.int .i64) := by
      have e1 : (ys.map fun x => numV L x.val) = (ys.map Subtype.val).map (numV L) := by rw [List.map_map]; rfl
      rw [e1, HH.out]
      apply List.ext_getElem?
      intro j
      rw [List.getElem?_map, List.getElem?_map]
      by_cases hj : j < L.length
      · rw [List.getElem?_range hj, List.getElem?_eq_getElem hj]
        simp [numV, hj]
      · rw [List.getElem?_eq_none (by simp; omega), List.getElem?_eq_none (by omega)]; rfl
    obtain ⟨_, b, hrw, _, hbb⟩ := Row.of_owns HRow.out
    rw [hHv] at hrw
    rw [hHl] at hrw ⊢
    have hDl : B0 + 1 < D := by omega
    have hK2 : ((W.setCell ⟨B0, 0, none⟩ (.slice sv L.length cv)).setCell ⟨B0 + 1, 0, none⟩ (.bool true)).heap[D]? = some (.deferred (some [])) := by
      rw [set_other _ _ _ _ _ (by omega), set_other _ _ _ _ _ (by omega)]; exact hK
    have t1 : ((W.setCell ⟨B0, 0, none⟩ (.slice sv L.length cv)).setCell ⟨B0 + 1, 0, none⟩ (.bool true)).heap[B0]? = some (.cells #[.slice sv L.length cv] 40 (0, 0)) := by
      rw [set_other _ _ _ _ _ (by omega), set_same _ _ _ _ _ _ q1]; rfl
    have t2 : ((W.setCell ⟨B0, 0, none⟩ (.slice sv L.length cv)).setCell ⟨B0 + 1, 0, none⟩ (.bool true)).heap[B0 + 1]? = some (.cells #[.bool true] 4 (0, 0)) := by
      rw [set_same _ _ _ _ _ _ ((set_other _ _ _ _ _ (by omega)).trans q2)]; rfl
    have t3 : ∀ c, b = some c → ((W.setCell ⟨B0, 0, none⟩ (.slice sv L.length cv)).setCell ⟨B0 + 1, 0, none⟩ (.bool true)).heap[c]? = W.heap[c]? := fun c hc => by
      have := hbb c hc
      rw [set_other _ _ _ _ _ (by omega), set_other _ _ _ _ _ (by omega)]
    have t4 : Below w.heap.size w ((W.setCell ⟨B0, 0, none⟩ (.slice sv L.length cv)).setCell ⟨B0 + 1, 0, none⟩ (.bool true)) :=
      ((HW1.out.trans (HBb.out.mono HW1.out.size)).setCell (p := ⟨B0, 0, none⟩) (by show w.heap.size ≤ B0; rw [HB0e.out]; exact Nat.le_refl _) _).setCell (p := ⟨B0 + 1, 0, none⟩) (by show w.heap.size ≤ B0 + 1; rw [HB0e.out]; omega) _
    have t5 : ∀ c, b = some c → c ≠ D := fun c hc e => by
      obtain ⟨cur, hcur⟩ := hrw.block hc
      rw [e, hK] at hcur
      cases hcur
    obtain ⟨W2, hW2⟩ : ∃ W2, (W.setCell ⟨B0, 0, none⟩ (.slice sv L.length cv)).setCell ⟨B0 + 1, 0, none⟩ (.bool true) = W2 := ⟨_, rfl⟩
    rw [hW2] at hK2 t1 t2 t3 t4 ⊢
    refine ⟨by simp, .inl ⟨_, _, rfl, run_takeDeferred hK2, ?_⟩⟩
    have hg := grownBy_putObj' W2 D (.deferred none)
    have u1 : (W2.putObj D (.deferred none)).heap[B0]? = some (.cells #[.slice sv L.length cv] 40 (0, 0)) := by
      rw [hg.block _ (Array.getElem?_eq_some_iff.1 t1).1 (fun e => by cases e; omega)]; exact t1
    have u2 : (W2.putObj D (.deferred none)).heap[B0 + 1]? = some (.cells #[.bool true] 4 (0, 0)) := by
      rw [hg.block _ (Array.getElem?_eq_some_iff.1 t2).1 (fun e => by cases e; omega)]; exact t2
    refine ⟨_, results_cell2 Try.results13 _ _ ⟨B0, 0, none⟩ ⟨B0 + 1, 0, none⟩ _ _ _ _ rfl rfl (by rw [cell_of_row _ _ _ _ _ _ u1]; rfl) (by rw [cell_of_row _ _ _ _ _ _ u2]; rfl) Try.underlying40 rfl Try.underlying4 rfl, sv, cv, b, rfl, ?_, ?_, ?_⟩
    · refine hrw.kept fun c hc => ?_
      rw [hg.block c (by
        have h1 := hrw.lt hc
        have h2 := t3 c hc
        obtain ⟨cur, hcur⟩ := hrw.block hc
        rw [hcur] at h2
        exact (Array.getElem?_eq_some_iff.1 h2).1) (fun e => t5 c hc (Option.some.inj e))]
      exact t3 c hc
    · intro c hc
      have := hbb c hc
      rw [HB0e.out]
      omega
    · exact t4.trans (belowK_b (w := w) (Nat.le_refl _) W2 D _ _ (by rw [HB0e.out]; omega) hK2 rfl rfl)
  case stop =>
    rintro D c pre W _ _ h _
    exact h.elim
end Go.Proofs.Ytcfhchdkohjbfaa.Kv
