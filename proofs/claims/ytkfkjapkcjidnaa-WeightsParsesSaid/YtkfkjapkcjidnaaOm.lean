import Derived.Test.YtkfkjapkcjidnaaOl
namespace Go.Proofs.Ytkfkjapkcjidnaa.Wg
set_option maxRecDepth 100000
open Go.ChangeShapes Go.WideShapes Go.ChangeAt Go.RowKit Go.Shelf Go.Proofs.Ytkfkjapkcjidnaa.Tn
attribute [local go_sem] Oper.semAt_some

/-! ### is a model not too great? -/
theorem small_any (w : World) (r c : Int) (sp : Option Addr) (n cap : Nat) : Calls Try.prog 21 #[.agg #[.int .i64 r, .int .i64 c, .slice sp n cap]] w fun e w' => e = .returned (.bool (decide ((n : Int) ≤ 2000))) ∧ Below w.heap.size w w' := by
  go_enter Try.func21, Try.ntmps21
  go_wp2
  go_ret
  exact ⟨rfl, (Below.refl _ _).alloc (Nat.le_refl _) _⟩
theorem small_is (w : World) (r c : Int) (sp : Option Addr) (n cap : Nat) (b : Bool) (h : decide ((n : Int) ≤ 2000) = b) : Calls Try.prog 21 #[.agg #[.int .i64 r, .int .i64 c, .slice sp n cap]] w fun e w' => e = .returned (.bool b) ∧ Below w.heap.size w w' := by
  rw [← h]
  exact small_any w r c sp n cap
/-! ### a layer's cells -/
/-- a part's cells -/
structure Pv where
  r : Int
  c : Int
  sp : Option Addr
  n : Nat
  cap : Nat
def lyC (V : Nat → Pv) : Array Value := #[.slice (V 2).sp (V 2).n (V 2).cap, .int .i64 (V 3).r, .int .i64 (V 3).c, .slice (V 3).sp (V 3).n (V 3).cap, .int .i64 (V 4).r, .int .i64 (V 4).c, .slice (V 4).sp (V 4).n (V 4).cap, .int .i64 (V 5).r, .int .i64 (V 5).c, .slice (V 5).sp (V 5).n (V 5).cap, .int .i64 (V 6).r, .int .i64 (V 6).c, .slice (V 6).sp (V 6).n (V 6).cap, .slice (V 7).sp (V 7).n (V 7).cap, .int .i64 (V 8).r, .int .i64 (V 8).c, .slice (V 8).sp (V 8).n (V 8).cap, .int .i64 (V 9).r, .int .i64 (V 9).c, .slice (V 9).sp (V 9).n (V 9).cap, .int .i64 (V 10).r, .int .i64 (V 10).c, .slice (V 10).sp (V 10).n (V 10).cap]
theorem lyC_one (V : Nat → Pv) : (lyC V).all (·.oneCell') = true := by kernel_rfl
theorem size_ly : (Try.prog.info? 65).map (·.size) = some 23 := by kernel_rfl
/-- a part's cells read as a part -/
def PvOK (W : World) (k : Nat) (q : Pv) (p : Mt) : Prop := q.n = p.l.length ∧ Nums W q.sp q.cap p.l ∧ (isVec k = false → q.r = p.r ∧ q.c = p.c)
theorem PvOK.later {W W' : World} {k : Nat} {q : Pv} {p : Mt} (h : PvOK W k q p) (hb : Below W.heap.size W W') : PvOK W' k q p := ⟨h.1, Sl.below h.2.1 (Nat.le_refl _) hb, h.2.2⟩
/-- a layer, out of its cells -/
theorem lays_range {W : World} {sl : Option Addr} {n y : Nat} {ly : Nat → Nat → Mt} (h : LaysAt W sl n ly) (hy : y < n) : ∃ b o V, sl = some ⟨b, o, none⟩ ∧ W.rangeAt b (o + y * 23) (lyC V).toList ∧ ∀ k, 2 ≤ k → k ≤ 10 → PvOK W k (V k) (ly y k) := by
  obtain ⟨b, o, e, hp⟩ := h (by omega)
  have hk : ∀ k, ∃ q : Pv, 2 ≤ k → k ≤ 10 → PvOK W k q (ly y k) ∧ (isVec k = true → W.cell? ⟨b, o + y * 23 + offK k, none⟩ = some (.slice q.sp q.n q.cap)) ∧ (isVec k = false → W.cell? ⟨b, o + y * 23 + offK k, none⟩ = some (.int .i64 q.r) ∧ W.cell? ⟨b, o + y * 23 + offK k + 1, none⟩ = some (.int .i64 q.c) ∧ W.cell? ⟨b, o + y * 23 + offK k + 2, none⟩ = some (.slice q.sp q.n q.cap)) := fun k => by
    by_cases hk : 2 ≤ k ∧ k ≤ 10
    · have h1 := hp y k hy hk.1 hk.2
      unfold PartAt at h1
      cases hv : isVec k with
      | true =>
        rw [hv, if_pos rfl] at h1
        obtain ⟨sp, cap, h2, h3⟩ := h1
        exact ⟨⟨0, 0, sp, _, cap⟩, fun _ _ => ⟨⟨rfl, h3, (fun h => by rw [hv] at h; cases h)⟩, fun _ => h2, (fun h => by cases h)⟩⟩
      | false =>
        rw [hv, if_neg (by decide)] at h1
        obtain ⟨h4, h5, sp, cap, h2, h3⟩ := h1
        exact ⟨⟨_, _, sp, _, cap⟩, fun _ _ => ⟨⟨rfl, h3, fun _ => ⟨rfl, rfl⟩⟩, (fun h => by cases h), fun _ => ⟨h4, h5, h2⟩⟩⟩
    · exact ⟨⟨0, 0, none, 0, 0⟩, fun h1 h2 => absurd ⟨h1, h2⟩ hk⟩
  obtain ⟨V, hV⟩ := Classical.axiomOfChoice hk
  refine ⟨b, o, V, e, fun j v hj => ?_, fun k h2 h3 => (hV k h2 h3).1⟩
  have g2 := (hV 2 (by omega) (by omega)).2.1 rfl
  have g7 := (hV 7 (by omega) (by omega)).2.1 rfl
  obtain ⟨a3, b3, c3⟩ := (hV 3 (by omega) (by omega)).2.2 rfl
  obtain ⟨a4, b4, c4⟩ := (hV 4 (by omega) (by omega)).2.2 rfl
  obtain ⟨a5, b5, c5⟩ := (hV 5 (by omega) (by omega)).2.2 rfl
  obtain ⟨a6, b6, c6⟩ := (hV 6 (by omega) (by omega)).2.2 rfl
  obtain ⟨a8, b8, c8⟩ := (hV 8 (by omega) (by omega)).2.2 rfl
  obtain ⟨a9, b9, c9⟩ := (hV 9 (by omega) (by omega)).2.2 rfl
  obtain ⟨a10, b10, c10⟩ := (hV 10 (by omega) (by omega)).2.2 rfl
  have hl : j < 23 := (List.getElem?_eq_some_iff.1 hj).1
  rcases j with _ | _ | _ | _ | _ | _ | _ | _ | _ | _ | _ | _ | _ | _ | _ | _ | _ | _ | _ | _ | _ | _ | _ | j
  all_goals first
    | omega
    | (cases hj; assumption)
theorem wpList_exec {P : Program} {w : World} {ops : Array Oper} {rest : List Oper} {o : Oper} {a : Act} {Q : Exit → Act → World → Prop} (hgd : o.guard = none) (v : Value) (h : (execOp a.eval o).run P w = .ok (.value v) w) (k : wpList P ops Q rest (a.put o.dst v) w) : wpList P ops Q (o :: rest) a w := by
  refine wpList_plain hgd fun K hK => ?_
  unfold Oper.wp
  rw [h]
  exact hK _ _ k
theorem exec_at23 {P : Program} {a : Act} {o : Oper} {W : World} (t e : TypeId) (ht : P.underlying t = some (.slice e)) (hs : (P.info? e).map (·.size) = some 23) (x y : Operand) (ho : o.op = .indexAddr t x y) (c k n cap i : Nat) (hx : a.eval x = .slice (some ⟨c, k, none⟩) n cap) (hy : a.eval y = .int .i64 (i : Int)) (hi : i < n) : (execOp a.eval o).run P W = .ok (.value (.pointer (some ⟨c, k + i * 23, none⟩))) W := by
  have hadd := Tn.add_plain c k (i * 23)
  cases hq : P.info? e with
  | none => simp [hq] at hs
  | some j =>
    have hj : j.size = 23 := by simpa [hq] using hs
    unfold execOp
    simp [ho, hx, hy, Instr.indexAt, asIntOf, run_underlying ht, sizeOf, typeInfo, hq, hj, hi, hadd]
/-- what is known of a model that is not too great -/
def FewV (v : Wv) (m : Md) : Prop := v.na ≤ 300 ∧ v.np ≤ 60 ∧ v.nn ≤ 100 ∧ v.ne ≤ 2000 ∧ v.no ≤ 2000 ∧ v.nl ≤ 4 ∧ ∀ y k, y < v.nl → 2 ≤ k → k ≤ 10 → (m.ly y k).l.length ≤ 2000
/-- what stands while the layers are gone through -/
structure FwI (w : World) (v : Wv) (W : World) : Prop where
  below : Below w.heap.size w W
  row : W.heap[w.heap.size]? = some (.cells v.cells 31 (0, 0))
theorem FwI.later {w W W' : World} {v : Wv} (h : FwI w v W) (hb : Below W.heap.size W W') : FwI w v W' := ⟨h.below.trans (hb.mono h.below.size), (hb.block _ (Array.getElem?_eq_some_iff.1 h.row).1).trans h.row⟩
theorem FwI.new (w : World) (v : Wv) : FwI w v (w.alloc (.cells v.cells 31)) := ⟨(Below.refl _ _).alloc (Nat.le_refl _) _, heap_alloc_new _ _⟩
theorem FwI.cell {w W : World} {v : Wv} (h : FwI w v W) (j : Nat) : W.cell? ⟨w.heap.size, j, none⟩ = v.cells[j]? := by rw [cell_of_row _ _ _ _ _ _ h.row]
theorem copy_cell {W : World} {b : Nat} {V : Nat → Pv} (h : W.heap[b]? = some (.cells (lyC V) 65 (0, 0))) (j : Nat) : W.cell? ⟨b, j, none⟩ = (lyC V)[j]? := by rw [cell_of_row _ _ _ _ _ _ h]
set_option maxHeartbeats 8000000 in
theorem few_any (w : World) (v : Wv) (m : Md) (hv : WvOK w v m) : Calls Try.prog 6 #[.agg v.cells] w fun e w' => ∃ b : Bool, e = .returned (.bool b) ∧ Below w.heap.size w w' ∧ (b = true → FewV v m) := by
  have HV := Lib.hid hv
  have HX := Lib.hid (FwI.new w v)
  have c6 : (w.alloc (.cells v.cells 31)).cell? ⟨w.heap.size, 6, none⟩ = some (.slice v.sa v.na v.ca) := HX.out.cell 6
  have c7 : (w.alloc (.cells v.cells 31)).cell? ⟨w.heap.size, 7, none⟩ = some (.slice v.sp v.np v.cp) := HX.out.cell 7
  have c8 : (w.alloc (.cells v.cells 31)).cell? ⟨w.heap.size, 8, none⟩ = some (.int .i64 v.er) := HX.out.cell 8
  have c9 : (w.alloc (.cells v.cells 31)).cell? ⟨w.heap.size, 9, none⟩ = some (.int .i64 v.ec) := HX.out.cell 9
  have c10 : (w.alloc (.cells v.cells 31)).cell? ⟨w.heap.size, 10, none⟩ = some (.slice v.se v.ne v.ce) := HX.out.cell 10
  have c11 : (w.alloc (.cells v.cells 31)).cell? ⟨w.heap.size, 11, none⟩ = some (.slice v.sl v.nl v.cl) := HX.out.cell 11
  have c12 : (w.alloc (.cells v.cells 31)).cell? ⟨w.heap.size, 12, none⟩ = some (.slice v.sn v.nn v.cn) := HX.out.cell 12
  have c13 : (w.alloc (.cells v.cells 31)).cell? ⟨w.heap.size, 13, none⟩ = some (.int .i64 v.xr) := HX.out.cell 13
  have c14 : (w.alloc (.cells v.cells 31)).cell? ⟨w.heap.size, 14, none⟩ = some (.int .i64 v.xc) := HX.out.cell 14
  have c15 : (w.alloc (.cells v.cells 31)).cell? ⟨w.heap.size, 15, none⟩ = some (.slice v.so v.no v.co) := HX.out.cell 15
  clear hv
  unfold Wv.cells at c6 c7 c8 c9 c10 c11 c12 c13 c14 c15 ⊢
  by_cases h1 : 4 < v.nl
  · have d1 : decide ((4 : Int) < (v.nl : Int)) = true := by simp; omega
    have e1 : decide (4 < v.nl) = true := by simp; omega
    clear h1
    go_enter Try.func6, Try.ntmps6
    go_wp2_with (first | fail)
    go_ret
    exact ⟨false, rfl, HX.out.below, fun h => by cases h⟩
  have d1 : decide ((4 : Int) < (v.nl : Int)) = false := by simp; omega
  have e1 : decide (4 < v.nl) = false := by simp; omega
  by_cases h2 : 300 < v.na
  · have d2 : decide ((300 : Int) < (v.na : Int)) = true := by simp; omega
    have e2 : decide (300 < v.na) = true := by simp; omega
    clear h1 h2
    go_enter Try.func6, Try.ntmps6
    go_wp2_with (first | fail)
    go_ret
    exact ⟨false, rfl, HX.out.below, fun h => by cases h⟩
  have d2 : decide ((300 : Int) < (v.na : Int)) = false := by simp; omega
  have e2 : decide (300 < v.na) = false := by simp; omega
  by_cases h3 : 60 < v.np
  · have d3 : decide ((60 : Int) < (v.np : Int)) = true := by simp; omega
    have e3 : decide (60 < v.np) = true := by simp; omega
    clear h1 h2 h3
    go_enter Try.func6, Try.ntmps6
    go_wp2_with (first | fail)
    go_ret
    exact ⟨false, rfl, HX.out.below, fun h => by cases h⟩
  have d3 : decide ((60 : Int) < (v.np : Int)) = false := by simp; omega
  have e3 : decide (60 < v.np) = false := by simp; omega
  by_cases h4 : 100 < v.nn
  · have d4 : decide ((100 : Int) < (v.nn : Int)) = true := by simp; omega
    have e4 : decide (100 < v.nn) = true := by simp; omega
    clear h1 h2 h3 h4
    go_enter Try.func6, Try.ntmps6
    go_wp2_with (first | fail)
    go_ret
    exact ⟨false, rfl, HX.out.below, fun h => by cases h⟩
  have d4 : decide ((100 : Int) < (v.nn : Int)) = false := by simp; omega
  have e4 : decide (100 < v.nn) = false := by simp; omega
  by_cases h5 : ¬ v.ne ≤ 2000
  · have d5 : decide ((v.ne : Int) ≤ 2000) = false := by simp; omega
    clear h1 h2 h3 h4 h5
    go_enter Try.func6, Try.ntmps6
    go_wp2_with (first | fail | (go_at_call 21; refine (small_is _ v.er v.ec v.se v.ne v.ce _ d5).mono ?_; rintro e wA ⟨rfl, hbA⟩; have HA := Lib.hid (HX.out.later hbA); have c11 : (wA).cell? ⟨w.heap.size, 11, none⟩ = some (.slice v.sl v.nl v.cl) := HA.out.cell 11; have c13 : (wA).cell? ⟨w.heap.size, 13, none⟩ = some (.int .i64 v.xr) := HA.out.cell 13; have c14 : (wA).cell? ⟨w.heap.size, 14, none⟩ = some (.int .i64 v.xc) := HA.out.cell 14; have c15 : (wA).cell? ⟨w.heap.size, 15, none⟩ = some (.slice v.so v.no v.co) := HA.out.cell 15; clear hbA))
    go_ret
    exact ⟨false, rfl, HA.out.below, fun h => by cases h⟩
  have d5 : decide ((v.ne : Int) ≤ 2000) = true := by simp; omega
  by_cases h6 : ¬ v.no ≤ 2000
  · have d6 : decide ((v.no : Int) ≤ 2000) = false := by simp; omega
    clear h1 h2 h3 h4 h5 h6
    go_enter Try.func6, Try.ntmps6
    go_wp2_with (first | fail | (go_at_call 21; refine (small_is _ v.er v.ec v.se v.ne v.ce _ d5).mono ?_; rintro e wA ⟨rfl, hbA⟩; have HA := Lib.hid (HX.out.later hbA); have c11 : (wA).cell? ⟨w.heap.size, 11, none⟩ = some (.slice v.sl v.nl v.cl) := HA.out.cell 11; have c13 : (wA).cell? ⟨w.heap.size, 13, none⟩ = some (.int .i64 v.xr) := HA.out.cell 13; have c14 : (wA).cell? ⟨w.heap.size, 14, none⟩ = some (.int .i64 v.xc) := HA.out.cell 14; have c15 : (wA).cell? ⟨w.heap.size, 15, none⟩ = some (.slice v.so v.no v.co) := HA.out.cell 15; clear hbA) | (go_at_call 21; refine (small_is _ v.xr v.xc v.so v.no v.co _ d6).mono ?_; rintro e wB ⟨rfl, hbB⟩; have HB := Lib.hid (HA.out.later hbB); have c11 : (wB).cell? ⟨w.heap.size, 11, none⟩ = some (.slice v.sl v.nl v.cl) := HB.out.cell 11; clear hbB))
    go_ret
    exact ⟨false, rfl, HB.out.below, fun h => by cases h⟩
  have d6 : decide ((v.no : Int) ≤ 2000) = true := by simp; omega
  have HT : Hid (v.na ≤ 300 ∧ v.np ≤ 60 ∧ v.nn ≤ 100 ∧ v.ne ≤ 2000 ∧ v.no ≤ 2000 ∧ v.nl ≤ 4) := Lib.hid (by omega)
  clear h1 h2 h3 h4 h5 h6
  go_enter Try.func6, Try.ntmps6
  go_wp2_with (first | (go_at_call 21; refine (small_is _ v.er v.ec v.se v.ne v.ce _ d5).mono ?_; rintro e wA ⟨rfl, hbA⟩; have HA := Lib.hid (HX.out.later hbA); have c11 : (wA).cell? ⟨w.heap.size, 11, none⟩ = some (.slice v.sl v.nl v.cl) := HA.out.cell 11; have c13 : (wA).cell? ⟨w.heap.size, 13, none⟩ = some (.int .i64 v.xr) := HA.out.cell 13; have c14 : (wA).cell? ⟨w.heap.size, 14, none⟩ = some (.int .i64 v.xc) := HA.out.cell 14; have c15 : (wA).cell? ⟨w.heap.size, 15, none⟩ = some (.slice v.so v.no v.co) := HA.out.cell 15; clear hbA) | (go_at_call 21; refine (small_is _ v.xr v.xc v.so v.no v.co _ d6).mono ?_; rintro e wB ⟨rfl, hbB⟩; have HB := Lib.hid (HA.out.later hbB); have c11 : (wB).cell? ⟨w.heap.size, 11, none⟩ = some (.slice v.sl v.nl v.cl) := HB.out.cell 11; clear hbB))
  go_loopw [3, 4] (fun iv _ wr => ∃ i : Nat, i ≤ v.nl ∧ iv = .int .i64 (i : Int) ∧ FwI w v wr ∧ ∀ y k, y < i → 2 ≤ k → k ≤ 10 → (m.ly y k).l.length ≤ 2000) (fun iv _ _ => v.nl - (intOf iv).toNat)
  case atStart => exact ⟨0, by omega, rfl, HB.out, fun y k hy => by omega⟩
  case round =>
  obtain ⟨i, hi, rfl, hx, hall⟩ := hrel
  have HXr := Lib.hid hx
  have HAll := Lib.hid hall
  have c11 : (wr).cell? ⟨w.heap.size, 11, none⟩ = some (.slice v.sl v.nl v.cl) := HXr.out.cell 11
  clear hx hall
  clear c6 c7 c8 c9 c10 c12 c13 c14 c15 d1 e1 d2 e2 d3 e3 d4 e4 d5 d6
  have hnl : v.nl ≤ 4 := HT.out.2.2.2.2.2
  by_cases hlt : i < v.nl
  · have d7 : decide (i < v.nl) = true := by simp; omega
    obtain ⟨lb, lo, V, hsl, hrg, hpv⟩ := lays_range (HV.out.later HXr.out.below).ls hlt
    rw [hsl] at c11
    clear hsl
    have HRg := Lib.hid hrg
    have HPv := Lib.hid hpv
    have HLt := Lib.hid hlt
    clear hrg hpv
    have hc0 := copy_cell (heap_alloc_new wr (.cells (lyC V) 65))
    go_upto_region 7 with (first
      | (refine wpList_exec rfl (.pointer (some ⟨lb, lo + i * 23, none⟩)) (exec_at23 29 65 Try.underlying29 size_ly (.tmp 47) (.tmp 48) rfl lb lo v.nl v.cl i rfl rfl HLt.out) ?_)
      | (refine wpList_load_mid rfl 65 (.tmp 49) rfl lb (lo + i * 23) rfl (lyC V).toList _ HRg.out Try.underlying65 rfl size_ly ?_)
      | (refine wpList_store_newW rfl 65 (.tmp 4) (.tmp 50) rfl (lyC V) zLy 65 rfl rfl rfl size_ly rfl (lyC_one V) ?_))
    have hal : Below wr.heap.size wr (wr.alloc (.cells (lyC V) 65)) := (Below.refl _ _).alloc (Nat.le_refl _) _
    have HF2 := Lib.hid (HXr.out.later hal)
    have HC2 := Lib.hid (heap_alloc_new wr (.cells (lyC V) 65))
    have hnn : i < 5 := by have := HLt.out; omega
    obtain ⟨b4, hb4⟩ : ∃ b4, wr.heap.size = b4 := ⟨_, rfl⟩
    obtain ⟨W2, hW2⟩ : ∃ W2, wr.alloc (.cells (lyC V) 65) = W2 := ⟨_, rfl⟩
    rw [hb4] at HC2 ⊢
    rw [hW2] at HF2 HC2 ⊢
    clear hc0 hal hb4 hW2 c11
    have l0 : (W2).cell? ⟨b4, 0, none⟩ = some (.slice (V 2).sp (V 2).n (V 2).cap) := copy_cell HC2.out 0
    have l13 : (W2).cell? ⟨b4, 13, none⟩ = some (.slice (V 7).sp (V 7).n (V 7).cap) := copy_cell HC2.out 13
    have l1 : (W2).cell? ⟨b4, 1, none⟩ = some (.int .i64 (V 3).r) := copy_cell HC2.out 1
    have l2 : (W2).cell? ⟨b4, 2, none⟩ = some (.int .i64 (V 3).c) := copy_cell HC2.out 2
    have l3 : (W2).cell? ⟨b4, 3, none⟩ = some (.slice (V 3).sp (V 3).n (V 3).cap) := copy_cell HC2.out 3
    by_cases q1 : 100 < (V 2).n
    · have g1 : decide ((100 : Int) < ((V 2).n : Int)) = true := by simp; omega
      have f1 : decide (100 < (V 2).n) = true := by simp; omega
      clear q1
      go_wp2_with (first | fail)
      go_ret
      exact ⟨false, rfl, HF2.out.below, fun h => by cases h⟩
    have g1 : decide ((100 : Int) < ((V 2).n : Int)) = false := by simp; omega
    have f1 : decide (100 < (V 2).n) = false := by simp; omega
    by_cases q2 : 100 < (V 7).n
    · have g2 : decide ((100 : Int) < ((V 7).n : Int)) = true := by simp; omega
      have f2 : decide (100 < (V 7).n) = true := by simp; omega
      clear q1 q2
      go_wp2_with (first | fail)
      go_ret
      exact ⟨false, rfl, HF2.out.below, fun h => by cases h⟩
    have g2 : decide ((100 : Int) < ((V 7).n : Int)) = false := by simp; omega
    have f2 : decide (100 < (V 7).n) = false := by simp; omega
    by_cases q3 : ¬ (V 3).n ≤ 2000
    · have g3 : decide (((V 3).n : Int) ≤ 2000) = false := by simp; omega
      clear q1 q2 q3
      go_wp2_with (first | fail | (go_at_call 21; refine (small_is _ (V 3).r (V 3).c (V 3).sp (V 3).n (V 3).cap _ g3).mono ?_; rintro e X3 ⟨rfl, hbX⟩; have HFx3 := Lib.hid (HF2.out.later hbX); have HCx3 := Lib.hid ((hbX.block _ (Array.getElem?_eq_some_iff.1 HC2.out).1).trans HC2.out); have l4 : (X3).cell? ⟨b4, 4, none⟩ = some (.int .i64 (V 4).r) := copy_cell HCx3.out 4; have l5 : (X3).cell? ⟨b4, 5, none⟩ = some (.int .i64 (V 4).c) := copy_cell HCx3.out 5; have l6 : (X3).cell? ⟨b4, 6, none⟩ = some (.slice (V 4).sp (V 4).n (V 4).cap) := copy_cell HCx3.out 6; clear hbX))
      go_ret
      exact ⟨false, rfl, HFx3.out.below, fun h => by cases h⟩
    have g3 : decide (((V 3).n : Int) ≤ 2000) = true := by simp; omega
    by_cases q4 : ¬ (V 4).n ≤ 2000
    · have g4 : decide (((V 4).n : Int) ≤ 2000) = false := by simp; omega
      clear q1 q2 q3 q4
      go_wp2_with (first | fail | (go_at_call 21; refine (small_is _ (V 3).r (V 3).c (V 3).sp (V 3).n (V 3).cap _ g3).mono ?_; rintro e X3 ⟨rfl, hbX⟩; have HFx3 := Lib.hid (HF2.out.later hbX); have HCx3 := Lib.hid ((hbX.block _ (Array.getElem?_eq_some_iff.1 HC2.out).1).trans HC2.out); have l4 : (X3).cell? ⟨b4, 4, none⟩ = some (.int .i64 (V 4).r) := copy_cell HCx3.out 4; have l5 : (X3).cell? ⟨b4, 5, none⟩ = some (.int .i64 (V 4).c) := copy_cell HCx3.out 5; have l6 : (X3).cell? ⟨b4, 6, none⟩ = some (.slice (V 4).sp (V 4).n (V 4).cap) := copy_cell HCx3.out 6; clear hbX) | (go_at_call 21; refine (small_is _ (V 4).r (V 4).c (V 4).sp (V 4).n (V 4).cap _ g4).mono ?_; rintro e X4 ⟨rfl, hbX⟩; have HFx4 := Lib.hid (HFx3.out.later hbX); have HCx4 := Lib.hid ((hbX.block _ (Array.getElem?_eq_some_iff.1 HCx3.out).1).trans HCx3.out); have l7 : (X4).cell? ⟨b4, 7, none⟩ = some (.int .i64 (V 5).r) := copy_cell HCx4.out 7; have l8 : (X4).cell? ⟨b4, 8, none⟩ = some (.int .i64 (V 5).c) := copy_cell HCx4.out 8; have l9 : (X4).cell? ⟨b4, 9, none⟩ = some (.slice (V 5).sp (V 5).n (V 5).cap) := copy_cell HCx4.out 9; clear hbX))
      go_ret
      exact ⟨false, rfl, HFx4.out.below, fun h => by cases h⟩
    have g4 : decide (((V 4).n : Int) ≤ 2000) = true := by simp; omega
    by_cases q5 : ¬ (V 5).n ≤ 2000
    · have g5 : decide (((V 5).n : Int) ≤ 2000) = false := by simp; omega
      clear q1 q2 q3 q4 q5
      go_wp2_with (first | fail | (go_at_call 21; refine (small_is _ (V 3).r (V 3).c (V 3).sp (V 3).n (V 3).cap _ g3).mono ?_; rintro e X3 ⟨rfl, hbX⟩; have HFx3 := Lib.hid (HF2.out.later hbX); have HCx3 := Lib.hid ((hbX.block _ (Array.getElem?_eq_some_iff.1 HC2.out).1).trans HC2.out); have l4 : (X3).cell? ⟨b4, 4, none⟩ = some (.int .i64 (V 4).r) := copy_cell HCx3.out 4; have l5 : (X3).cell? ⟨b4, 5, none⟩ = some (.int .i64 (V 4).c) := copy_cell HCx3.out 5; have l6 : (X3).cell? ⟨b4, 6, none⟩ = some (.slice (V 4).sp (V 4).n (V 4).cap) := copy_cell HCx3.out 6; clear hbX) | (go_at_call 21; refine (small_is _ (V 4).r (V 4).c (V 4).sp (V 4).n (V 4).cap _ g4).mono ?_; rintro e X4 ⟨rfl, hbX⟩; have HFx4 := Lib.hid (HFx3.out.later hbX); have HCx4 := Lib.hid ((hbX.block _ (Array.getElem?_eq_some_iff.1 HCx3.out).1).trans HCx3.out); have l7 : (X4).cell? ⟨b4, 7, none⟩ = some (.int .i64 (V 5).r) := copy_cell HCx4.out 7; have l8 : (X4).cell? ⟨b4, 8, none⟩ = some (.int .i64 (V 5).c) := copy_cell HCx4.out 8; have l9 : (X4).cell? ⟨b4, 9, none⟩ = some (.slice (V 5).sp (V 5).n (V 5).cap) := copy_cell HCx4.out 9; clear hbX) | (go_at_call 21; refine (small_is _ (V 5).r (V 5).c (V 5).sp (V 5).n (V 5).cap _ g5).mono ?_; rintro e X5 ⟨rfl, hbX⟩; have HFx5 := Lib.hid (HFx4.out.later hbX); have HCx5 := Lib.hid ((hbX.block _ (Array.getElem?_eq_some_iff.1 HCx4.out).1).trans HCx4.out); have l10 : (X5).cell? ⟨b4, 10, none⟩ = some (.int .i64 (V 6).r) := copy_cell HCx5.out 10; have l11 : (X5).cell? ⟨b4, 11, none⟩ = some (.int .i64 (V 6).c) := copy_cell HCx5.out 11; have l12 : (X5).cell? ⟨b4, 12, none⟩ = some (.slice (V 6).sp (V 6).n (V 6).cap) := copy_cell HCx5.out 12; clear hbX))
      go_ret
      exact ⟨false, rfl, HFx5.out.below, fun h => by cases h⟩
    have g5 : decide (((V 5).n : Int) ≤ 2000) = true := by simp; omega
    by_cases q6 : ¬ (V 6).n ≤ 2000
    · have g6 : decide (((V 6).n : Int) ≤ 2000) = false := by simp; omega
      clear q1 q2 q3 q4 q5 q6
      go_wp2_with (first | fail | (go_at_call 21; refine (small_is _ (V 3).r (V 3).c (V 3).sp (V 3).n (V 3).cap _ g3).mono ?_; rintro e X3 ⟨rfl, hbX⟩; have HFx3 := Lib.hid (HF2.out.later hbX); have HCx3 := Lib.hid ((hbX.block _ (Array.getElem?_eq_some_iff.1 HC2.out).1).trans HC2.out); have l4 : (X3).cell? ⟨b4, 4, none⟩ = some (.int .i64 (V 4).r) := copy_cell HCx3.out 4; have l5 : (X3).cell? ⟨b4, 5, none⟩ = some (.int .i64 (V 4).c) := copy_cell HCx3.out 5; have l6 : (X3).cell? ⟨b4, 6, none⟩ = some (.slice (V 4).sp (V 4).n (V 4).cap) := copy_cell HCx3.out 6; clear hbX) | (go_at_call 21; refine (small_is _ (V 4).r (V 4).c (V 4).sp (V 4).n (V 4).cap _ g4).mono ?_; rintro e X4 ⟨rfl, hbX⟩; have HFx4 := Lib.hid (HFx3.out.later hbX); have HCx4 := Lib.hid ((hbX.block _ (Array.getElem?_eq_some_iff.1 HCx3.out).1).trans HCx3.out); have l7 : (X4).cell? ⟨b4, 7, none⟩ = some (.int .i64 (V 5).r) := copy_cell HCx4.out 7; have l8 : (X4).cell? ⟨b4, 8, none⟩ = some (.int .i64 (V 5).c) := copy_cell HCx4.out 8; have l9 : (X4).cell? ⟨b4, 9, none⟩ = some (.slice (V 5).sp (V 5).n (V 5).cap) := copy_cell HCx4.out 9; clear hbX) | (go_at_call 21; refine (small_is _ (V 5).r (V 5).c (V 5).sp (V 5).n (V 5).cap _ g5).mono ?_; rintro e X5 ⟨rfl, hbX⟩; have HFx5 := Lib.hid (HFx4.out.later hbX); have HCx5 := Lib.hid ((hbX.block _ (Array.getElem?_eq_some_iff.1 HCx4.out).1).trans HCx4.out); have l10 : (X5).cell? ⟨b4, 10, none⟩ = some (.int .i64 (V 6).r) := copy_cell HCx5.out 10; have l11 : (X5).cell? ⟨b4, 11, none⟩ = some (.int .i64 (V 6).c) := copy_cell HCx5.out 11; have l12 : (X5).cell? ⟨b4, 12, none⟩ = some (.slice (V 6).sp (V 6).n (V 6).cap) := copy_cell HCx5.out 12; clear hbX) | (go_at_call 21; refine (small_is _ (V 6).r (V 6).c (V 6).sp (V 6).n (V 6).cap _ g6).mono ?_; rintro e X6 ⟨rfl, hbX⟩; have HFx6 := Lib.hid (HFx5.out.later hbX); have HCx6 := Lib.hid ((hbX.block _ (Array.getElem?_eq_some_iff.1 HCx5.out).1).trans HCx5.out); have l14 : (X6).cell? ⟨b4, 14, none⟩ = some (.int .i64 (V 8).r) := copy_cell HCx6.out 14; have l15 : (X6).cell? ⟨b4, 15, none⟩ = some (.int .i64 (V 8).c) := copy_cell HCx6.out 15; have l16 : (X6).cell? ⟨b4, 16, none⟩ = some (.slice (V 8).sp (V 8).n (V 8).cap) := copy_cell HCx6.out 16; clear hbX))
      go_ret
      exact ⟨false, rfl, HFx6.out.below, fun h => by cases h⟩
    have g6 : decide (((V 6).n : Int) ≤ 2000) = true := by simp; omega
    by_cases q7 : ¬ (V 8).n ≤ 2000
    · have g7 : decide (((V 8).n : Int) ≤ 2000) = false := by simp; omega
      clear q1 q2 q3 q4 q5 q6 q7
      go_wp2_with (first | fail | (go_at_call 21; refine (small_is _ (V 3).r (V 3).c (V 3).sp (V 3).n (V 3).cap _ g3).mono ?_; rintro e X3 ⟨rfl, hbX⟩; have HFx3 := Lib.hid (HF2.out.later hbX); have HCx3 := Lib.hid ((hbX.block _ (Array.getElem?_eq_some_iff.1 HC2.out).1).trans HC2.out); have l4 : (X3).cell? ⟨b4, 4, none⟩ = some (.int .i64 (V 4).r) := copy_cell HCx3.out 4; have l5 : (X3).cell? ⟨b4, 5, none⟩ = some (.int .i64 (V 4).c) := copy_cell HCx3.out 5; have l6 : (X3).cell? ⟨b4, 6, none⟩ = some (.slice (V 4).sp (V 4).n (V 4).cap) := copy_cell HCx3.out 6; clear hbX) | (go_at_call 21; refine (small_is _ (V 4).r (V 4).c (V 4).sp (V 4).n (V 4).cap _ g4).mono ?_; rintro e X4 ⟨rfl, hbX⟩; have HFx4 := Lib.hid (HFx3.out.later hbX); have HCx4 := Lib.hid ((hbX.block _ (Array.getElem?_eq_some_iff.1 HCx3.out).1).trans HCx3.out); have l7 : (X4).cell? ⟨b4, 7, none⟩ = some (.int .i64 (V 5).r) := copy_cell HCx4.out 7; have l8 : (X4).cell? ⟨b4, 8, none⟩ = some (.int .i64 (V 5).c) := copy_cell HCx4.out 8; have l9 : (X4).cell? ⟨b4, 9, none⟩ = some (.slice (V 5).sp (V 5).n (V 5).cap) := copy_cell HCx4.out 9; clear hbX) | (go_at_call 21; refine (small_is _ (V 5).r (V 5).c (V 5).sp (V 5).n (V 5).cap _ g5).mono ?_; rintro e X5 ⟨rfl, hbX⟩; have HFx5 := Lib.hid (HFx4.out.later hbX); have HCx5 := Lib.hid ((hbX.block _ (Array.getElem?_eq_some_iff.1 HCx4.out).1).trans HCx4.out); have l10 : (X5).cell? ⟨b4, 10, none⟩ = some (.int .i64 (V 6).r) := copy_cell HCx5.out 10; have l11 : (X5).cell? ⟨b4, 11, none⟩ = some (.int .i64 (V 6).c) := copy_cell HCx5.out 11; have l12 : (X5).cell? ⟨b4, 12, none⟩ = some (.slice (V 6).sp (V 6).n (V 6).cap) := copy_cell HCx5.out 12; clear hbX) | (go_at_call 21; refine (small_is _ (V 6).r (V 6).c (V 6).sp (V 6).n (V 6).cap _ g6).mono ?_; rintro e X6 ⟨rfl, hbX⟩; have HFx6 := Lib.hid (HFx5.out.later hbX); have HCx6 := Lib.hid ((hbX.block _ (Array.getElem?_eq_some_iff.1 HCx5.out).1).trans HCx5.out); have l14 : (X6).cell? ⟨b4, 14, none⟩ = some (.int .i64 (V 8).r) := copy_cell HCx6.out 14; have l15 : (X6).cell? ⟨b4, 15, none⟩ = some (.int .i64 (V 8).c) := copy_cell HCx6.out 15; have l16 : (X6).cell? ⟨b4, 16, none⟩ = some (.slice (V 8).sp (V 8).n (V 8).cap) := copy_cell HCx6.out 16; clear hbX) | (go_at_call 21; refine (small_is _ (V 8).r (V 8).c (V 8).sp (V 8).n (V 8).cap _ g7).mono ?_; rintro e X7 ⟨rfl, hbX⟩; have HFx7 := Lib.hid (HFx6.out.later hbX); have HCx7 := Lib.hid ((hbX.block _ (Array.getElem?_eq_some_iff.1 HCx6.out).1).trans HCx6.out); have l17 : (X7).cell? ⟨b4, 17, none⟩ = some (.int .i64 (V 9).r) := copy_cell HCx7.out 17; have l18 : (X7).cell? ⟨b4, 18, none⟩ = some (.int .i64 (V 9).c) := copy_cell HCx7.out 18; have l19 : (X7).cell? ⟨b4, 19, none⟩ = some (.slice (V 9).sp (V 9).n (V 9).cap) := copy_cell HCx7.out 19; clear hbX))
      go_ret
      exact ⟨false, rfl, HFx7.out.below, fun h => by cases h⟩
    have g7 : decide (((V 8).n : Int) ≤ 2000) = true := by simp; omega
    by_cases q8 : ¬ (V 9).n ≤ 2000
    · have g8 : decide (((V 9).n : Int) ≤ 2000) = false := by simp; omega
      clear q1 q2 q3 q4 q5 q6 q7 q8
      go_wp2_with (first | fail | (go_at_call 21; refine (small_is _ (V 3).r (V 3).c (V 3).sp (V 3).n (V 3).cap _ g3).mono ?_; rintro e X3 ⟨rfl, hbX⟩; have HFx3 := Lib.hid (HF2.out.later hbX); have HCx3 := Lib.hid ((hbX.block _ (Array.getElem?_eq_some_iff.1 HC2.out).1).trans HC2.out); have l4 : (X3).cell? ⟨b4, 4, none⟩ = some (.int .i64 (V 4).r) := copy_cell HCx3.out 4; have l5 : (X3).cell? ⟨b4, 5, none⟩ = some (.int .i64 (V 4).c) := copy_cell HCx3.out 5; have l6 : (X3).cell? ⟨b4, 6, none⟩ = some (.slice (V 4).sp (V 4).n (V 4).cap) := copy_cell HCx3.out 6; clear hbX) | (go_at_call 21; refine (small_is _ (V 4).r (V 4).c (V 4).sp (V 4).n (V 4).cap _ g4).mono ?_; rintro e X4 ⟨rfl, hbX⟩; have HFx4 := Lib.hid (HFx3.out.later hbX); have HCx4 := Lib.hid ((hbX.block _ (Array.getElem?_eq_some_iff.1 HCx3.out).1).trans HCx3.out); have l7 : (X4).cell? ⟨b4, 7, none⟩ = some (.int .i64 (V 5).r) := copy_cell HCx4.out 7; have l8 : (X4).cell? ⟨b4, 8, none⟩ = some (.int .i64 (V 5).c) := copy_cell HCx4.out 8; have l9 : (X4).cell? ⟨b4, 9, none⟩ = some (.slice (V 5).sp (V 5).n (V 5).cap) := copy_cell HCx4.out 9; clear hbX) | (go_at_call 21; refine (small_is _ (V 5).r (V 5).c (V 5).sp (V 5).n (V 5).cap _ g5).mono ?_; rintro e X5 ⟨rfl, hbX⟩; have HFx5 := Lib.hid (HFx4.out.later hbX); have HCx5 := Lib.hid ((hbX.block _ (Array.getElem?_eq_some_iff.1 HCx4.out).1).trans HCx4.out); have l10 : (X5).cell? ⟨b4, 10, none⟩ = some (.int .i64 (V 6).r) := copy_cell HCx5.out 10; have l11 : (X5).cell? ⟨b4, 11, none⟩ = some (.int .i64 (V 6).c) := copy_cell HCx5.out 11; have l12 : (X5).cell? ⟨b4, 12, none⟩ = some (.slice (V 6).sp (V 6).n (V 6).cap) := copy_cell HCx5.out 12; clear hbX) | (go_at_call 21; refine (small_is _ (V 6).r (V 6).c (V 6).sp (V 6).n (V 6).cap _ g6).mono ?_; rintro e X6 ⟨rfl, hbX⟩; have HFx6 := Lib.hid (HFx5.out.later hbX); have HCx6 := Lib.hid ((hbX.block _ (Array.getElem?_eq_some_iff.1 HCx5.out).1).trans HCx5.out); have l14 : (X6).cell? ⟨b4, 14, none⟩ = some (.int .i64 (V 8).r) := copy_cell HCx6.out 14; have l15 : (X6).cell? ⟨b4, 15, none⟩ = some (.int .i64 (V 8).c) := copy_cell HCx6.out 15; have l16 : (X6).cell? ⟨b4, 16, none⟩ = some (.slice (V 8).sp (V 8).n (V 8).cap) := copy_cell HCx6.out 16; clear hbX) | (go_at_call 21; refine (small_is _ (V 8).r (V 8).c (V 8).sp (V 8).n (V 8).cap _ g7).mono ?_; rintro e X7 ⟨rfl, hbX⟩; have HFx7 := Lib.hid (HFx6.out.later hbX); have HCx7 := Lib.hid ((hbX.block _ (Array.getElem?_eq_some_iff.1 HCx6.out).1).trans HCx6.out); have l17 : (X7).cell? ⟨b4, 17, none⟩ = some (.int .i64 (V 9).r) := copy_cell HCx7.out 17; have l18 : (X7).cell? ⟨b4, 18, none⟩ = some (.int .i64 (V 9).c) := copy_cell HCx7.out 18; have l19 : (X7).cell? ⟨b4, 19, none⟩ = some (.slice (V 9).sp (V 9).n (V 9).cap) := copy_cell HCx7.out 19; clear hbX) | (go_at_call 21; refine (small_is _ (V 9).r (V 9).c (V 9).sp (V 9).n (V 9).cap _ g8).mono ?_; rintro e X8 ⟨rfl, hbX⟩; have HFx8 := Lib.hid (HFx7.out.later hbX); have HCx8 := Lib.hid ((hbX.block _ (Array.getElem?_eq_some_iff.1 HCx7.out).1).trans HCx7.out); have l20 : (X8).cell? ⟨b4, 20, none⟩ = some (.int .i64 (V 10).r) := copy_cell HCx8.out 20; have l21 : (X8).cell? ⟨b4, 21, none⟩ = some (.int .i64 (V 10).c) := copy_cell HCx8.out 21; have l22 : (X8).cell? ⟨b4, 22, none⟩ = some (.slice (V 10).sp (V 10).n (V 10).cap) := copy_cell HCx8.out 22; clear hbX))
      go_ret
      exact ⟨false, rfl, HFx8.out.below, fun h => by cases h⟩
    have g8 : decide (((V 9).n : Int) ≤ 2000) = true := by simp; omega
    by_cases q9 : ¬ (V 10).n ≤ 2000
    · have g9 : decide (((V 10).n : Int) ≤ 2000) = false := by simp; omega
      clear q1 q2 q3 q4 q5 q6 q7 q8 q9
      go_wp2_with (first | fail | (go_at_call 21; refine (small_is _ (V 3).r (V 3).c (V 3).sp (V 3).n (V 3).cap _ g3).mono ?_; rintro e X3 ⟨rfl, hbX⟩; have HFx3 := Lib.hid (HF2.out.later hbX); have HCx3 := Lib.hid ((hbX.block _ (Array.getElem?_eq_some_iff.1 HC2.out).1).trans HC2.out); have l4 : (X3).cell? ⟨b4, 4, none⟩ = some (.int .i64 (V 4).r) := copy_cell HCx3.out 4; have l5 : (X3).cell? ⟨b4, 5, none⟩ = some (.int .i64 (V 4).c) := copy_cell HCx3.out 5; have l6 : (X3).cell? ⟨b4, 6, none⟩ = some (.slice (V 4).sp (V 4).n (V 4).cap) := copy_cell HCx3.out 6; clear hbX) | (go_at_call 21; refine (small_is _ (V 4).r (V 4).c (V 4).sp (V 4).n (V 4).cap _ g4).mono ?_; rintro e X4 ⟨rfl, hbX⟩; have HFx4 := Lib.hid (HFx3.out.later hbX); have HCx4 := Lib.hid ((hbX.block _ (Array.getElem?_eq_some_iff.1 HCx3.out).1).trans HCx3.out); have l7 : (X4).cell? ⟨b4, 7, none⟩ = some (.int .i64 (V 5).r) := copy_cell HCx4.out 7; have l8 : (X4).cell? ⟨b4, 8, none⟩ = some (.int .i64 (V 5).c) := copy_cell HCx4.out 8; have l9 : (X4).cell? ⟨b4, 9, none⟩ = some (.slice (V 5).sp (V 5).n (V 5).cap) := copy_cell HCx4.out 9; clear hbX) | (go_at_call 21; refine (small_is _ (V 5).r (V 5).c (V 5).sp (V 5).n (V 5).cap _ g5).mono ?_; rintro e X5 ⟨rfl, hbX⟩; have HFx5 := Lib.hid (HFx4.out.later hbX); have HCx5 := Lib.hid ((hbX.block _ (Array.getElem?_eq_some_iff.1 HCx4.out).1).trans HCx4.out); have l10 : (X5).cell? ⟨b4, 10, none⟩ = some (.int .i64 (V 6).r) := copy_cell HCx5.out 10; have l11 : (X5).cell? ⟨b4, 11, none⟩ = some (.int .i64 (V 6).c) := copy_cell HCx5.out 11; have l12 : (X5).cell? ⟨b4, 12, none⟩ = some (.slice (V 6).sp (V 6).n (V 6).cap) := copy_cell HCx5.out 12; clear hbX) | (go_at_call 21; refine (small_is _ (V 6).r (V 6).c (V 6).sp (V 6).n (V 6).cap _ g6).mono ?_; rintro e X6 ⟨rfl, hbX⟩; have HFx6 := Lib.hid (HFx5.out.later hbX); have HCx6 := Lib.hid ((hbX.block _ (Array.getElem?_eq_some_iff.1 HCx5.out).1).trans HCx5.out); have l14 : (X6).cell? ⟨b4, 14, none⟩ = some (.int .i64 (V 8).r) := copy_cell HCx6.out 14; have l15 : (X6).cell? ⟨b4, 15, none⟩ = some (.int .i64 (V 8).c) := copy_cell HCx6.out 15; have l16 : (X6).cell? ⟨b4, 16, none⟩ = some (.slice (V 8).sp (V 8).n (V 8).cap) := copy_cell HCx6.out 16; clear hbX) | (go_at_call 21; refine (small_is _ (V 8).r (V 8).c (V 8).sp (V 8).n (V 8).cap _ g7).mono ?_; rintro e X7 ⟨rfl, hbX⟩; have HFx7 := Lib.hid (HFx6.out.later hbX); have HCx7 := Lib.hid ((hbX.block _ (Array.getElem?_eq_some_iff.1 HCx6.out).1).trans HCx6.out); have l17 : (X7).cell? ⟨b4, 17, none⟩ = some (.int .i64 (V 9).r) := copy_cell HCx7.out 17; have l18 : (X7).cell? ⟨b4, 18, none⟩ = some (.int .i64 (V 9).c) := copy_cell HCx7.out 18; have l19 : (X7).cell? ⟨b4, 19, none⟩ = some (.slice (V 9).sp (V 9).n (V 9).cap) := copy_cell HCx7.out 19; clear hbX) | (go_at_call 21; refine (small_is _ (V 9).r (V 9).c (V 9).sp (V 9).n (V 9).cap _ g8).mono ?_; rintro e X8 ⟨rfl, hbX⟩; have HFx8 := Lib.hid (HFx7.out.later hbX); have HCx8 := Lib.hid ((hbX.block _ (Array.getElem?_eq_some_iff.1 HCx7.out).1).trans HCx7.out); have l20 : (X8).cell? ⟨b4, 20, none⟩ = some (.int .i64 (V 10).r) := copy_cell HCx8.out 20; have l21 : (X8).cell? ⟨b4, 21, none⟩ = some (.int .i64 (V 10).c) := copy_cell HCx8.out 21; have l22 : (X8).cell? ⟨b4, 22, none⟩ = some (.slice (V 10).sp (V 10).n (V 10).cap) := copy_cell HCx8.out 22; clear hbX) | (go_at_call 21; refine (small_is _ (V 10).r (V 10).c (V 10).sp (V 10).n (V 10).cap _ g9).mono ?_; rintro e X9 ⟨rfl, hbX⟩; have HFx9 := Lib.hid (HFx8.out.later hbX); have HCx9 := Lib.hid ((hbX.block _ (Array.getElem?_eq_some_iff.1 HCx8.out).1).trans HCx8.out); clear hbX))
      go_ret
      exact ⟨false, rfl, HFx9.out.below, fun h => by cases h⟩
    have g9 : decide (((V 10).n : Int) ≤ 2000) = true := by simp; omega
    have HL9 : Hid (∀ k, 2 ≤ k → k ≤ 10 → (m.ly i k).l.length ≤ 2000) := Lib.hid (fun k k2 k3 => by
      rw [← (HPv.out k k2 k3).1]
      obtain rfl | rfl | rfl | rfl | rfl | rfl | rfl | rfl | rfl : k = 2 ∨ k = 3 ∨ k = 4 ∨ k = 5 ∨ k = 6 ∨ k = 7 ∨ k = 8 ∨ k = 9 ∨ k = 10 := by omega
      all_goals omega)
    clear q1 q2 q3 q4 q5 q6 q7 q8 q9
    go_wp2_with (first | (go_at_call 21; refine (small_is _ (V 3).r (V 3).c (V 3).sp (V 3).n (V 3).cap _ g3).mono ?_; rintro e X3 ⟨rfl, hbX⟩; have HFx3 := Lib.hid (HF2.out.later hbX); have HCx3 := Lib.hid ((hbX.block _ (Array.getElem?_eq_some_iff.1 HC2.out).1).trans HC2.out); have l4 : (X3).cell? ⟨b4, 4, none⟩ = some (.int .i64 (V 4).r) := copy_cell HCx3.out 4; have l5 : (X3).cell? ⟨b4, 5, none⟩ = some (.int .i64 (V 4).c) := copy_cell HCx3.out 5; have l6 : (X3).cell? ⟨b4, 6, none⟩ = some (.slice (V 4).sp (V 4).n (V 4).cap) := copy_cell HCx3.out 6; clear hbX) | (go_at_call 21; refine (small_is _ (V 4).r (V 4).c (V 4).sp (V 4).n (V 4).cap _ g4).mono ?_; rintro e X4 ⟨rfl, hbX⟩; have HFx4 := Lib.hid (HFx3.out.later hbX); have HCx4 := Lib.hid ((hbX.block _ (Array.getElem?_eq_some_iff.1 HCx3.out).1).trans HCx3.out); have l7 : (X4).cell? ⟨b4, 7, none⟩ = some (.int .i64 (V 5).r) := copy_cell HCx4.out 7; have l8 : (X4).cell? ⟨b4, 8, none⟩ = some (.int .i64 (V 5).c) := copy_cell HCx4.out 8; have l9 : (X4).cell? ⟨b4, 9, none⟩ = some (.slice (V 5).sp (V 5).n (V 5).cap) := copy_cell HCx4.out 9; clear hbX) | (go_at_call 21; refine (small_is _ (V 5).r (V 5).c (V 5).sp (V 5).n (V 5).cap _ g5).mono ?_; rintro e X5 ⟨rfl, hbX⟩; have HFx5 := Lib.hid (HFx4.out.later hbX); have HCx5 := Lib.hid ((hbX.block _ (Array.getElem?_eq_some_iff.1 HCx4.out).1).trans HCx4.out); have l10 : (X5).cell? ⟨b4, 10, none⟩ = some (.int .i64 (V 6).r) := copy_cell HCx5.out 10; have l11 : (X5).cell? ⟨b4, 11, none⟩ = some (.int .i64 (V 6).c) := copy_cell HCx5.out 11; have l12 : (X5).cell? ⟨b4, 12, none⟩ = some (.slice (V 6).sp (V 6).n (V 6).cap) := copy_cell HCx5.out 12; clear hbX) | (go_at_call 21; refine (small_is _ (V 6).r (V 6).c (V 6).sp (V 6).n (V 6).cap _ g6).mono ?_; rintro e X6 ⟨rfl, hbX⟩; have HFx6 := Lib.hid (HFx5.out.later hbX); have HCx6 := Lib.hid ((hbX.block _ (Array.getElem?_eq_some_iff.1 HCx5.out).1).trans HCx5.out); have l14 : (X6).cell? ⟨b4, 14, none⟩ = some (.int .i64 (V 8).r) := copy_cell HCx6.out 14; have l15 : (X6).cell? ⟨b4, 15, none⟩ = some (.int .i64 (V 8).c) := copy_cell HCx6.out 15; have l16 : (X6).cell? ⟨b4, 16, none⟩ = some (.slice (V 8).sp (V 8).n (V 8).cap) := copy_cell HCx6.out 16; clear hbX) | (go_at_call 21; refine (small_is _ (V 8).r (V 8).c (V 8).sp (V 8).n (V 8).cap _ g7).mono ?_; rintro e X7 ⟨rfl, hbX⟩; have HFx7 := Lib.hid (HFx6.out.later hbX); have HCx7 := Lib.hid ((hbX.block _ (Array.getElem?_eq_some_iff.1 HCx6.out).1).trans HCx6.out); have l17 : (X7).cell? ⟨b4, 17, none⟩ = some (.int .i64 (V 9).r) := copy_cell HCx7.out 17; have l18 : (X7).cell? ⟨b4, 18, none⟩ = some (.int .i64 (V 9).c) := copy_cell HCx7.out 18; have l19 : (X7).cell? ⟨b4, 19, none⟩ = some (.slice (V 9).sp (V 9).n (V 9).cap) := copy_cell HCx7.out 19; clear hbX) | (go_at_call 21; refine (small_is _ (V 9).r (V 9).c (V 9).sp (V 9).n (V 9).cap _ g8).mono ?_; rintro e X8 ⟨rfl, hbX⟩; have HFx8 := Lib.hid (HFx7.out.later hbX); have HCx8 := Lib.hid ((hbX.block _ (Array.getElem?_eq_some_iff.1 HCx7.out).1).trans HCx7.out); have l20 : (X8).cell? ⟨b4, 20, none⟩ = some (.int .i64 (V 10).r) := copy_cell HCx8.out 20; have l21 : (X8).cell? ⟨b4, 21, none⟩ = some (.int .i64 (V 10).c) := copy_cell HCx8.out 21; have l22 : (X8).cell? ⟨b4, 22, none⟩ = some (.slice (V 10).sp (V 10).n (V 10).cap) := copy_cell HCx8.out 22; clear hbX) | (go_at_call 21; refine (small_is _ (V 10).r (V 10).c (V 10).sp (V 10).n (V 10).cap _ g9).mono ?_; rintro e X9 ⟨rfl, hbX⟩; have HFx9 := Lib.hid (HFx8.out.later hbX); have HCx9 := Lib.hid ((hbX.block _ (Array.getElem?_eq_some_iff.1 HCx8.out).1).trans HCx8.out); clear hbX))
    go_roundw
    case rel => exact ⟨i + 1, by have := HLt.out; omega, by go_num, HFx9.out, fun y k hy k2 k3 => by
      by_cases he : y = i
      · rw [he]; exact HL9.out k k2 k3
      · exact HAll.out y k (by omega) k2 k3⟩
    case measure =>
      have := HLt.out
      first | omega | (show v.nl - (i + 1) < v.nl - i; omega) | (unfold intOf; omega) | (simp [intOf]; omega)
  · obtain rfl : i = v.nl := by omega
    have d7 : decide (v.nl < v.nl) = false := by simp
    go_wp2
    go_ret
    exact ⟨true, rfl, HXr.out.below, fun _ => ⟨HT.out.1, HT.out.2.1, HT.out.2.2.1, HT.out.2.2.2.1, HT.out.2.2.2.2.1, HT.out.2.2.2.2.2, HAll.out⟩⟩
end Go.Proofs.Ytkfkjapkcjidnaa.Wg
