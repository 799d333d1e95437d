import Derived.Test.YtkfkjapkcjidnaaOr
import Derived.Test.YtkfkjapkcjidnaaOn
import Derived.Test.YtkfkjapkcjidnaaBi
namespace Go.Proofs.Ytkfkjapkcjidnaa.Wg
set_option maxRecDepth 100000
open Go.ChangeShapes Go.WideShapes Go.ChangeAt Go.RowKit Go.Shelf Go.Proofs.Ytkfkjapkcjidnaa.Tn
attribute [local go_sem] Oper.semAt_some

/-! ### two models that are the same -/
theorem infoPO : (Try.prog.info? 61).map (fun i => (i.zero, i.size, i.bytes)) = some (some (.agg #[.int .i64 0, .int .i64 0, .int .i64 0, .int .i64 0, .bool false]), 5, 40) := by kernel_rfl
theorem sizePO : (Try.prog.info? 61).map (·.size) = some 5 := by kernel_rfl
theorem grown_ofO {w w' : World} (hb : Below w.heap.size w w') (row : Option Nat) : w.grownBy w' row := ⟨hb.os, hb.tape, hb.output, hb.size, fun k hk _ => hb.block k hk⟩
/-- a row of parts of one's own, beyond base -/
theorem neC_no (c : Cfg) (W : World) : (binOp .neq 23 (.agg c.cells) (.agg c.cells)).run Try.prog W = .ok (.bool false) W := by
  unfold Cfg.cells
  simp [go_sem, Try.underlying23, Try.underlying3]
theorem neP_no (x y : Int) (W : World) : (binOp .neq 82 (.agg #[.int .i64 x, .int .i64 y]) (.agg #[.int .i64 x, .int .i64 y])).run Try.prog W = .ok (.bool false) W := by
  simp [go_sem, Try.underlying82, Try.underlying3]
structure SmI (w : World) (u1 u2 : Wv) (W : World) : Prop where
  below : Below w.heap.size w W
  r1 : W.heap[w.heap.size]? = some (.cells u1.cells 31 (0, 0))
  r2 : W.heap[w.heap.size + 1]? = some (.cells u2.cells 31 (0, 0))
section
variable {w W W' : World} {u1 u2 : Wv}
theorem SmI.later (h : SmI w u1 u2 W) (hb : Below W.heap.size W W') : SmI w u1 u2 W' := ⟨h.below.trans (hb.mono h.below.size), (hb.block _ (Array.getElem?_eq_some_iff.1 h.r1).1).trans h.r1, (hb.block _ (Array.getElem?_eq_some_iff.1 h.r2).1).trans h.r2⟩
theorem SmI.c1 (h : SmI w u1 u2 W) (j : Nat) : W.cell? ⟨w.heap.size, j, none⟩ = u1.cells[j]? := by rw [cell_of_row _ _ _ _ _ _ h.r1]
theorem SmI.c2 (h : SmI w u1 u2 W) (j : Nat) : W.cell? ⟨w.heap.size + 1, j, none⟩ = u2.cells[j]? := by rw [cell_of_row _ _ _ _ _ _ h.r2]
theorem SmI.new (w : World) (u1 u2 : Wv) : SmI w u1 u2 ((w.alloc (.cells u1.cells 31)).alloc (.cells u2.cells 31)) := by
  have h1 : Below w.heap.size w (w.alloc (.cells u1.cells 31)) := (Below.refl _ _).alloc (Nat.le_refl _) _
  have r1 := heap_alloc_new w (.cells u1.cells 31)
  have s1 : (w.alloc (.cells u1.cells 31)).heap.size = w.heap.size + 1 := by simp
  obtain ⟨w1, e1⟩ : ∃ w1, w.alloc (.cells u1.cells 31) = w1 := ⟨_, rfl⟩
  rw [e1] at h1 r1 s1 ⊢
  have h2 : Below w1.heap.size w1 (w1.alloc (.cells u2.cells 31)) := (Below.refl _ _).alloc (Nat.le_refl _) _
  have r2 := heap_alloc_new w1 (.cells u2.cells 31)
  rw [s1] at r2
  exact ⟨h1.trans (h2.mono h1.size), (h2.block _ (by omega)).trans r1, r2⟩
end
theorem run_wf2 (g : Nat) (W : World) : (Instr.fieldAt 31 (.pointer (some ⟨g, 0, none⟩)) 2).run Try.prog W = .ok (.pointer (some ⟨g, 7, none⟩)) W := by kernel_rfl
section
variable {a : Act} {o : Oper} {W : World}
theorem exec_wf2 (x : Operand) (ho : o.op = .fieldAddr 31 x 2) (g : Nat) (hx : a.eval x = .pointer (some ⟨g, 0, none⟩)) : (execOp a.eval o).run Try.prog W = .ok (.value (.pointer (some ⟨g, 7, none⟩))) W := by
  unfold execOp
  simp only [ho, hx, Sem.run_bind, run_wf2, Result.andThen_ok, Sem.run_pure]
theorem exec_load_mid {P : Program} (ty : TypeId) (x : Operand) (ho : o.op = .load ty x) (b q : Nat) (hx : a.eval x = .pointer (some ⟨b, q, none⟩)) (cs : List Value) (d : TypeDesc) (hc : W.rangeAt b q cs) (hu : P.underlying ty = some d) (hd : d.isRow = true) (hi : (P.info? ty).map (·.size) = some cs.length) : (execOp a.eval o).run P W = .ok (.value (.agg cs.toArray)) W := by
  unfold execOp
  simp only [ho, hx, Instr.loadAt, Instr.sureAddr, Sem.run_bind, Sem.run_pure, Result.andThen_ok, run_loadVar_mid W b q ty cs d hc hu hd hi]
end
theorem exec_neP {a : Act} {o : Oper} {W : World} (x y : Operand) (ho : o.op = .binOp .neq 82 x y 82) (u v : Int) (hx : a.eval x = .agg #[.int .i64 u, .int .i64 v]) (hy : a.eval y = .agg #[.int .i64 u, .int .i64 v]) : (execOp a.eval o).run Try.prog W = .ok (.value (.bool false)) W := by
  unfold execOp
  have hg : (eqGuard .neq 82 x y (.agg #[.int .i64 u, .int .i64 v]) (.agg #[.int .i64 u, .int .i64 v])).run Try.prog W = .ok () W := by
    unfold eqGuard
    simp
  simp [ho, hx, hy, hg, neP_no]
/-! ### parts that are gone through -/
def pkC (p : Nat × Nat × Bool) : List Value := [.int .i64 (p.1 : Int), .int .i64 (p.2.1 : Int), .int .i64 0, .int .i64 0, .bool p.2.2]
def pksC (l : List (Nat × Nat × Bool)) : List Value := l.flatMap pkC
theorem pksC_at : ∀ (l : List (Nat × Nat × Bool)) (j m : Nat) (b : Nat × Nat × Bool), l[j]? = some b → m < 5 → (pksC l)[j * 5 + m]? = (pkC b)[m]?
  | [], j, m, b, h, _ => by simp at h
  | a :: l, 0, m, b, h, hm => by
    obtain rfl : a = b := by simpa using h
    rw [pksC, List.flatMap_cons, List.getElem?_append_left (by simp [pkC]; omega)]
    simp
  | a :: l, j + 1, m, b, h, hm => by
    rw [pksC, List.flatMap_cons, List.getElem?_append_right (by simp [pkC]; omega)]
    have e : (j + 1) * 5 + m - (pkC a).length = j * 5 + m := by simp [pkC]; omega
    rw [e]
    exact pksC_at l j m b (by simpa using h) hm
def PkR (base : Nat) (v : Value) (l : List (Nat × Nat × Bool)) (W : World) : Prop := W.ownsRow base 61 5 v l.length (pksC l) ∧ base ≤ W.heap.size
theorem PkR.later {base : Nat} {v : Value} {l : List (Nat × Nat × Bool)} {W W' : World} (h : PkR base v l W) (hb : Below W.heap.size W W') : PkR base v l W' := ⟨h.1.kept (row := none) (grown_ofO hb none) (by cases v.ownBlock <;> simp), Nat.le_trans h.2 hb.size⟩
theorem PkR.below {base : Nat} {v : Value} {l : List (Nat × Nat × Bool)} {W w1 : World} (h : PkR base v l W) (hg : W.grownBy w1 v.ownBlock) : Below base W w1 := ⟨hg.os, hg.tape, hg.output, hg.size, fun k hk => hg.block k (by have := h.2; omega) (fun e => by
  rcases h.1.2 with ⟨rfl, _⟩ | ⟨g, cap, cur, rfl, hb, _⟩
  · simp [Value.ownBlock] at e
  · have : k = g := by simpa [Value.ownBlock] using e
    omega)⟩
section
variable {W : World} {ops : Array Oper} {rest : List Oper} {o : Oper} {a : Act} {Q : Exit → Act → World → Prop}
theorem wpList_push_pk (hgd : o.guard = none) (s x : Operand) (ho : o.op = .call { callee := .builtin .append, args := #[s, x], argTypes := #[77, 77] }) (base : Nat) (v : Value) (l : List (Nat × Nat × Bool)) (b : Nat × Nat × Bool) (hs : a.eval s = v) (hown : PkR base v l W)
    (hx : a.eval x = .slice (some ⟨W.heap.size, 0, none⟩) 1 1) (hn : l.length ≤ 999999)
    (h : ∀ v' w', PkR base v' (l ++ [b]) w' → Below base W w' → wpList Try.prog ops Q rest (a.put o.dst v') w') : wpList Try.prog ops Q (o :: rest) a (W.alloc (.cells (pkC b).toArray 61)) := by
  have hbase := hown.2
  have hb : Below W.heap.size W (W.alloc (.cells (pkC b).toArray 61)) := (Below.refl _ _).alloc (Nat.le_refl _) _
  have ho' := hown.1.kept (row := none) (grown_ofO hb none) (by cases v.ownBlock <;> simp)
  obtain ⟨i0, hi, hz0, hz1, hz2⟩ := info_parts infoPO
  refine wpList_append_own _ hgd s x 77 ho base 61 i0 _ 5 40 Try.underlying77 hi hz0 hz1 hz2 rfl (by decide) v l.length (pksC l) hs ho' ⟨W.heap.size, 0, none⟩ 1 1 (pkC b) hx rfl (fun j u hj => ?_) (fun u hu => ?_) (by unfold maxLen; omega) (by omega) (by simp; omega) ?_
  · rw [Tn.add_plain, Nat.zero_add, cell_of_row _ _ _ _ _ _ (heap_alloc_new _ _)]
    simpa using hj
  · simp [pkC] at hu
    rcases hu with rfl | rfl | rfl | rfl <;> rfl
  · intro v' w' h1 h2 _
    have hsz := h2.size
    simp at hsz
    have hk : PkR base v' (l ++ [b]) w' := by
      refine ⟨?_, by omega⟩
      rw [List.length_append, List.length_singleton]
      unfold pksC at h1 ⊢
      rw [List.flatMap_append]
      simpa using h1
    exact h v' w' hk ((hb.mono hbase).trans ((PkR.below (⟨ho', by simp; omega⟩ : PkR base v l _) h2)))
end
def lk (q : Nat) : List (Nat × Nat × Bool) := [(1, 0, true), (11, 0, false), (12, 0, true)] ++ (List.range q).map fun j => (2 + j % 9, j / 9, false)
theorem lk_succ (q : Nat) : lk (q + 1) = lk q ++ [(2 + q % 9, q / 9, false)] := by simp [lk, List.range_succ]
theorem lk_len (q : Nat) : (lk q).length = 3 + q := by simp [lk]; omega
theorem lk_ok {n j : Nat} {p : Nat × Nat × Bool} (h : (lk (9 * n))[j]? = some p) : (p.1 = 1 ∧ p.2.1 = 0) ∨ (p.1 = 11 ∧ p.2.1 = 0) ∨ (p.1 = 12 ∧ p.2.1 = 0) ∨ (p.2.1 < n ∧ 2 ≤ p.1 ∧ p.1 ≤ 10) := by
  have hm := List.mem_of_getElem? h
  unfold lk at hm
  rcases List.mem_append.1 hm with hm | hm
  · simp at hm
    rcases hm with rfl | rfl | rfl
    · exact Or.inl ⟨rfl, rfl⟩
    · exact Or.inr (Or.inl ⟨rfl, rfl⟩)
    · exact Or.inr (Or.inr (Or.inl ⟨rfl, rfl⟩))
  · obtain ⟨q, hq, rfl⟩ := List.mem_map.1 hm
    have := List.mem_range.1 hq
    dsimp only
    exact Or.inr (Or.inr (Or.inr ⟨by omega, by omega, by omega⟩))
theorem PkR.at_ {base : Nat} {v : Value} {l : List (Nat × Nat × Bool)} {W : World} (h : PkR base v l W) {j : Nat} {p : Nat × Nat × Bool} (hj : l[j]? = some p) : ∃ g cap, v = .slice (some ⟨g, 0, none⟩) l.length cap ∧ W.rangeAt g (0 + j * 5) (pkC p) := by
  have hlt := (List.getElem?_eq_some_iff.1 hj).1
  rcases h.1.2 with ⟨_, h0⟩ | ⟨g, cap, cur, e, hge, hc, h1, h2, h3, h4⟩
  · omega
  · refine ⟨g, cap, e, fun m u hu => ?_⟩
    have hm : m < 5 := by have := (List.getElem?_eq_some_iff.1 hu).1; simpa [pkC] using this
    rw [cell_of_row _ _ _ _ _ _ hc, Nat.zero_add, ← hu, ← pksC_at l j m p hj hm, ← h4, List.getElem?_take, if_pos (by omega)]
    simp
theorem exec_at5 {P : Program} {a : Act} {o : Oper} {W : World} (t e : TypeId) (ht : P.underlying t = some (.slice e)) (hs : (P.info? e).map (·.size) = some 5) (x y : Operand) (ho : o.op = .indexAddr t x y) (c k n cap i : Nat) (hx : a.eval x = .slice (some ⟨c, k, none⟩) n cap) (hy : a.eval y = .int .i64 (i : Int)) (hi : i < n) : (execOp a.eval o).run P W = .ok (.value (.pointer (some ⟨c, k + i * 5, none⟩))) W := by
  have hadd := Tn.add_plain c k (i * 5)
  cases hq : P.info? e with
  | none => simp [hq] at hs
  | some j =>
    have hj : j.size = 5 := by simpa [hq] using hs
    unfold execOp
    simp [ho, hx, hy, Instr.indexAt, asIntOf, run_underlying ht, sizeOf, typeInfo, hq, hj, hi, hadd]
theorem exec_allocG {a : Act} {o : Oper} {W : World} (ho : o.op = .alloc 58) : (execOp a.eval o).run Try.prog W = .ok (.value (.pointer (some ⟨W.heap.size, 0, none⟩))) (W.alloc (.cells zGv 58)) := by
  unfold execOp
  simp only [ho]
  kernel_rfl
/-- the same, wherever they lie -/
structure Twin (m1 m2 : Md) : Prop where
  cfg : m1.cfg = m2.cfg
  al : m1.al = m2.al
  ps : m1.ps = m2.ps
  n : m1.n = m2.n
  part : ∀ k y, ((k = 1 ∧ y = 0) ∨ (k = 11 ∧ y = 0) ∨ (k = 12 ∧ y = 0) ∨ (y < m1.n ∧ 2 ≤ k ∧ k ≤ 10)) → (m1.part k y).l = (m2.part k y).l ∧ (isVec k = false → (m1.part k y).r = (m2.part k y).r ∧ (m1.part k y).c = (m2.part k y).c)
theorem MdSame.twin {a b : Md} (h : MdSame a b) (hck : a.cfg.chk = 0) (hn : a.n = a.cfg.l.toNat) : Twin a b := by
  refine ⟨h.cfg, h.al, h.ps, h.n, fun k y hk => ?_⟩
  have hO := Cfg.ok_of_chk hck
  obtain ⟨V, D, I, eb, _⟩ := cfg_blks hO
  rcases hk with ⟨rfl, rfl⟩ | ⟨rfl, rfl⟩ | ⟨rfl, rfl⟩ | ⟨hy, h2, h3⟩
  · exact h.part ⟨1, 0, V, D⟩ (by rw [eb]; exact List.mem_of_getElem? (i := 0) rfl)
  · exact h.part ⟨11, 0, 1, D⟩ (by rw [eb]; exact List.mem_of_getElem? (blks_norm _ _ _ _))
  · exact h.part ⟨12, 0, V, D⟩ (by rw [eb]; exact List.mem_of_getElem? (blks_out _ _ _ _))
  · obtain ⟨i, x, hx, rfl, rfl⟩ := lay_at (y := y) (k := k) hO (by omega) h2 h3
    exact h.part x (List.mem_of_getElem? hx)
set_option maxHeartbeats 8000000 in
theorem same_yes (w : World) (u1 u2 : Wv) (m1 m2 : Md) (hv1 : WvOK w u1 m1) (hv2 : WvOK w u2 m2) (hT : Twin m1 m2) (hn4 : m1.n ≤ 4) (hp6 : m1.ps.length ≤ 100) : Calls Try.prog 19 #[.agg u1.cells, .agg u2.cells] w fun e w' => e = .returned (.bool true) ∧ Below w.heap.size w w' := by
  have HX := Lib.hid (SmI.new w u1 u2)
  have HV1 := Lib.hid hv1
  have HV2 := Lib.hid hv2
  have HT := Lib.hid hT
  have HN : Hid (u2.nl = u1.nl ∧ u2.np = u1.np ∧ u2.na = u1.na ∧ u2.c = u1.c ∧ u1.nl ≤ 4 ∧ u1.np ≤ 100) := Lib.hid ⟨by rw [hv2.nl, hv1.nl, hT.n], by rw [hv2.np, hv1.np, hT.ps], by rw [hv2.na, hv1.na, hT.al], by rw [hv2.c, hv1.c, hT.cfg], by rw [hv1.nl]; exact hn4, by rw [hv1.np]; exact hp6⟩
  clear hv1 hv2 hT hn4 hp6
  go_enter Try.func19, Try.ntmps19
  go_upto_region 1 with fail
  refine gen_w (Q := fun w => Code.wp _ _ _ _ w) _ (SmI w u1 u2) HX.out ?_
  clear HX
  intro W1 hx
  have HX := Lib.hid hx
  clear hx
  have a0 : W1.cell? ⟨w.heap.size, 0, none⟩ = some (.int .i64 u1.c.v) := HX.out.c1 0
  have b0 : W1.cell? ⟨w.heap.size + 1, 0, none⟩ = some (.int .i64 u1.c.v) := (by have h9 := HX.out.c2 0; rw [h9]; simp only [Wv.cells, HN.out.1, HN.out.2.1, HN.out.2.2.1, HN.out.2.2.2.1]; rfl)
  have a1 : W1.cell? ⟨w.heap.size, 1, none⟩ = some (.int .i64 u1.c.d) := HX.out.c1 1
  have b1 : W1.cell? ⟨w.heap.size + 1, 1, none⟩ = some (.int .i64 u1.c.d) := (by have h9 := HX.out.c2 1; rw [h9]; simp only [Wv.cells, HN.out.1, HN.out.2.1, HN.out.2.2.1, HN.out.2.2.2.1]; rfl)
  have a2 : W1.cell? ⟨w.heap.size, 2, none⟩ = some (.int .i64 u1.c.h) := HX.out.c1 2
  have b2 : W1.cell? ⟨w.heap.size + 1, 2, none⟩ = some (.int .i64 u1.c.h) := (by have h9 := HX.out.c2 2; rw [h9]; simp only [Wv.cells, HN.out.1, HN.out.2.1, HN.out.2.2.1, HN.out.2.2.2.1]; rfl)
  have a3 : W1.cell? ⟨w.heap.size, 3, none⟩ = some (.int .i64 u1.c.l) := HX.out.c1 3
  have b3 : W1.cell? ⟨w.heap.size + 1, 3, none⟩ = some (.int .i64 u1.c.l) := (by have h9 := HX.out.c2 3; rw [h9]; simp only [Wv.cells, HN.out.1, HN.out.2.1, HN.out.2.2.1, HN.out.2.2.2.1]; rfl)
  have a4 : W1.cell? ⟨w.heap.size, 4, none⟩ = some (.int .i64 u1.c.x) := HX.out.c1 4
  have b4 : W1.cell? ⟨w.heap.size + 1, 4, none⟩ = some (.int .i64 u1.c.x) := (by have h9 := HX.out.c2 4; rw [h9]; simp only [Wv.cells, HN.out.1, HN.out.2.1, HN.out.2.2.1, HN.out.2.2.2.1]; rfl)
  have a5 : W1.cell? ⟨w.heap.size, 5, none⟩ = some (.int .i64 u1.c.i) := HX.out.c1 5
  have b5 : W1.cell? ⟨w.heap.size + 1, 5, none⟩ = some (.int .i64 u1.c.i) := (by have h9 := HX.out.c2 5; rw [h9]; simp only [Wv.cells, HN.out.1, HN.out.2.1, HN.out.2.2.1, HN.out.2.2.2.1]; rfl)
  have a6 : W1.cell? ⟨w.heap.size, 6, none⟩ = some (.slice u1.sa u1.na u1.ca) := HX.out.c1 6
  have b6 : W1.cell? ⟨w.heap.size + 1, 6, none⟩ = some (.slice u2.sa u1.na u2.ca) := (by have h9 := HX.out.c2 6; rw [h9]; simp only [Wv.cells, HN.out.1, HN.out.2.1, HN.out.2.2.1, HN.out.2.2.2.1]; rfl)
  have n0 : ∀ W, (binOp .neq 23 (.agg #[.int .i64 u1.c.v, .int .i64 u1.c.d, .int .i64 u1.c.h, .int .i64 u1.c.l, .int .i64 u1.c.x, .int .i64 u1.c.i]) (.agg #[.int .i64 u1.c.v, .int .i64 u1.c.d, .int .i64 u1.c.h, .int .i64 u1.c.l, .int .i64 u1.c.x, .int .i64 u1.c.i])).run Try.prog W = .ok (.bool false) W := fun W => neC_no u1.c W
  have dt : decide (m1.al = m1.al) = true := by simp
  have n1 : ∀ x : Nat, (x != x) = false := fun x => by simp
  have n2 : ∀ x : Int, (x != x) = false := fun x => by simp
  go_upto_region 3 with (first
    | (go_at_call 14; refine (Cd.bytes_any _ u1.sa u2.sa u1.na u1.na u1.ca u2.ca m1.al m1.al HV1.out.na.symm HV1.out.na.symm (cdBytes (HV1.out.al.below HX.out.below)) (by rw [HT.out.al]; exact cdBytes (HV2.out.al.below HX.out.below))).mono ?_; rintro e W2 ⟨rfl, q2, rfl⟩; have HX2 : Hid (SmI w u1 u2 (W1.drewN q2)) := Lib.hid (HX.out.later (drawn_below q2)); have a7 : (W1.drewN q2).cell? ⟨w.heap.size, 7, none⟩ = some (.slice u1.sp u1.np u1.cp) := HX2.out.c1 7; have b7 : (W1.drewN q2).cell? ⟨w.heap.size + 1, 7, none⟩ = some (.slice u2.sp u1.np u2.cp) := (by have h9 := HX2.out.c2 7; rw [h9]; simp only [Wv.cells, HN.out.1, HN.out.2.1, HN.out.2.2.1, HN.out.2.2.2.1]; rfl); have a11 : (W1.drewN q2).cell? ⟨w.heap.size, 11, none⟩ = some (.slice u1.sl u1.nl u1.cl) := HX2.out.c1 11; have b11 : (W1.drewN q2).cell? ⟨w.heap.size + 1, 11, none⟩ = some (.slice u2.sl u1.nl u2.cl) := (by have h9 := HX2.out.c2 11; rw [h9]; simp only [Wv.cells, HN.out.1, HN.out.2.1, HN.out.2.2.1, HN.out.2.2.2.1]; rfl)))
  clear a0 a1 a2 a3 a4 a5 a6 b0 b1 b2 b3 b4 b5 b6 n0 dt a11 b11
  go_wp2
  go_loopw [5] (fun iv wr => ∃ i : Nat, i ≤ u1.np ∧ iv = .int .i64 (i : Int) ∧ SmI w u1 u2 wr) (fun iv _ => u1.np - (intOf iv).toNat)
  case atStart => exact ⟨0, by omega, rfl, HX2.out⟩
  case round =>
  obtain ⟨i, hi, rfl, hx⟩ := hrel
  have HXr := Lib.hid hx
  clear hx a7 b7
  have a7 : wr.cell? ⟨w.heap.size, 7, none⟩ = some (.slice u1.sp u1.np u1.cp) := HXr.out.c1 7
  have b7 : wr.cell? ⟨w.heap.size + 1, 7, none⟩ = some (.slice u2.sp u1.np u2.cp) := (by have h9 := HXr.out.c2 7; rw [h9]; simp only [Wv.cells, HN.out.1, HN.out.2.1, HN.out.2.2.1, HN.out.2.2.2.1]; rfl)
  by_cases hlt : i < u1.np
  · have d1 : decide (i < u1.np) = true := by simp; omega
    have hw5 : IntKind.i64.wrap ((i : Int) + 1) = (i : Int) + 1 := IntWalk.i64_in _ (by have := HN.out.2.2.2.2.2; omega)
    obtain ⟨c1, o1, e1, hl1⟩ := (HV1.out.later HXr.out.below).ps.lies (by rw [← HV1.out.np]; omega)
    obtain ⟨c2, o2, e2, hl2⟩ := (HV2.out.later HXr.out.below).ps.lies (by rw [← HV2.out.np, HN.out.2.1]; omega)
    have hr1 := hl1 i (by rw [← HV1.out.np]; exact hlt)
    have hr2 := hl2 i (by rw [← HV2.out.np, HN.out.2.1]; exact hlt)
    rw [← HT.out.ps] at hr2
    obtain ⟨X, hX⟩ : ∃ X, (m1.ps.getD i (0, 0)).1 = X := ⟨_, rfl⟩
    obtain ⟨Y, hY⟩ : ∃ Y, (m1.ps.getD i (0, 0)).2 = Y := ⟨_, rfl⟩
    rw [hX, hY] at hr1 hr2
    rw [e1] at a7
    rw [e2] at b7
    have HA7 := Lib.hid a7
    have HB7 := Lib.hid b7
    have HR1 := Lib.hid hr1
    have HR2 := Lib.hid hr2
    have HLt := Lib.hid hlt
    clear hl1 hl2 hr1 hr2 hX hY e1 e2
    go_upto_region 6 with fail
    refine wp_region_quiet (C := fun W => Below wr.heap.size wr W) (by kernel_rfl) (by kernel_rfl) ⟨rfl, rfl, rfl, Nat.le_refl _, fun _ _ => rfl⟩ ?_
    refine q_val (.pointer (some ⟨w.heap.size, 7, none⟩)) rfl (fun W hW => exec_wf2 (.tmp 2) rfl w.heap.size rfl) ?_
    simp only [Act.put, List.setIfInBounds_toArray, List.set_cons_succ, List.set_cons_zero]
    refine q_val (.slice (some ⟨c1, o1, none⟩) u1.np u1.cp) rfl (fun W hW => Bp.exec_load1 25 (.tmp 50) rfl ⟨w.heap.size, 7, none⟩ rfl _ ((hW.cell (block_lt_of_cell HA7.out)).trans HA7.out) _ Try.underlying25 rfl) ?_
    simp only [Act.put, List.setIfInBounds_toArray, List.set_cons_succ, List.set_cons_zero]
    refine q_val (.int .i64 (i : Int)) rfl (fun W hW => by rfl) ?_
    simp only [Act.put, List.setIfInBounds_toArray, List.set_cons_succ, List.set_cons_zero]
    refine q_val (.pointer (some ⟨c1, o1 + i * 2, none⟩)) rfl (fun W hW => exec_at2 25 82 Try.underlying25 sizePr (.tmp 51) (.tmp 52) rfl c1 o1 u1.np u1.cp i rfl rfl HLt.out) ?_
    simp only [Act.put, List.setIfInBounds_toArray, List.set_cons_succ, List.set_cons_zero]
    refine q_val (.agg #[.int .i64 X, .int .i64 Y]) rfl (fun W hW => exec_load_mid 82 (.tmp 53) rfl c1 (o1 + i * 2) rfl [.int .i64 X, .int .i64 Y] _ (fun j u hu => (hW.cell (block_lt_of_cell (HR1.out j u hu))).trans (HR1.out j u hu)) Try.underlying82 rfl sizePr) ?_
    simp only [Act.put, List.setIfInBounds_toArray, List.set_cons_succ, List.set_cons_zero]
    refine q_val (.pointer (some ⟨w.heap.size + 1, 7, none⟩)) rfl (fun W hW => exec_wf2 (.tmp 3) rfl (w.heap.size + 1) rfl) ?_
    simp only [Act.put, List.setIfInBounds_toArray, List.set_cons_succ, List.set_cons_zero]
    refine q_val (.slice (some ⟨c2, o2, none⟩) u1.np u2.cp) rfl (fun W hW => Bp.exec_load1 25 (.tmp 55) rfl ⟨w.heap.size + 1, 7, none⟩ rfl _ ((hW.cell (block_lt_of_cell HB7.out)).trans HB7.out) _ Try.underlying25 rfl) ?_
    simp only [Act.put, List.setIfInBounds_toArray, List.set_cons_succ, List.set_cons_zero]
    refine q_val (.int .i64 (i : Int)) rfl (fun W hW => by rfl) ?_
    simp only [Act.put, List.setIfInBounds_toArray, List.set_cons_succ, List.set_cons_zero]
    refine q_val (.pointer (some ⟨c2, o2 + i * 2, none⟩)) rfl (fun W hW => exec_at2 25 82 Try.underlying25 sizePr (.tmp 56) (.tmp 57) rfl c2 o2 u1.np u2.cp i rfl rfl HLt.out) ?_
    simp only [Act.put, List.setIfInBounds_toArray, List.set_cons_succ, List.set_cons_zero]
    refine q_val (.agg #[.int .i64 X, .int .i64 Y]) rfl (fun W hW => exec_load_mid 82 (.tmp 58) rfl c2 (o2 + i * 2) rfl [.int .i64 X, .int .i64 Y] _ (fun j u hu => (hW.cell (block_lt_of_cell (HR2.out j u hu))).trans (HR2.out j u hu)) Try.underlying82 rfl sizePr) ?_
    simp only [Act.put, List.setIfInBounds_toArray, List.set_cons_succ, List.set_cons_zero]
    refine q_val (.bool false) rfl (fun W hW => exec_neP (.tmp 54) (.tmp 59) rfl X Y rfl rfl) ?_
    simp only [Act.put, List.setIfInBounds_toArray, List.set_cons_succ, List.set_cons_zero]
    refine wpQuiet_nil ?_
    intro W3 hW3
    have HX3 := Lib.hid (HXr.out.later hW3)
    clear hW3
    go_wp2
    go_roundw
    case rel => exact ⟨i + 1, by omega, by go_num, HX3.out⟩
    case measure => simp [intOf]; omega
  · obtain rfl : i = u1.np := by omega
    have d1 : decide (u1.np < u1.np) = false := by simp
    clear hlt hi
    have a11 : wr.cell? ⟨w.heap.size, 11, none⟩ = some (.slice u1.sl u1.nl u1.cl) := HXr.out.c1 11
    have b11 : wr.cell? ⟨w.heap.size + 1, 11, none⟩ = some (.slice u2.sl u1.nl u2.cl) := (by have h9 := HXr.out.c2 11; rw [h9]; simp only [Wv.cells, HN.out.1, HN.out.2.1, HN.out.2.2.1, HN.out.2.2.2.1]; rfl)
    go_upto_region 9 with fail
    have hpk : PkR wr.heap.size (.slice (some ⟨wr.heap.size, 0, none⟩) 3 3) (lk 0) (wr.alloc (.cells (pksC (lk 0)).toArray 61)) := by
      refine ⟨⟨by decide, Or.inr ⟨wr.heap.size, 3, _, rfl, Nat.le_refl _, heap_alloc_new _ _, Nat.le_refl _, by unfold maxLen; omega, by decide, by simp; rfl⟩⟩, by simp⟩
    have hx0 : SmI w u1 u2 (wr.alloc (.cells (pksC (lk 0)).toArray 61)) := HXr.out.later ((Below.refl _ _).alloc (Nat.le_refl _) _)
    have HBa : Hid (w.heap.size + 2 ≤ wr.heap.size) := Lib.hid (by have := (Array.getElem?_eq_some_iff.1 HXr.out.r2).1; omega)
    obtain ⟨bs, hbs⟩ : ∃ bs, wr.heap.size = bs := ⟨_, rfl⟩
    refine gen_w (Q := fun w => Code.wp _ _ _ _ w) _ (fun W => PkR bs (.slice (some ⟨bs, 0, none⟩) 3 3) (lk 0) W ∧ SmI w u1 u2 W) ⟨by rw [← hbs]; exact hpk, hx0⟩ ?_
    rw [hbs] at HBa ⊢
    clear hpk hx0 hbs a7 b7 a11 b11 d1
    rintro W5 ⟨hpk, hx5⟩
    have HP5 := Lib.hid hpk
    have HX5 := Lib.hid hx5
    clear hpk hx5
    go_wp2
    go_loopw [6, 7, 8] (fun v iv _ wr => ∃ i : Nat, i ≤ u1.nl ∧ iv = .int .i64 (i : Int) ∧ PkR bs v (lk (9 * i)) wr ∧ SmI w u1 u2 wr) (fun _ iv _ _ => u1.nl - (intOf iv).toNat)
    case atStart => exact ⟨0, by omega, rfl, HP5.out, HX5.out⟩
    case round =>
    obtain ⟨i, hi, rfl, hpk, hx⟩ := hrel
    have HP := Lib.hid hpk
    have HXq := Lib.hid hx
    clear hpk hx
    have a11 : wr.cell? ⟨w.heap.size, 11, none⟩ = some (.slice u1.sl u1.nl u1.cl) := HXq.out.c1 11
    by_cases hlt : i < u1.nl
    · have d1 : decide (i < u1.nl) = true := by simp; omega
      have HLt := Lib.hid hlt
      have hw5 : IntKind.i64.wrap ((i : Int) + 1) = (i : Int) + 1 := IntWalk.i64_in _ (by have := HN.out.2.2.2.2.1; omega)
      go_wp2
      go_loopw [6, 8] (fun v kv wr => ∃ q : Nat, q ≤ 9 ∧ kv = .int .i64 ((2 + q : Nat) : Int) ∧ PkR bs v (lk (9 * i + q)) wr ∧ SmI w u1 u2 wr) (fun _ kv _ => 11 - (intOf kv).toNat)
      case atStart => exact ⟨0, by omega, rfl, HP.out, HXq.out⟩
      case round =>
      obtain ⟨q, hq, rfl, hpk, hx⟩ := hrel
      have HPq := Lib.hid hpk
      have HXk := Lib.hid hx
      clear hpk hx
      obtain ⟨K, hK⟩ : ∃ K, 2 + q = K := ⟨_, rfl⟩
      rw [hK]
      by_cases hlq : q < 9
      · have d2 : decide ((K : Int) ≤ 10) = true := by simp; omega
        have d3 : decide (K ≤ 10) = true := by simp; omega
        have hw6 : IntKind.i64.wrap ((K : Int) + 1) = (K : Int) + 1 := IntWalk.i64_in _ (by omega)
        have hlen : (lk (9 * i + q)).length ≤ 999999 := by rw [lk_len]; have := HN.out.2.2.2.2.1; have := HLt.out; omega
        have hsn : lk (9 * i + q) ++ [(K, i, false)] = lk (9 * i + (q + 1)) := by
          rw [← Nat.add_assoc, lk_succ]
          congr 4 <;> omega
        have HSn := Lib.hid hsn
        have HLen := Lib.hid hlen
        have HK := Lib.hid hK
        have HLq := Lib.hid hlq
        clear hsn hlen hK hlq hq hlt hi
        go_wp2_with (refine wpList_push_pk rfl (.tmp 76) (.tmp 80) rfl bs _ _ (K, i, false) rfl HPq.out rfl HLen.out ?_; intro v' w' hr' hb'; have HR' := Lib.hid hr'; have HX' : Hid (SmI w u1 u2 w') := Lib.hid ⟨HXk.out.below.trans (hb'.mono (by have := HBa.out; omega)), (hb'.block _ (by have := HBa.out; omega)).trans HXk.out.r1, (hb'.block _ (by have := HBa.out; omega)).trans HXk.out.r2⟩; clear hr' hb')
        go_roundw
        case rel => exact ⟨q + 1, by have := HLq.out; omega, by rw [show 2 + (q + 1) = K + 1 by have := HK.out; omega]; go_num, by rw [← HSn.out]; exact HR'.out, HX'.out⟩
        case measure => simp [intOf]; have := HK.out; have := HLq.out; omega
      · obtain rfl : q = 9 := by omega
        have d2 : decide ((K : Int) ≤ 10) = false := by simp; omega
        have d3 : decide (K ≤ 10) = false := by simp; omega
        clear hlq hq
        go_wp2
        go_roundw
        case rel => exact ⟨i + 1, by have := HLt.out; omega, by go_num, by rw [show 9 * (i + 1) = 9 * i + 9 by omega]; exact HPq.out, HXk.out⟩
        case measure => simp [intOf]; have := HLt.out; omega
    · obtain rfl : i = u1.nl := by omega
      have d1 : decide (u1.nl < u1.nl) = false := by simp
      clear hlt hi
      have h00 : (lk (9 * u1.nl))[0]? = some (1, 0, true) := rfl
      obtain ⟨g6, cap6, e6, _⟩ := HP.out.at_ h00
      subst e6
      obtain ⟨LN, hLN⟩ : ∃ LN, (lk (9 * u1.nl)).length = LN := ⟨_, rfl⟩
      have HLN := Lib.hid hLN
      rw [hLN] at HP ⊢
      have hLb : LN ≤ 1000 := by rw [← hLN, lk_len]; have := HN.out.2.2.2.2.1; omega
      clear hLN h00
      go_wp2
      go_loopw [9, 10, 11] (fun iv _ _ wr => ∃ i : Nat, i ≤ LN ∧ iv = .int .i64 (i : Int) ∧ PkR bs (.slice (some ⟨g6, 0, none⟩) LN cap6) (lk (9 * u1.nl)) wr ∧ SmI w u1 u2 wr) (fun iv _ _ _ => LN - (intOf iv).toNat)
      case atStart => exact ⟨0, by omega, rfl, HP.out, HXq.out⟩
      case round =>
      obtain ⟨i, hi, rfl, hpk, hx⟩ := hrel
      have HPs := Lib.hid hpk
      have HXs := Lib.hid hx
      clear hpk hx
      by_cases hlt : i < LN
      · have d1 : decide (i < LN) = true := by simp; omega
        have hw5 : IntKind.i64.wrap ((i : Int) + 1) = (i : Int) + 1 := IntWalk.i64_in _ (by omega)
        obtain ⟨⟨k, y, mb⟩, hp⟩ : ∃ p, (lk (9 * u1.nl))[i]? = some p := ⟨_, List.getElem?_eq_getElem (by rw [HLN.out]; exact hlt)⟩
        have hk := lk_ok hp
        obtain ⟨g7, c7, e7, hrg⟩ := HPs.out.at_ hp
        have e8 : g6 = g7 := congrArg (fun v : Value => match v with | .slice (some a) _ _ => a.block | _ => 0) e7
        clear e7
        subst e8
        dsimp only at hk
        have HRg := Lib.hid hrg
        have HK1 := Lib.hid hk
        have HK2 : Hid ((k = 1 ∧ y = 0) ∨ (k = 11 ∧ y = 0) ∨ (k = 12 ∧ y = 0) ∨ (y < u2.nl ∧ 2 ≤ k ∧ k ≤ 10)) := Lib.hid (by rw [HN.out.1]; exact hk)
        obtain ⟨q1, q2'⟩ := HT.out.part k y (by rw [← HV1.out.nl]; exact hk)
        have HLt := Lib.hid hlt
        obtain ⟨R, hR⟩ : ∃ R, (if isVec k then 0 else (m1.part k y).r) = R := ⟨_, rfl⟩
        obtain ⟨C, hC⟩ : ∃ C, (if isVec k then 0 else (m1.part k y).c) = C := ⟨_, rfl⟩
        obtain ⟨LL, hLL⟩ : ∃ LL, (m1.part k y).l = LL := ⟨_, rfl⟩
        have HG1 : Hid ((if isVec k then 0 else (m1.part k y).r) = R ∧ (if isVec k then 0 else (m1.part k y).c) = C ∧ (m1.part k y).l = LL) := Lib.hid ⟨hR, hC, hLL⟩
        have HG2 : Hid ((if isVec k then 0 else (m2.part k y).r) = R ∧ (if isVec k then 0 else (m2.part k y).c) = C ∧ (m2.part k y).l = LL) := Lib.hid (by
          cases hv : isVec k with
          | true => rw [hv] at hR hC; exact ⟨hR, hC, q1.symm.trans hLL⟩
          | false => rw [hv] at hR hC; exact ⟨(q2' hv).1.symm.trans hR, (q2' hv).2.symm.trans hC, q1.symm.trans hLL⟩)
        clear hrg hk q1 q2' hlt hR hC hLL hp hi
        go_upto_region 19 with fail
        refine Tn.wp_region_spec (C := fun W => Below wr.heap.size wr W) (Le := fun A B => Below A.heap.size A B) 7
          (fun _ j W v => (j < 5 → v = ([.agg u1.cells, .slice (some ⟨g6, 0, none⟩) LN cap6, .int .i64 (i : Int), .pointer (some ⟨g6, 0 + i * 5, none⟩), .agg (prC (k : Int) (y : Int) 0 0 mb)] : List Value).getD j undef) ∧ (j = 5 → ∃ sp cap, v = .agg (gvC R C sp LL.length cap) ∧ Nums wr sp cap LL) ∧ (j = 6 → ∃ blk, v = .pointer (some ⟨blk, 0, none⟩) ∧ wr.heap.size ≤ blk ∧ W.heap[blk]? = some (.cells zGv 58 (0, 0))))
          (by kernel_rfl) (by kernel_rfl) ⟨rfl, rfl, rfl, Nat.le_refl _, fun _ _ => rfl⟩ (fun _ _ _ _ _ _ h => h)
          (fun _ _ A B v hl h => ⟨h.1, h.2.1, (fun e => by obtain ⟨blk, h1, h2, h3⟩ := h.2.2 e; exact ⟨blk, h1, h2, (hl.block _ (Array.getElem?_eq_some_iff.1 h3).1).trans h3⟩)⟩)
          (fun j v => (j < 5 → v = ([.agg u1.cells, .slice (some ⟨g6, 0, none⟩) LN cap6, .int .i64 (i : Int), .pointer (some ⟨g6, 0 + i * 5, none⟩), .agg (prC (k : Int) (y : Int) 0 0 mb)] : List Value).getD j undef) ∧ (j = 5 → ∃ sp cap, v = .agg (gvC R C sp LL.length cap)) ∧ (j = 6 → ∃ blk, v = .pointer (some ⟨blk, 0, none⟩))) (fun _ _ _ _ h => ⟨h.1, (fun e => by obtain ⟨sp, cap, h1, _⟩ := h.2.1 e; exact ⟨sp, cap, h1⟩), (fun e => by obtain ⟨blk, h1, _⟩ := h.2.2 e; exact ⟨blk, h1⟩)⟩)
          (fun j => if j = 5 then .agg (gvC R C none LL.length 0) else if j = 6 then .pointer (some ⟨0, 0, none⟩) else ([.agg u1.cells, .slice (some ⟨g6, 0, none⟩) LN cap6, .int .i64 (i : Int), .pointer (some ⟨g6, 0 + i * 5, none⟩), .agg (prC (k : Int) (y : Int) 0 0 mb)] : List Value).getD j undef) (fun j => ⟨fun e => by rw [if_neg (by omega), if_neg (by omega)], fun e => by rw [if_pos e]; exact ⟨_, _, rfl⟩, fun e => by rw [if_neg (by omega), if_pos e]; exact ⟨_, rfl⟩⟩) ?_ ?_
        · intro u hu
          have e0 : u 0 = .agg u1.cells := (hu 0).1 (by decide)
          have e1 : u 1 = .slice (some ⟨g6, 0, none⟩) LN cap6 := (hu 1).1 (by decide)
          have e2 : u 2 = .int .i64 (i : Int) := (hu 2).1 (by decide)
          have e3 : u 3 = .pointer (some ⟨g6, 0 + i * 5, none⟩) := (hu 3).1 (by decide)
          have e4 : u 4 = .agg (prC (k : Int) (y : Int) 0 0 mb) := (hu 4).1 (by decide)
          simp only [List.take_succ_cons, List.take_zero]
          refine Tn.spec_cons (fun Y hC hd => ⟨by rfl, Tn.gives_val (.agg u1.cells) Y (exec_load_row 31 (.tmp 2) rfl (w.heap.size) rfl 31 u1.cells (0, 0) _ (HXs.out.later hC).r1 Try.underlying31 rfl size_wts) ⟨hC, Below.refl _ _, fun _ => rfl, (fun e => by cases e), (fun e => by cases e)⟩⟩) ?_
          simp only [Act.put, List.setIfInBounds_toArray, List.set_cons_succ, List.set_cons_zero, Nat.reduceAdd]
          rw [e0]
          refine Tn.spec_cons (fun Y hC hd => ⟨by rfl, Tn.gives_val (.slice (some ⟨g6, 0, none⟩) LN cap6) Y (by rfl) ⟨hC, Below.refl _ _, fun _ => rfl, (fun e => by cases e), (fun e => by cases e)⟩⟩) ?_
          simp only [Act.put, List.setIfInBounds_toArray, List.set_cons_succ, List.set_cons_zero, Nat.reduceAdd]
          rw [e1]
          refine Tn.spec_cons (fun Y hC hd => ⟨by rfl, Tn.gives_val (.int .i64 (i : Int)) Y (by rfl) ⟨hC, Below.refl _ _, fun _ => rfl, (fun e => by cases e), (fun e => by cases e)⟩⟩) ?_
          simp only [Act.put, List.setIfInBounds_toArray, List.set_cons_succ, List.set_cons_zero, Nat.reduceAdd]
          rw [e2]
          refine Tn.spec_cons (fun Y hC hd => ⟨by rfl, Tn.gives_val (.pointer (some ⟨g6, 0 + i * 5, none⟩)) Y (exec_at5 77 61 Try.underlying77 sizePO (.tmp 89) (.tmp 90) rfl g6 0 LN cap6 i rfl rfl HLt.out) ⟨hC, Below.refl _ _, fun _ => rfl, (fun e => by cases e), (fun e => by cases e)⟩⟩) ?_
          simp only [Act.put, List.setIfInBounds_toArray, List.set_cons_succ, List.set_cons_zero, Nat.reduceAdd]
          rw [e3]
          refine Tn.spec_cons (fun Y hC hd => ⟨by rfl, Tn.gives_val (.agg (prC (k : Int) (y : Int) 0 0 mb)) Y (exec_load_mid 61 (.tmp 91) rfl g6 (0 + i * 5) rfl (pkC (k, y, mb)) _ (fun j u hu => (hC.cell (block_lt_of_cell (HRg.out j u hu))).trans (HRg.out j u hu)) Try.underlying61 rfl sizePO) ⟨hC, Below.refl _ _, fun _ => rfl, (fun e => by cases e), (fun e => by cases e)⟩⟩) ?_
          simp only [Act.put, List.setIfInBounds_toArray, List.set_cons_succ, List.set_cons_zero, Nat.reduceAdd]
          rw [e4]
          refine Tn.spec_cons (fun Y hC hd => ⟨by rfl, Tn.gives_call _ _ (exec_call2 20 (.tmp 88) (.tmp 92) #[31, 61] _ _ rfl rfl rfl (cf Try.func20 (by kernel_rfl) (by kernel_rfl) _ _)) ((given_part wr Y hC u1 m1 (HV1.out.later (HXs.out.below)) k y HK1.out 0 0 mb).mono fun e2 Y' ⟨sp, cap, e3, h3, hb3⟩ => ⟨_, e3, hC.trans (hb3.mono hC.size), hb3, (fun h => by omega), (fun _ => ⟨sp, cap, by rw [HG1.out.1, HG1.out.2.1, HG1.out.2.2], by rw [← HG1.out.2.2]; exact h3⟩), (fun h => by omega)⟩)⟩) ?_
          simp only [Act.put, List.setIfInBounds_toArray, List.set_cons_succ, List.set_cons_zero, Nat.reduceAdd]
          refine Tn.spec_cons (fun Y hC hd => ⟨by rfl, Tn.gives_val (.pointer (some ⟨Y.heap.size, 0, none⟩)) _ (exec_allocG rfl) ⟨hC.alloc hC.size _, (Below.refl _ _).alloc (Nat.le_refl _) _, (fun h => by omega), (fun h => by omega), (fun _ => ⟨_, rfl, hC.size, heap_alloc_new _ _⟩)⟩⟩) ?_
          simp only [Act.put, List.setIfInBounds_toArray, List.set_cons_succ, List.set_cons_zero, Nat.reduceAdd]
          exact Tn.spec_nil
        intro u Y hu hC hP
        have e0 : u 0 = .agg u1.cells := (hu 0).1 (by decide)
        have e1 : u 1 = .slice (some ⟨g6, 0, none⟩) LN cap6 := (hu 1).1 (by decide)
        have e2 : u 2 = .int .i64 (i : Int) := (hu 2).1 (by decide)
        have e3 : u 3 = .pointer (some ⟨g6, 0 + i * 5, none⟩) := (hu 3).1 (by decide)
        have e4 : u 4 = .agg (prC (k : Int) (y : Int) 0 0 mb) := (hu 4).1 (by decide)
        obtain ⟨sA, pA, e5, hnA⟩ := (hP 5 (by decide)).2.1 rfl
        obtain ⟨kA, e6, hkA, hrA⟩ := (hP 6 (by decide)).2.2 rfl
        simp only [List.take_succ_cons, List.take_zero, List.drop_succ_cons, List.drop_zero, Tn.putAll, Act.put, List.setIfInBounds_toArray, List.set_cons_succ, List.set_cons_zero, Nat.reduceAdd]
        rw [e0, e1, e2, e3, e4, e5, e6]
        have HRA := Lib.hid hrA
        have HNmA := Lib.hid hnA
        have HKA := Lib.hid hkA
        have HYA : Hid (Below wr.heap.size wr (Y.setRow kA (gvC R C sA LL.length pA))) := Lib.hid (Cd.below_setRow hC hkA _)
        have HRowA := Lib.hid (setRow_heap Y kA zGv (gvC R C sA LL.length pA) 58 (0, 0) hrA)
        clear hu hC hP hnA hkA hrA e0 e1 e2 e3 e4 e5 e6
        go_upto_region 20 with (refine wpList_store_row rfl 58 (.tmp 10) (.tmp 93) rfl kA (gvC R C sA LL.length pA) rfl rfl 58 _ HRA.out size_gv rfl (gvC_one _ _ _ _ _) ?_)
        refine gen_w (Q := fun w => Code.wp _ _ _ _ w) _ (fun W => Below wr.heap.size wr W ∧ W.heap[kA]? = some (.cells (gvC R C sA LL.length pA) 58 (0, 0))) ⟨HYA.out, HRowA.out⟩ ?_
        clear HYA HRowA HRA Y u
        rintro W6 ⟨h1, h2⟩
        have HB6 := Lib.hid h1
        have HX6 := Lib.hid (HXs.out.later h1)
        have HRg6 : Hid (W6.rangeAt g6 (0 + i * 5) (pkC (k, y, mb))) := Lib.hid fun j u hu => (h1.cell (block_lt_of_cell (HRg.out j u hu))).trans (HRg.out j u hu)
        have HRA6 := Lib.hid h2
        have HNA6 : Hid (Nums W6 sA pA LL) := Lib.hid (Sl.below HNmA.out (Nat.le_refl _) h1)
        clear h1 h2
        go_upto_region 20 with fail
        refine Tn.wp_region_spec (C := fun W => Below W6.heap.size W6 W) (Le := fun A B => Below A.heap.size A B) 7
          (fun _ j W v => (j < 5 → v = ([.agg u2.cells, .slice (some ⟨g6, 0, none⟩) LN cap6, .int .i64 (i : Int), .pointer (some ⟨g6, 0 + i * 5, none⟩), .agg (prC (k : Int) (y : Int) 0 0 mb)] : List Value).getD j undef) ∧ (j = 5 → ∃ sp cap, v = .agg (gvC R C sp LL.length cap) ∧ Nums W6 sp cap LL) ∧ (j = 6 → ∃ blk, v = .pointer (some ⟨blk, 0, none⟩) ∧ W6.heap.size ≤ blk ∧ W.heap[blk]? = some (.cells zGv 58 (0, 0))))
          (by kernel_rfl) (by kernel_rfl) ⟨rfl, rfl, rfl, Nat.le_refl _, fun _ _ => rfl⟩ (fun _ _ _ _ _ _ h => h)
          (fun _ _ A B v hl h => ⟨h.1, h.2.1, (fun e => by obtain ⟨blk, h1, h2, h3⟩ := h.2.2 e; exact ⟨blk, h1, h2, (hl.block _ (Array.getElem?_eq_some_iff.1 h3).1).trans h3⟩)⟩)
          (fun j v => (j < 5 → v = ([.agg u2.cells, .slice (some ⟨g6, 0, none⟩) LN cap6, .int .i64 (i : Int), .pointer (some ⟨g6, 0 + i * 5, none⟩), .agg (prC (k : Int) (y : Int) 0 0 mb)] : List Value).getD j undef) ∧ (j = 5 → ∃ sp cap, v = .agg (gvC R C sp LL.length cap)) ∧ (j = 6 → ∃ blk, v = .pointer (some ⟨blk, 0, none⟩))) (fun _ _ _ _ h => ⟨h.1, (fun e => by obtain ⟨sp, cap, h1, _⟩ := h.2.1 e; exact ⟨sp, cap, h1⟩), (fun e => by obtain ⟨blk, h1, _⟩ := h.2.2 e; exact ⟨blk, h1⟩)⟩)
          (fun j => if j = 5 then .agg (gvC R C none LL.length 0) else if j = 6 then .pointer (some ⟨0, 0, none⟩) else ([.agg u2.cells, .slice (some ⟨g6, 0, none⟩) LN cap6, .int .i64 (i : Int), .pointer (some ⟨g6, 0 + i * 5, none⟩), .agg (prC (k : Int) (y : Int) 0 0 mb)] : List Value).getD j undef) (fun j => ⟨fun e => by rw [if_neg (by omega), if_neg (by omega)], fun e => by rw [if_pos e]; exact ⟨_, _, rfl⟩, fun e => by rw [if_neg (by omega), if_pos e]; exact ⟨_, rfl⟩⟩) ?_ ?_
        · intro u hu
          have e0 : u 0 = .agg u2.cells := (hu 0).1 (by decide)
          have e1 : u 1 = .slice (some ⟨g6, 0, none⟩) LN cap6 := (hu 1).1 (by decide)
          have e2 : u 2 = .int .i64 (i : Int) := (hu 2).1 (by decide)
          have e3 : u 3 = .pointer (some ⟨g6, 0 + i * 5, none⟩) := (hu 3).1 (by decide)
          have e4 : u 4 = .agg (prC (k : Int) (y : Int) 0 0 mb) := (hu 4).1 (by decide)
          simp only [List.take_succ_cons, List.take_zero]
          refine Tn.spec_cons (fun Y hC hd => ⟨by rfl, Tn.gives_val (.agg u2.cells) Y (exec_load_row 31 (.tmp 3) rfl (w.heap.size + 1) rfl 31 u2.cells (0, 0) _ (HX6.out.later hC).r2 Try.underlying31 rfl size_wts) ⟨hC, Below.refl _ _, fun _ => rfl, (fun e => by cases e), (fun e => by cases e)⟩⟩) ?_
          simp only [Act.put, List.setIfInBounds_toArray, List.set_cons_succ, List.set_cons_zero, Nat.reduceAdd]
          rw [e0]
          refine Tn.spec_cons (fun Y hC hd => ⟨by rfl, Tn.gives_val (.slice (some ⟨g6, 0, none⟩) LN cap6) Y (by rfl) ⟨hC, Below.refl _ _, fun _ => rfl, (fun e => by cases e), (fun e => by cases e)⟩⟩) ?_
          simp only [Act.put, List.setIfInBounds_toArray, List.set_cons_succ, List.set_cons_zero, Nat.reduceAdd]
          rw [e1]
          refine Tn.spec_cons (fun Y hC hd => ⟨by rfl, Tn.gives_val (.int .i64 (i : Int)) Y (by rfl) ⟨hC, Below.refl _ _, fun _ => rfl, (fun e => by cases e), (fun e => by cases e)⟩⟩) ?_
          simp only [Act.put, List.setIfInBounds_toArray, List.set_cons_succ, List.set_cons_zero, Nat.reduceAdd]
          rw [e2]
          refine Tn.spec_cons (fun Y hC hd => ⟨by rfl, Tn.gives_val (.pointer (some ⟨g6, 0 + i * 5, none⟩)) Y (exec_at5 77 61 Try.underlying77 sizePO (.tmp 95) (.tmp 96) rfl g6 0 LN cap6 i rfl rfl HLt.out) ⟨hC, Below.refl _ _, fun _ => rfl, (fun e => by cases e), (fun e => by cases e)⟩⟩) ?_
          simp only [Act.put, List.setIfInBounds_toArray, List.set_cons_succ, List.set_cons_zero, Nat.reduceAdd]
          rw [e3]
          refine Tn.spec_cons (fun Y hC hd => ⟨by rfl, Tn.gives_val (.agg (prC (k : Int) (y : Int) 0 0 mb)) Y (exec_load_mid 61 (.tmp 97) rfl g6 (0 + i * 5) rfl (pkC (k, y, mb)) _ (fun j u hu => (hC.cell (block_lt_of_cell (HRg6.out j u hu))).trans (HRg6.out j u hu)) Try.underlying61 rfl sizePO) ⟨hC, Below.refl _ _, fun _ => rfl, (fun e => by cases e), (fun e => by cases e)⟩⟩) ?_
          simp only [Act.put, List.setIfInBounds_toArray, List.set_cons_succ, List.set_cons_zero, Nat.reduceAdd]
          rw [e4]
          refine Tn.spec_cons (fun Y hC hd => ⟨by rfl, Tn.gives_call _ _ (exec_call2 20 (.tmp 94) (.tmp 98) #[31, 61] _ _ rfl rfl rfl (cf Try.func20 (by kernel_rfl) (by kernel_rfl) _ _)) ((given_part W6 Y hC u2 m2 (HV2.out.later (HX6.out.below)) k y HK2.out 0 0 mb).mono fun e2 Y' ⟨sp, cap, e3, h3, hb3⟩ => ⟨_, e3, hC.trans (hb3.mono hC.size), hb3, (fun h => by omega), (fun _ => ⟨sp, cap, by rw [HG2.out.1, HG2.out.2.1, HG2.out.2.2], by rw [← HG2.out.2.2]; exact h3⟩), (fun h => by omega)⟩)⟩) ?_
          simp only [Act.put, List.setIfInBounds_toArray, List.set_cons_succ, List.set_cons_zero, Nat.reduceAdd]
          refine Tn.spec_cons (fun Y hC hd => ⟨by rfl, Tn.gives_val (.pointer (some ⟨Y.heap.size, 0, none⟩)) _ (exec_allocG rfl) ⟨hC.alloc hC.size _, (Below.refl _ _).alloc (Nat.le_refl _) _, (fun h => by omega), (fun h => by omega), (fun _ => ⟨_, rfl, hC.size, heap_alloc_new _ _⟩)⟩⟩) ?_
          simp only [Act.put, List.setIfInBounds_toArray, List.set_cons_succ, List.set_cons_zero, Nat.reduceAdd]
          exact Tn.spec_nil
        intro u Y hu hC hP
        have e0 : u 0 = .agg u2.cells := (hu 0).1 (by decide)
        have e1 : u 1 = .slice (some ⟨g6, 0, none⟩) LN cap6 := (hu 1).1 (by decide)
        have e2 : u 2 = .int .i64 (i : Int) := (hu 2).1 (by decide)
        have e3 : u 3 = .pointer (some ⟨g6, 0 + i * 5, none⟩) := (hu 3).1 (by decide)
        have e4 : u 4 = .agg (prC (k : Int) (y : Int) 0 0 mb) := (hu 4).1 (by decide)
        obtain ⟨sB, pB, e5, hnB⟩ := (hP 5 (by decide)).2.1 rfl
        obtain ⟨kB, e6, hkB, hrB⟩ := (hP 6 (by decide)).2.2 rfl
        simp only [List.take_succ_cons, List.take_zero, List.drop_succ_cons, List.drop_zero, Tn.putAll, Act.put, List.setIfInBounds_toArray, List.set_cons_succ, List.set_cons_zero, Nat.reduceAdd]
        rw [e0, e1, e2, e3, e4, e5, e6]
        have HRB := Lib.hid hrB
        have HNmB := Lib.hid hnB
        have HKB := Lib.hid hkB
        have HYB : Hid (Below W6.heap.size W6 (Y.setRow kB (gvC R C sB LL.length pB))) := Lib.hid (Cd.below_setRow hC hkB _)
        have HRowB := Lib.hid (setRow_heap Y kB zGv (gvC R C sB LL.length pB) 58 (0, 0) hrB)
        clear hu hC hP hnB hkB hrB e0 e1 e2 e3 e4 e5 e6
        go_upto_region 21 with (refine wpList_store_row rfl 58 (.tmp 11) (.tmp 99) rfl kB (gvC R C sB LL.length pB) rfl rfl 58 _ HRB.out size_gv rfl (gvC_one _ _ _ _ _) ?_)
        refine gen_w (Q := fun w => Code.wp _ _ _ _ w) _ (fun W => Below W6.heap.size W6 W ∧ W.heap[kB]? = some (.cells (gvC R C sB LL.length pB) 58 (0, 0))) ⟨HYB.out, HRowB.out⟩ ?_
        clear HYB HRowB HRB Y u
        rintro W7 ⟨h1, h2⟩
        have HX7 := Lib.hid (HX6.out.later h1)
        have HPk7 : Hid (PkR bs (.slice (some ⟨g6, 0, none⟩) LN cap6) (lk (9 * u1.nl)) W7) := Lib.hid ((HPs.out.later HB6.out).later h1)
        have hA := (h1.block kA (Array.getElem?_eq_some_iff.1 HRA6.out).1).trans HRA6.out
        have HNA : Hid (Nums W7 sA pA LL) := Lib.hid (Sl.below HNA6.out (Nat.le_refl _) h1)
        have HNB : Hid (Nums W7 sB pB LL) := Lib.hid (Sl.below HNmB.out (Nat.le_refl _) h1)
        have p0 : W7.cell? ⟨kA, 0, none⟩ = some (.int .i64 R) := by rw [cell_of_row _ _ _ _ _ _ hA]; rfl
        have p1 : W7.cell? ⟨kA, 1, none⟩ = some (.int .i64 C) := by rw [cell_of_row _ _ _ _ _ _ hA]; rfl
        have p2 : W7.cell? ⟨kA, 2, none⟩ = some (.slice sA LL.length pA) := by rw [cell_of_row _ _ _ _ _ _ hA]; rfl
        have q0 : W7.cell? ⟨kB, 0, none⟩ = some (.int .i64 R) := by rw [cell_of_row _ _ _ _ _ _ h2]; rfl
        have q1 : W7.cell? ⟨kB, 1, none⟩ = some (.int .i64 C) := by rw [cell_of_row _ _ _ _ _ _ h2]; rfl
        have q2 : W7.cell? ⟨kB, 2, none⟩ = some (.slice sB LL.length pB) := by rw [cell_of_row _ _ _ _ _ _ h2]; rfl
        clear h1 h2 hA HNA6 HNmA HNmB HB6 HRg6 HRA6 HKA HKB HRg HPs HXs HX6 HG1 HG2 HK1 HK2
        go_upto_region 18 with (first
          | (go_at_call 43; refine (Bp.ints_same _ sA sB pA pB LL.length LL rfl HNA.out HNB.out).mono ?_; rintro e W8 ⟨rfl, hb8⟩; have HX8 := Lib.hid (HX7.out.later hb8); have HPk8 : Hid (PkR bs (.slice (some ⟨g6, 0, none⟩) LN cap6) (lk (9 * u1.nl)) W8) := Lib.hid (HPk7.out.later hb8); clear hb8))
        clear p0 p1 p2 q0 q1 q2
        go_wp2
        go_roundw
        case rel => exact ⟨i + 1, by have := HLt.out; omega, by go_num, HPk8.out, HX8.out⟩
        case measure => simp [intOf]; have := HLt.out; omega
      · obtain rfl : i = LN := by omega
        have d1 : decide (i < i) = false := by simp
        clear hlt hi
        go_wp2
        go_ret
        exact ⟨rfl, HXs.out.below⟩
end Go.Proofs.Ytkfkjapkcjidnaa.Wg
