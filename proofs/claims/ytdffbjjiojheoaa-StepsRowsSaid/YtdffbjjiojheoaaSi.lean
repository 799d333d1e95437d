/- Steps: the stretches of a place. -/
import Derived.Test.YtdffbjjiojheoaaSh
namespace Go.Proofs.Ytdffbjjiojheoaa.St
set_option maxRecDepth 100000
open Go.ChangeShapes Go.WideShapes Go.ChangeAt Go.RowKit Go.Shelf Go.Proofs.Ytdffbjjiojheoaa.Tn Go.Proofs.Ytdffbjjiojheoaa.Wg
attribute [local go_sem] Oper.semAt_some
def headsT (s : PlN) (a y n : Nat) : List Str := (List.range n).flatMap fun h => segT s 9 3 a y h
def layT (s : PlN) (a y : Nat) : List Str := segT s 2 7 a y 0 ++ (headsT s a y s.h ++ segT s 12 9 a y 0)
def laysT (s : PlN) (a n : Nat) : List Str := (List.range n).flatMap fun y => layT s a y
def plT (s : PlN) (a : Nat) : List Str := segT s 1 1 a 0 0 ++ (laysT s a s.l ++ segT s 21 3 a 0 0)
def allT (s : PlN) (n : Nat) : List Str := (List.range n).flatMap fun a => plT s a
theorem rng_succ {α : Type} (f : Nat → List α) (n : Nat) : (List.range (n + 1)).flatMap f = (List.range n).flatMap f ++ f n := by simp [List.range_succ]
theorem rng_split {α : Type} (f : Nat → List α) (n m : Nat) (h : n < m) : ∃ r, (List.range m).flatMap f = (List.range n).flatMap f ++ (f n ++ r) := by
  obtain ⟨d, rfl⟩ : ∃ d, m = (n + 1) + d := ⟨m - (n + 1), by omega⟩
  refine ⟨((List.range d).map ((n + 1) + ·)).flatMap f, ?_⟩
  rw [List.range_add, List.flatMap_append, rng_succ, List.append_assoc]
theorem pre_of {α : Type} {X Y T : List α} (r : List α) (h : Y <+: T) (e : Y = X ++ r) : X <+: T := by
  subst e
  exact (List.prefix_append X r).trans h
section
variable {s : PlN} {a y h : Nat} {pre T : List Str}
theorem pre1 (hp : (pre ++ plT s a) <+: T) : (pre ++ segT s 1 1 a 0 0) <+: T := pre_of (laysT s a s.l ++ segT s 21 3 a 0 0) hp (by simp [plT])
theorem pre2 (hp : (pre ++ plT s a) <+: T) (hy : y < s.l) : (((pre ++ segT s 1 1 a 0 0) ++ laysT s a y) ++ segT s 2 7 a y 0) <+: T := by
  obtain ⟨r, hr⟩ := rng_split (fun y => layT s a y) y s.l hy
  refine pre_of ((headsT s a y s.h ++ segT s 12 9 a y 0) ++ (r ++ segT s 21 3 a 0 0)) hp ?_
  unfold plT laysT
  rw [hr]
  simp [layT]
theorem pre3 (hp : (pre ++ plT s a) <+: T) (hy : y < s.l) (hh : h < s.h) : ((((pre ++ segT s 1 1 a 0 0) ++ laysT s a y) ++ segT s 2 7 a y 0) ++ headsT s a y h ++ segT s 9 3 a y h) <+: T := by
  obtain ⟨r, hr⟩ := rng_split (fun y => layT s a y) y s.l hy
  obtain ⟨q, hq⟩ := rng_split (fun h => segT s 9 3 a y h) h s.h hh
  refine pre_of (q ++ (segT s 12 9 a y 0 ++ (r ++ segT s 21 3 a 0 0))) hp ?_
  unfold plT laysT
  rw [hr]
  have e : headsT s a y s.h = headsT s a y h ++ (segT s 9 3 a y h ++ q) := hq
  simp [layT, e]
theorem pre4 (hp : (pre ++ plT s a) <+: T) (hy : y < s.l) : ((((pre ++ segT s 1 1 a 0 0) ++ laysT s a y) ++ segT s 2 7 a y 0) ++ headsT s a y s.h ++ segT s 12 9 a y 0) <+: T := by
  obtain ⟨r, hr⟩ := rng_split (fun y => layT s a y) y s.l hy
  refine pre_of (r ++ segT s 21 3 a 0 0) hp ?_
  unfold plT laysT
  rw [hr]
  simp [layT]
theorem pre5 : ((((pre ++ segT s 1 1 a 0 0) ++ laysT s a y) ++ segT s 2 7 a y 0) ++ headsT s a y s.h ++ segT s 12 9 a y 0) = (pre ++ segT s 1 1 a 0 0) ++ laysT s a (y + 1) := by
  have e : laysT s a (y + 1) = laysT s a y ++ layT s a y := rng_succ _ y
  rw [e]
  simp [layT]
theorem pre6 (P : List Str) : P ++ headsT s a y h ++ segT s 9 3 a y h = P ++ headsT s a y (h + 1) := by
  have e : headsT s a y (h + 1) = headsT s a y h ++ segT s 9 3 a y h := rng_succ _ h
  rw [e]
  simp
theorem pre7 : ((pre ++ segT s 1 1 a 0 0) ++ laysT s a s.l) ++ segT s 21 3 a 0 0 = pre ++ plT s a := by simp [plT]
end
theorem Came.no {T : List Str} {J Jx : List Str → World → Prop} {p : List Str} {W : World} (h : Came T J Jx p false W) (p' : List Str) : Came T J Jx p' false W := by
  rcases h with ⟨h, _⟩ | h
  · cases h
  · exact Or.inr h
theorem Came.yes {T : List Str} {J Jx : List Str → World → Prop} {p : List Str} {W : World} (h : Came T J Jx p true W) : J p W := by
  rcases h with ⟨_, h⟩ | ⟨h, _⟩
  · exact h
  · cases h
/-- the box of tellPlace, and how far it went -/
structure Tp (W0 : World) (n0 bc : Nat) (s : PlN) (T : List Str) (J Jx : List Str → World → Prop) (p : List Str) (mr : Bool) (W : World) : Prop where
  pl : W.heap[W0.heap.size]? = some (.cells s.q.cells 40 (0, 0))
  kp : KpS n0 bc W0 W
  came : Came T J Jx p mr W
theorem Tp.go {W0 : World} {n0 bc : Nat} {s : PlN} {T : List Str} {J Jx : List Str → World → Prop} {p p' : List Str} {mr mr' : Bool} {W W' : World} (h : Tp W0 n0 bc s T J Jx p mr W) (hn : n0 ≤ W0.heap.size) (hk : KpS n0 bc W W') (hc : Came T J Jx p' mr' W') : Tp W0 n0 bc s T J Jx p' mr' W' :=
  ⟨hk.same _ _ _ (Or.inl hn) (Or.inr (Or.inl rfl)) h.pl, h.kp.trans hk, hc⟩
theorem Tp.no {W0 : World} {n0 bc : Nat} {s : PlN} {T : List Str} {J Jx : List Str → World → Prop} {p : List Str} {W : World} (h : Tp W0 n0 bc s T J Jx p false W) (p' : List Str) : Tp W0 n0 bc s T J Jx p' false W := ⟨h.pl, h.kp, h.came.no p'⟩
section
variable {F : Fence} {n : Nat} {ops : Array Oper} {rest : List Oper} {o : Oper} {a : Act} {W : World} {Q : Exit → Act → World → Prop}
theorem wpIn_val (hnd : ∀ c, o.op ≠ .defer c) (hab : o.about Try.prog W a.eval = none) (v : Value) (hrun : (execOp a.eval o).run Try.prog W = .ok (.value v) W) {K : Act → World → Prop} (h : K (a.put o.dst v) W) : o.wpIn F n Try.prog a W K Q := by
  unfold Oper.wpIn
  refine ⟨fun f hf => (by rw [hab] at hf; cases hf), ?_⟩
  rw [Oper.semAt_plain F _ _ hnd, hrun]
  exact h
theorem wpListIn_vl (hnd : ∀ c, o.op ≠ .defer c) (hab : o.about Try.prog W a.eval = none) (hgd : o.guard = none) (v : Value) (hrun : (execOp a.eval o).run Try.prog W = .ok (.value v) W) (h : wpListIn F n Try.prog ops Q rest (a.put o.dst v) W) : wpListIn F n Try.prog ops Q (o :: rest) a W :=
  wpListIn_plain hgd fun _ hK => wpIn_val hnd hab v hrun (hK _ _ h)
theorem wpListIn_vlIf (hnd : ∀ c, o.op ≠ .defer c) (hab : o.about Try.prog W a.eval = none) (b : Bool) (hw : Region.wanted o (yielded ops a.tmps) = b) (v : Value) (hrun : b = true → (execOp a.eval o).run Try.prog W = .ok (.value v) W) (h : ∀ u, (b = true → u = v) → (b = false → u = undef) → wpListIn F n Try.prog ops Q rest (a.put o.dst u) W) : wpListIn F n Try.prog ops Q (o :: rest) a W :=
  wpListIn_step fun K hK => by
    cases b with
    | true =>
      rw [if_pos hw]
      exact wpIn_val hnd hab v (hrun rfl) (hK _ _ (h v (fun _ => rfl) (fun h => by cases h)))
    | false =>
      rw [if_neg (by rw [hw]; decide)]
      exact ⟨fun f hf => (by rw [hab] at hf; cases hf), hK _ _ (h undef (fun h => by cases h) (fun _ => rfl))⟩
end
section
variable {n : Nat} {ops : Array Oper} {rest : List Oper} {o : Oper} {a : Act} {W : World} {Q : Exit → Act → World → Prop}
/-- a call behind a guard -/
theorem wpListIn_callIf (hnd : ∀ c, o.op ≠ .defer c) (b : Bool) (hw : Region.wanted o (yielded ops a.tmps) = b) (f : FuncId) (args : Array Value) (hrun : b = true → (execOp a.eval o).run Try.prog W = .ok (.enter f args) W) {post : Ending → World → Prop} (hc : b = true → CallsIn Fence.wide (n - 1) Try.prog f args W post) (R : Value → World → Prop) (hp : b = true → ∀ e w', post e w' → ∃ v, e = .returned v ∧ R v w') (hno : b = false → R undef W) (h : ∀ u w', R u w' → wpListIn Fence.wide n Try.prog ops Q rest (a.put o.dst u) w') : wpListIn Fence.wide n Try.prog ops Q (o :: rest) a W :=
  wpListIn_step fun K hK => by
    cases b with
    | true =>
      rw [if_pos hw]
      unfold Oper.wpIn
      refine ⟨fun f _ => trivial, ?_⟩
      rw [Oper.semAt_plain _ _ _ hnd, hrun rfl]
      refine ⟨fun h => by simp [Fence.wide] at h, (hc rfl).mono fun e w' he => ?_⟩
      obtain ⟨v, rfl, hv⟩ := hp rfl e w' he
      exact hK _ _ (h v w' hv)
    | false =>
      rw [if_neg (by rw [hw]; decide)]
      exact ⟨fun f _ => trivial, hK _ _ (h undef W (hno rfl))⟩
end
theorem run_build3 (W : World) (x y z : Int) : (Instr.build 56 #[(0, .int .i64 x), (1, .int .i64 y), (2, .int .i64 z)]).run Try.prog W = .ok (.agg #[.int .i64 x, .int .i64 y, .int .i64 z, .int .i64 0, .int .i64 0]) W := by kernel_rfl
theorem exec_build3 {a : Act} {o : Oper} {W : World} (x y z : Operand) (ho : o.op = .build 56 #[(0, x), (1, y), (2, z)]) (u v r : Int) (hx : a.eval x = .int .i64 u) (hy : a.eval y = .int .i64 v) (hz : a.eval z = .int .i64 r) : (execOp a.eval o).run Try.prog W = .ok (.value (.agg #[.int .i64 u, .int .i64 v, .int .i64 r, .int .i64 0, .int .i64 0])) W := by
  have e : (#[((0 : Nat), x), (1, y), (2, z)].map fun (i, x) => (i, a.eval x)) = #[(0, .int .i64 u), (1, .int .i64 v), (2, .int .i64 r)] := by simp [hx, hy, hz]
  unfold execOp
  simp only [ho, e, Sem.run_bind, run_build3, Result.andThen_ok, Sem.run_pure]
theorem run_build4 (W : World) (x y z q : Int) : (Instr.build 56 #[(0, .int .i64 x), (1, .int .i64 y), (2, .int .i64 z), (3, .int .i64 q)]).run Try.prog W = .ok (.agg #[.int .i64 x, .int .i64 y, .int .i64 z, .int .i64 q, .int .i64 0]) W := by kernel_rfl
theorem exec_build4 {a : Act} {o : Oper} {W : World} (x y z q : Operand) (ho : o.op = .build 56 #[(0, x), (1, y), (2, z), (3, q)]) (u v r p : Int) (hx : a.eval x = .int .i64 u) (hy : a.eval y = .int .i64 v) (hz : a.eval z = .int .i64 r) (hq : a.eval q = .int .i64 p) : (execOp a.eval o).run Try.prog W = .ok (.value (.agg #[.int .i64 u, .int .i64 v, .int .i64 r, .int .i64 p, .int .i64 0])) W := by
  have e : (#[((0 : Nat), x), (1, y), (2, z), (3, q)].map fun (i, x) => (i, a.eval x)) = #[(0, .int .i64 u), (1, .int .i64 v), (2, .int .i64 r), (3, .int .i64 p)] := by simp [hx, hy, hz, hq]
  unfold execOp
  simp only [ho, e, Sem.run_bind, run_build4, Result.andThen_ok, Sem.run_pure]
theorem run_build2 (W : World) (x y : Int) : (Instr.build 56 #[(0, .int .i64 x), (1, .int .i64 y)]).run Try.prog W = .ok (.agg #[.int .i64 x, .int .i64 y, .int .i64 0, .int .i64 0, .int .i64 0]) W := by kernel_rfl
theorem exec_build2 {a : Act} {o : Oper} {W : World} (x y : Operand) (ho : o.op = .build 56 #[(0, x), (1, y)]) (u v : Int) (hx : a.eval x = .int .i64 u) (hy : a.eval y = .int .i64 v) : (execOp a.eval o).run Try.prog W = .ok (.value (.agg #[.int .i64 u, .int .i64 v, .int .i64 0, .int .i64 0, .int .i64 0])) W := by
  have e : (#[((0 : Nat), x), (1, y)].map fun (i, x) => (i, a.eval x)) = #[(0, .int .i64 u), (1, .int .i64 v)] := by simp [hx, hy]
  unfold execOp
  simp only [ho, e, Sem.run_bind, run_build2, Result.andThen_ok, Sem.run_pure]
theorem exec_call4M {a : Act} {o : Oper} {W : World} (f : FuncId) (x y z q : Operand) (ats : Array TypeId) (u v r p : Value) (ho : o.op = .call { callee := .value (.func f), args := #[x, y, z, q], argTypes := ats }) (hx : a.eval x = u) (hy : a.eval y = v) (hz : a.eval z = r) (hq : a.eval q = p)
    (hf : (callFunc f #[u, v, r, p]).run Try.prog W = .ok (.enter f #[u, v, r, p]) W) : (execOp a.eval o).run Try.prog W = .ok (.enter f #[u, v, r, p]) W := Tn.exec_call f #[x, y, z, q] ats #[u, v, r, p] ho (by simp [hx, hy, hz, hq]) hf
theorem and_no {a b : Bool} (h : a = false → b = false) : (a && b) = b := by cases a <;> simp_all
/-- more of tellKinds, or no more -/
def Mo (b : Bool) (P : Bool → World → Prop) (u : Value) (W : World) : Prop := ∃ mr, (b = true → u = .bool mr) ∧ (b = false → mr = false) ∧ P mr W
set_option maxHeartbeats 8000000 in
theorem place_in (m l n0 bc B0 : Nat) (s : PlN) (hs : s.B) (T : List Str) (J Jx : List Str → World → Prop) (hJ : OwnC B0 J) (hJx : OwnC B0 Jx) (hY : YS n0 bc l T J Jx)
    (pre : List Str) (a : Nat) (ha : a ≤ 64) (hpre : (pre ++ plT s a) <+: T) (W : World) (hn0 : n0 ≤ W.heap.size) (hB0 : B0 ≤ W.heap.size) (h0 : J pre W) :
    CallsIn Fence.wide m Try.prog 57 #[.agg s.q.cells, .func (.yield l) #[] #[], .int .i64 (a : Int)] W fun e W' => ∃ mr, e = .returned (.bool mr) ∧ KpS n0 bc W W' ∧ Came T J Jx (pre ++ plT s a) mr W' := by
  have HK := Lib.hid (fun (p : List Str) (k n y h z : Nat) (hk : 1 ≤ k) (hn : 1 ≤ n) (hz : k + n = z + 1) (hz2 : z ≤ 23) (hp : (p ++ segT s k n a y h) <+: T) (W1 : World) (hs1 : W.heap.size ≤ W1.heap.size) (hj : J p W1) (m1 : Nat) => kinds_in m1 l n0 bc B0 s hs T J Jx hJ hJx hY p k n a y h z hk hn hz hz2 ha hp W1 (Nat.le_trans hn0 hs1) (Nat.le_trans hB0 hs1) hj)
  have HN0 := Lib.hid hn0
  have HPre := Lib.hid hpre
  have HLb := Lib.hid hs.l.2
  have HHb := Lib.hid hs.h.2
  have hal : Below W.heap.size W (W.alloc (.cells s.q.cells 40)) := (Below.refl _ _).alloc (Nat.le_refl _) _
  have HT : Hid (Tp W n0 bc s T J Jx pre true (W.alloc (.cells s.q.cells 40))) := Lib.hid ⟨heap_alloc_new _ _, KpS.of_below hal, Or.inl ⟨rfl, hJ.below h0 hal⟩⟩
  clear hs hJ hJx hY hpre hn0 hB0 h0 hal
  refine callsIn_of_wp Try.func57 rfl trivial ?_ rfl
  simp only [Try.ntmps57, List.size_toArray, List.length_cons, List.length_nil, Nat.reduceAdd, Nat.reduceSub, Array.replicate_succ, Array.replicate_zero, List.push_toArray, List.append_toArray, List.nil_append, List.cons_append]
  gi_upto_region 1 with fail
  refine Mk.genM (Q := fun w => Code.wpIn _ _ _ _ _ _ w) _ (Tp W n0 bc s T J Jx pre true) HT.out ?_
  clear HT
  intro w1 k1
  have HT := Lib.hid k1
  clear k1
  gi_upto_region 2 with (first
    | (refine wpListIn_load_row rfl 40 (.tmp 3) rfl W.heap.size rfl 40 _ (0, 0) _ HT.out.pl Try.underlying40 rfl size_pl ?_)
    | (refine ⟨trivial, fun h => by simp [Fence.wide] at h, ?_⟩; refine (HK.out pre 1 1 0 0 1 (by omega) (by omega) rfl (by omega) (pre1 HPre.out) _ HT.out.kp.size HT.out.came.yes _).mono ?_; rintro e w2 ⟨mr, rfl, k1, k2⟩; have HT2 := Lib.hid (HT.out.go HN0.out k1 k2); clear k1 k2 HT))
  have hc := pl_cells HT2.out.pl
  have c3 : w2.cell? ⟨W.heap.size, 3, none⟩ = some (.int .i64 (s.l : Int)) := hc.2.2.2.1
  have HT3 : Hid (Tp W n0 bc s T J Jx ((pre ++ segT s 1 1 a 0 0) ++ laysT s a 0) mr w2) := Lib.hid (by simpa [laysT] using HT2.out)
  clear hc HT2
  gi_wp2
  gi_loopw [7, 18] (fun mv iv wr => ∃ (mr : Bool) (y : Nat), y ≤ s.l ∧ mv = .bool mr ∧ iv = .int .i64 y ∧ Tp W n0 bc s T J Jx ((pre ++ segT s 1 1 a 0 0) ++ laysT s a y) mr wr) (fun _ iv _ => s.l - (intOf iv).toNat)
  case atStart => exact ⟨mr, 0, by omega, rfl, rfl, HT3.out⟩
  case round =>
    clear HT3 c3
    obtain ⟨mr, y, hy, rfl, rfl, k1⟩ := hrel
    have HT := Lib.hid k1
    clear k1
    obtain ⟨L, hL⟩ : ∃ L, s.l = L := ⟨_, rfl⟩
    rw [hL] at hy ⊢
    have HL := Lib.hid hL
    by_cases hlt : y < L
    · have e1 : decide (y < L) = true := by simpa using hlt
      have e2 : decide ((y : Int) < (L : Int)) = true := by simp; omega
      have hw : wrap64 ((y : Int) + 1) = ((y + 1 : Nat) : Int) := by have := HLb.out; unfold wrap64; omega
      have HYl : Hid (y < s.l) := Lib.hid (by rw [HL.out]; exact hlt)
      have HYL : Hid (y < L) := Lib.hid hlt
      have HW := Lib.hid hw
      clear hL hlt hy hw
      gi_upto_region 5 with fail
      refine wpIn_region_lit ?_
      refine wpListIn_vl (fun c h => by cases h) rfl rfl (.bool mr) (Mk.exec_movM (.tmp 7) rfl _ rfl) ?_
      simp only [Act.put, List.setIfInBounds_toArray, List.set_cons_succ, List.set_cons_zero]
      refine wpListIn_vl (fun c h => by cases h) rfl rfl (.bool mr) (Mk.exec_movM (.tmp 21) rfl _ rfl) ?_
      simp only [Act.put, List.setIfInBounds_toArray, List.set_cons_succ, List.set_cons_zero]
      refine wpListIn_vlIf (fun c h => by cases h) rfl mr (by cases mr <;> rfl) (.agg s.q.cells) (fun hb => exec_pl (.tmp 3) rfl W.heap.size rfl s.q HT.out.pl) ?_
      intro u23 hu23 hz23
      simp only [Act.put, List.setIfInBounds_toArray, List.set_cons_succ, List.set_cons_zero]
      refine wpListIn_vlIf (fun c h => by cases h) rfl mr (by cases mr <;> rfl) (.func (.yield l) #[] #[]) (fun hb => Mk.exec_movM (.tmp 1) rfl _ rfl) ?_
      intro u24 hu24 hz24
      simp only [Act.put, List.setIfInBounds_toArray, List.set_cons_succ, List.set_cons_zero]
      refine wpListIn_vlIf (fun c h => by cases h) rfl mr (by cases mr <;> rfl) (.int .i64 (a : Int)) (fun hb => Mk.exec_movM (.tmp 2) rfl _ rfl) ?_
      intro u25 hu25 hz25
      simp only [Act.put, List.setIfInBounds_toArray, List.set_cons_succ, List.set_cons_zero]
      refine wpListIn_vlIf (fun c h => by cases h) rfl mr (by cases mr <;> rfl) (.int .i64 (y : Int)) (fun hb => Mk.exec_movM (.tmp 8) rfl _ rfl) ?_
      intro u26 hu26 hz26
      simp only [Act.put, List.setIfInBounds_toArray, List.set_cons_succ, List.set_cons_zero]
      refine wpListIn_vlIf (fun c h => by cases h) rfl mr (by cases mr <;> rfl) (.agg #[.int .i64 2, .int .i64 (a : Int), .int .i64 (y : Int), .int .i64 0, .int .i64 0]) (fun hb => exec_build3 (.const (.int .i64 2)) (.tmp 25) (.tmp 26) rfl _ _ _ rfl (by exact hu25 hb) (by exact hu26 hb)) ?_
      intro u27 hu27 hz27
      simp only [Act.put, List.setIfInBounds_toArray, List.set_cons_succ, List.set_cons_zero]
      refine wpListIn_callIf (fun c h => by cases h) mr (by cases mr <;> rfl) 79 #[.agg s.q.cells, .func (.yield l) #[] #[], .agg #[.int .i64 2, .int .i64 (a : Int), .int .i64 (y : Int), .int .i64 0, .int .i64 0], .int .i64 8] (fun hb => exec_call4M 79 (.tmp 23) (.tmp 24) (.tmp 27) (.const (.int .i64 8)) _ _ _ _ _ rfl (by exact hu23 hb) (by exact hu24 hb) (by exact hu27 hb) rfl (Tn.cf Try.func79 (by kernel_rfl) (by kernel_rfl) _ _)) (fun hb => by subst hb; exact HK.out _ 2 7 y 0 8 (by omega) (by omega) rfl (by omega) (pre2 HPre.out HYl.out) _ HT.out.kp.size HT.out.came.yes _) (Mo mr (Tp W n0 bc s T J Jx ((((pre ++ segT s 1 1 a 0 0) ++ laysT s a y) ++ segT s 2 7 a y 0)))) ?_ ?_ ?_
      · rintro hb e w9 ⟨mr9, rfl, k1, k2⟩
        exact ⟨_, rfl, mr9, fun _ => rfl, fun h => (by rw [hb] at h; cases h), HT.out.go HN0.out k1 k2⟩
      · exact fun hb => ⟨false, fun h => (by rw [hb] at h; cases h), fun _ => rfl, by subst hb; exact HT.out.no _⟩
      rintro u28 w5 ⟨ma, hu28, hz28, k1⟩
      have HT5 := Lib.hid k1
      simp only [Act.put, List.setIfInBounds_toArray, List.set_cons_succ, List.set_cons_zero]
      have hmm : (mr && ma) = ma := and_no hz28
      refine wpListIn_vl (fun c h => by cases h) rfl rfl (.bool ma) (hmm ▸ Mk.exec_andM (.tmp 22) (.tmp 28) (.const (.bool false)) rfl mr ma rfl (fun hb => by exact hu28 hb) rfl) ?_
      simp only [Act.put, List.setIfInBounds_toArray, List.set_cons_succ, List.set_cons_zero]
      clear HT k1 hmm hu23 hz23 hu24 hz24 hu25 hz25 hu26 hz26 hu27 hz27 hu28 hz28
      have c2 : w5.cell? ⟨W.heap.size, 2, none⟩ = some (.int .i64 (s.h : Int)) := (pl_cells HT5.out.pl).2.2.1
      have HT6 : Hid (Tp W n0 bc s T J Jx ((((pre ++ segT s 1 1 a 0 0) ++ laysT s a y) ++ segT s 2 7 a y 0) ++ headsT s a y 0) ma w5) := Lib.hid (by simpa [headsT] using HT5.out)
      obtain ⟨H, hH⟩ : ∃ H, s.h = H := ⟨_, rfl⟩
      rw [hH] at c2
      have HH := Lib.hid hH
      clear HT5 hH
      gi_wp2
      gi_loopw [7, 33] (fun mv iv wr => ∃ (mr : Bool) (h : Nat), h ≤ H ∧ mv = .bool mr ∧ iv = .int .i64 h ∧ Tp W n0 bc s T J Jx ((((pre ++ segT s 1 1 a 0 0) ++ laysT s a y) ++ segT s 2 7 a y 0) ++ headsT s a y h) mr wr) (fun _ iv _ => H - (intOf iv).toNat)
      case atStart => exact ⟨ma, 0, by omega, rfl, rfl, HT6.out⟩
      case round =>
        clear HT6 c2
        obtain ⟨mr, h, hh, rfl, rfl, k1⟩ := hrel
        have HT7 := Lib.hid k1
        clear k1
        by_cases hlt : h < H
        · have e3 : decide (h < H) = true := by simpa using hlt
          have e4 : decide ((h : Int) < (H : Int)) = true := by simp; omega
          have hw : wrap64 ((h : Int) + 1) = ((h + 1 : Nat) : Int) := by have := HHb.out; have := HH.out; unfold wrap64; omega
          have HHl : Hid (h < s.h) := Lib.hid (by rw [HH.out]; exact hlt)
          have HHL : Hid (h < H) := Lib.hid hlt
          have HW2 := Lib.hid hw
          clear hlt hh hw
          gi_upto_region 9 with fail
          refine wpIn_region_lit ?_
          refine wpListIn_vl (fun c h => by cases h) rfl rfl (.bool mr) (Mk.exec_movM (.tmp 7) rfl _ rfl) ?_
          simp only [Act.put, List.setIfInBounds_toArray, List.set_cons_succ, List.set_cons_zero]
          refine wpListIn_vl (fun c h => by cases h) rfl rfl (.bool mr) (Mk.exec_movM (.tmp 36) rfl _ rfl) ?_
          simp only [Act.put, List.setIfInBounds_toArray, List.set_cons_succ, List.set_cons_zero]
          refine wpListIn_vlIf (fun c h => by cases h) rfl mr (by cases mr <;> rfl) (.agg s.q.cells) (fun hb => exec_pl (.tmp 3) rfl W.heap.size rfl s.q HT7.out.pl) ?_
          intro u38 hu38 hz38
          simp only [Act.put, List.setIfInBounds_toArray, List.set_cons_succ, List.set_cons_zero]
          refine wpListIn_vlIf (fun c h => by cases h) rfl mr (by cases mr <;> rfl) (.func (.yield l) #[] #[]) (fun hb => Mk.exec_movM (.tmp 1) rfl _ rfl) ?_
          intro u39 hu39 hz39
          simp only [Act.put, List.setIfInBounds_toArray, List.set_cons_succ, List.set_cons_zero]
          refine wpListIn_vlIf (fun c h => by cases h) rfl mr (by cases mr <;> rfl) (.int .i64 (a : Int)) (fun hb => Mk.exec_movM (.tmp 2) rfl _ rfl) ?_
          intro u40 hu40 hz40
          simp only [Act.put, List.setIfInBounds_toArray, List.set_cons_succ, List.set_cons_zero]
          refine wpListIn_vlIf (fun c h => by cases h) rfl mr (by cases mr <;> rfl) (.int .i64 (y : Int)) (fun hb => Mk.exec_movM (.tmp 8) rfl _ rfl) ?_
          intro u41 hu41 hz41
          simp only [Act.put, List.setIfInBounds_toArray, List.set_cons_succ, List.set_cons_zero]
          refine wpListIn_vlIf (fun c h => by cases h) rfl mr (by cases mr <;> rfl) (.int .i64 (h : Int)) (fun hb => Mk.exec_movM (.tmp 9) rfl _ rfl) ?_
          intro u42 hu42 hz42
          simp only [Act.put, List.setIfInBounds_toArray, List.set_cons_succ, List.set_cons_zero]
          refine wpListIn_vlIf (fun c h => by cases h) rfl mr (by cases mr <;> rfl) (.agg #[.int .i64 9, .int .i64 (a : Int), .int .i64 (y : Int), .int .i64 (h : Int), .int .i64 0]) (fun hb => exec_build4 (.const (.int .i64 9)) (.tmp 40) (.tmp 41) (.tmp 42) rfl _ _ _ _ rfl (by exact hu40 hb) (by exact hu41 hb) (by exact hu42 hb)) ?_
          intro u43 hu43 hz43
          simp only [Act.put, List.setIfInBounds_toArray, List.set_cons_succ, List.set_cons_zero]
          refine wpListIn_callIf (fun c h => by cases h) mr (by cases mr <;> rfl) 79 #[.agg s.q.cells, .func (.yield l) #[] #[], .agg #[.int .i64 9, .int .i64 (a : Int), .int .i64 (y : Int), .int .i64 (h : Int), .int .i64 0], .int .i64 11] (fun hb => exec_call4M 79 (.tmp 38) (.tmp 39) (.tmp 43) (.const (.int .i64 11)) _ _ _ _ _ rfl (by exact hu38 hb) (by exact hu39 hb) (by exact hu43 hb) rfl (Tn.cf Try.func79 (by kernel_rfl) (by kernel_rfl) _ _)) (fun hb => by subst hb; exact HK.out _ 9 3 y h 11 (by omega) (by omega) rfl (by omega) (pre3 HPre.out HYl.out HHl.out) _ HT7.out.kp.size HT7.out.came.yes _) (Mo mr (Tp W n0 bc s T J Jx ((((pre ++ segT s 1 1 a 0 0) ++ laysT s a y) ++ segT s 2 7 a y 0) ++ headsT s a y h ++ segT s 9 3 a y h))) ?_ ?_ ?_
          · rintro hb e w9 ⟨mr9, rfl, k1, k2⟩
            exact ⟨_, rfl, mr9, fun _ => rfl, fun h => (by rw [hb] at h; cases h), HT7.out.go HN0.out k1 k2⟩
          · exact fun hb => ⟨false, fun h => (by rw [hb] at h; cases h), fun _ => rfl, by subst hb; exact HT7.out.no _⟩
          rintro u44 w8 ⟨mc, hu44, hz44, k1⟩
          have HT8 := Lib.hid k1
          simp only [Act.put, List.setIfInBounds_toArray, List.set_cons_succ, List.set_cons_zero]
          have hmm : (mr && mc) = mc := and_no hz44
          refine wpListIn_vl (fun c h => by cases h) rfl rfl (.bool mc) (hmm ▸ Mk.exec_andM (.tmp 37) (.tmp 44) (.const (.bool false)) rfl mr mc rfl (fun hb => by exact hu44 hb) rfl) ?_
          simp only [Act.put, List.setIfInBounds_toArray, List.set_cons_succ, List.set_cons_zero]
          clear HT7 k1 hmm hu38 hz38 hu39 hz39 hu40 hz40 hu41 hz41 hu42 hz42 hu43 hz43 hu44 hz44
          have hhL := HHL.out
          have hh8 := HHb.out
          rw [HH.out] at hh8
          gi_wp2
          go_roundw
          case rel => exact ⟨mc, h + 1, HHL.out, rfl, by go_num, by rw [← pre6]; exact HT8.out⟩
          case measure => simp [intOf]; omega
        · obtain rfl : h = H := by omega
          have e3 : decide (h < h) = false := by simp
          have e4 : decide ((h : Int) < (h : Int)) = false := by simp
          have HT9 : Hid (Tp W n0 bc s T J Jx ((((pre ++ segT s 1 1 a 0 0) ++ laysT s a y) ++ segT s 2 7 a y 0) ++ headsT s a y s.h) mr wr) := Lib.hid (by rw [HH.out]; exact HT7.out)
          clear hlt hh HT7
          gi_upto_region 11 with fail
          refine wpIn_region_lit ?_
          refine wpListIn_vl (fun c h => by cases h) rfl rfl (.bool mr) (Mk.exec_movM (.tmp 7) rfl _ rfl) ?_
          simp only [Act.put, List.setIfInBounds_toArray, List.set_cons_succ, List.set_cons_zero]
          refine wpListIn_vl (fun c h => by cases h) rfl rfl (.bool mr) (Mk.exec_movM (.tmp 47) rfl _ rfl) ?_
          simp only [Act.put, List.setIfInBounds_toArray, List.set_cons_succ, List.set_cons_zero]
          refine wpListIn_vlIf (fun c h => by cases h) rfl mr (by cases mr <;> rfl) (.agg s.q.cells) (fun hb => exec_pl (.tmp 3) rfl W.heap.size rfl s.q HT9.out.pl) ?_
          intro u49 hu49 hz49
          simp only [Act.put, List.setIfInBounds_toArray, List.set_cons_succ, List.set_cons_zero]
          refine wpListIn_vlIf (fun c h => by cases h) rfl mr (by cases mr <;> rfl) (.func (.yield l) #[] #[]) (fun hb => Mk.exec_movM (.tmp 1) rfl _ rfl) ?_
          intro u50 hu50 hz50
          simp only [Act.put, List.setIfInBounds_toArray, List.set_cons_succ, List.set_cons_zero]
          refine wpListIn_vlIf (fun c h => by cases h) rfl mr (by cases mr <;> rfl) (.int .i64 (a : Int)) (fun hb => Mk.exec_movM (.tmp 2) rfl _ rfl) ?_
          intro u51 hu51 hz51
          simp only [Act.put, List.setIfInBounds_toArray, List.set_cons_succ, List.set_cons_zero]
          refine wpListIn_vlIf (fun c h => by cases h) rfl mr (by cases mr <;> rfl) (.int .i64 (y : Int)) (fun hb => Mk.exec_movM (.tmp 8) rfl _ rfl) ?_
          intro u52 hu52 hz52
          simp only [Act.put, List.setIfInBounds_toArray, List.set_cons_succ, List.set_cons_zero]
          refine wpListIn_vlIf (fun c h => by cases h) rfl mr (by cases mr <;> rfl) (.agg #[.int .i64 12, .int .i64 (a : Int), .int .i64 (y : Int), .int .i64 0, .int .i64 0]) (fun hb => exec_build3 (.const (.int .i64 12)) (.tmp 51) (.tmp 52) rfl _ _ _ rfl (by exact hu51 hb) (by exact hu52 hb)) ?_
          intro u53 hu53 hz53
          simp only [Act.put, List.setIfInBounds_toArray, List.set_cons_succ, List.set_cons_zero]
          refine wpListIn_callIf (fun c h => by cases h) mr (by cases mr <;> rfl) 79 #[.agg s.q.cells, .func (.yield l) #[] #[], .agg #[.int .i64 12, .int .i64 (a : Int), .int .i64 (y : Int), .int .i64 0, .int .i64 0], .int .i64 20] (fun hb => exec_call4M 79 (.tmp 49) (.tmp 50) (.tmp 53) (.const (.int .i64 20)) _ _ _ _ _ rfl (by exact hu49 hb) (by exact hu50 hb) (by exact hu53 hb) rfl (Tn.cf Try.func79 (by kernel_rfl) (by kernel_rfl) _ _)) (fun hb => by subst hb; exact HK.out _ 12 9 y 0 20 (by omega) (by omega) rfl (by omega) (pre4 HPre.out HYl.out) _ HT9.out.kp.size HT9.out.came.yes _) (Mo mr (Tp W n0 bc s T J Jx ((((pre ++ segT s 1 1 a 0 0) ++ laysT s a y) ++ segT s 2 7 a y 0) ++ headsT s a y s.h ++ segT s 12 9 a y 0))) ?_ ?_ ?_
          · rintro hb e w9 ⟨mr9, rfl, k1, k2⟩
            exact ⟨_, rfl, mr9, fun _ => rfl, fun h => (by rw [hb] at h; cases h), HT9.out.go HN0.out k1 k2⟩
          · exact fun hb => ⟨false, fun h => (by rw [hb] at h; cases h), fun _ => rfl, by subst hb; exact HT9.out.no _⟩
          rintro u54 w10 ⟨mc, hu54, hz54, k1⟩
          have HTa := Lib.hid k1
          simp only [Act.put, List.setIfInBounds_toArray, List.set_cons_succ, List.set_cons_zero]
          have hmm : (mr && mc) = mc := and_no hz54
          refine wpListIn_vl (fun c h => by cases h) rfl rfl (.bool mc) (hmm ▸ Mk.exec_andM (.tmp 48) (.tmp 54) (.const (.bool false)) rfl mr mc rfl (fun hb => by exact hu54 hb) rfl) ?_
          simp only [Act.put, List.setIfInBounds_toArray, List.set_cons_succ, List.set_cons_zero]
          clear HT9 k1 hmm hu49 hz49 hu50 hz50 hu51 hz51 hu52 hz52 hu53 hz53 hu54 hz54
          have hhL := HYL.out
          have hh8 := HLb.out
          rw [HL.out] at hh8
          gi_wp2
          go_roundw
          case rel => exact ⟨mc, y + 1, HYL.out, rfl, by go_num, by rw [← pre5]; exact HTa.out⟩
          case measure => simp [intOf]; omega
    · obtain rfl : y = L := by omega
      have e1 : decide (y < y) = false := by simp
      have e2 : decide ((y : Int) < (y : Int)) = false := by simp
      have HT5 : Hid (Tp W n0 bc s T J Jx ((pre ++ segT s 1 1 a 0 0) ++ laysT s a s.l) mr wr) := Lib.hid (by rw [HL.out]; exact HT.out)
      clear hL hlt hy HT
      gi_upto_region 13 with fail
      refine wpIn_region_lit ?_
      refine wpListIn_vl (fun c h => by cases h) rfl rfl (.bool mr) (Mk.exec_movM (.tmp 7) rfl _ rfl) ?_
      simp only [Act.put, List.setIfInBounds_toArray, List.set_cons_succ, List.set_cons_zero]
      refine wpListIn_vl (fun c h => by cases h) rfl rfl (.bool mr) (Mk.exec_movM (.tmp 57) rfl _ rfl) ?_
      simp only [Act.put, List.setIfInBounds_toArray, List.set_cons_succ, List.set_cons_zero]
      refine wpListIn_vlIf (fun c h => by cases h) rfl mr (by cases mr <;> rfl) (.agg s.q.cells) (fun hb => exec_pl (.tmp 3) rfl W.heap.size rfl s.q HT5.out.pl) ?_
      intro u59 hu59 hz59
      simp only [Act.put, List.setIfInBounds_toArray, List.set_cons_succ, List.set_cons_zero]
      refine wpListIn_vlIf (fun c h => by cases h) rfl mr (by cases mr <;> rfl) (.func (.yield l) #[] #[]) (fun hb => Mk.exec_movM (.tmp 1) rfl _ rfl) ?_
      intro u60 hu60 hz60
      simp only [Act.put, List.setIfInBounds_toArray, List.set_cons_succ, List.set_cons_zero]
      refine wpListIn_vlIf (fun c h => by cases h) rfl mr (by cases mr <;> rfl) (.int .i64 (a : Int)) (fun hb => Mk.exec_movM (.tmp 2) rfl _ rfl) ?_
      intro u61 hu61 hz61
      simp only [Act.put, List.setIfInBounds_toArray, List.set_cons_succ, List.set_cons_zero]
      refine wpListIn_vlIf (fun c h => by cases h) rfl mr (by cases mr <;> rfl) (.agg #[.int .i64 21, .int .i64 (a : Int), .int .i64 0, .int .i64 0, .int .i64 0]) (fun hb => exec_build2 (.const (.int .i64 21)) (.tmp 61) rfl _ _ rfl (by exact hu61 hb)) ?_
      intro u62 hu62 hz62
      simp only [Act.put, List.setIfInBounds_toArray, List.set_cons_succ, List.set_cons_zero]
      refine wpListIn_callIf (fun c h => by cases h) mr (by cases mr <;> rfl) 79 #[.agg s.q.cells, .func (.yield l) #[] #[], .agg #[.int .i64 21, .int .i64 (a : Int), .int .i64 0, .int .i64 0, .int .i64 0], .int .i64 23] (fun hb => exec_call4M 79 (.tmp 59) (.tmp 60) (.tmp 62) (.const (.int .i64 23)) _ _ _ _ _ rfl (by exact hu59 hb) (by exact hu60 hb) (by exact hu62 hb) rfl (Tn.cf Try.func79 (by kernel_rfl) (by kernel_rfl) _ _)) (fun hb => by subst hb; exact HK.out _ 21 3 0 0 23 (by omega) (by omega) rfl (by omega) (by rw [pre7]; exact HPre.out) _ HT5.out.kp.size HT5.out.came.yes _) (Mo mr (Tp W n0 bc s T J Jx (((pre ++ segT s 1 1 a 0 0) ++ laysT s a s.l) ++ segT s 21 3 a 0 0))) ?_ ?_ ?_
      · rintro hb e w9 ⟨mr9, rfl, k1, k2⟩
        exact ⟨_, rfl, mr9, fun _ => rfl, fun h => (by rw [hb] at h; cases h), HT5.out.go HN0.out k1 k2⟩
      · exact fun hb => ⟨false, fun h => (by rw [hb] at h; cases h), fun _ => rfl, by subst hb; exact HT5.out.no _⟩
      rintro u63 w6 ⟨mc, hu63, hz63, k1⟩
      have HT6 := Lib.hid k1
      simp only [Act.put, List.setIfInBounds_toArray, List.set_cons_succ, List.set_cons_zero]
      have hmm : (mr && mc) = mc := and_no hz63
      refine wpListIn_vl (fun c h => by cases h) rfl rfl (.bool mc) (hmm ▸ Mk.exec_andM (.tmp 58) (.tmp 63) (.const (.bool false)) rfl mr mc rfl (fun hb => by exact hu63 hb) rfl) ?_
      simp only [Act.put, List.setIfInBounds_toArray, List.set_cons_succ, List.set_cons_zero]
      clear HT5 k1 hmm hu59 hz59 hu60 hz60 hu61 hz61 hu62 hz62 hu63 hz63
      gi_wp2
      go_ret
      exact ⟨mc, rfl, HT6.out.kp, by rw [← pre7]; exact HT6.out.came⟩
end Go.Proofs.Ytdffbjjiojheoaa.St
