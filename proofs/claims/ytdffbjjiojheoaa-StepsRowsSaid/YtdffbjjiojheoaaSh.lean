/- Steps: the stretches of kinds, told one by one. -/
import Derived.Test.YtdffbjjiojheoaaSg
import Derived.Sort.CutIn
namespace Go.Proofs.Ytdffbjjiojheoaa.St
set_option maxRecDepth 100000
open Go.ChangeShapes Go.WideShapes Go.ChangeAt Go.RowKit Go.Shelf Go.Proofs.Ytdffbjjiojheoaa.Tn Go.Proofs.Ytdffbjjiojheoaa.Wg
attribute [local go_sem] Oper.semAt_some
/-- a stretch: kind, place, layer, head, how many rows -/
structure Str where
  k : Nat
  a : Nat
  y : Nat
  h : Nat
  n : Nat
def Str.val (x : Str) : Value := .agg #[.int .i64 (x.k : Int), .int .i64 (x.a : Int), .int .i64 (x.y : Int), .int .i64 (x.h : Int), .int .i64 0, .int .i64 (x.n : Int)]
/-- n stretches of a layer and head, from a kind on -/
def segT (s : PlN) (k n a y h : Nat) : List Str := (List.range n).map fun i => ⟨k + i, a, y, h, s.rows ((k + i : Nat) : Int) a⟩
theorem segT_succ (s : PlN) (k n a y h : Nat) : segT s k (n + 1) a y h = segT s k n a y h ++ [⟨k + n, a, y, h, s.rows ((k + n : Nat) : Int) a⟩] := by simp [segT, List.range_succ]
theorem segT_pre (s : PlN) (k i n a y h : Nat) (hi : i ≤ n) : segT s k i a y h <+: segT s k n a y h := by
  obtain ⟨d, rfl⟩ : ∃ d, n = i + d := ⟨n - i, by omega⟩
  unfold segT
  rw [List.range_add, List.map_append]
  exact List.prefix_append _ _
/-- the types of the iterator's own boxes -/
def TkS (t : TypeId) : Prop := t = 56 ∨ t = 40 ∨ t = 95 ∨ t = 90
structure KpS (n0 bc : Nat) (W W' : World) : Prop where
  size : W.heap.size ≤ W'.heap.size
  same : ∀ k cs t, n0 ≤ k ∨ k = bc → TkS t → W.heap[k]? = some (.cells cs t (0, 0)) → W'.heap[k]? = some (.cells cs t (0, 0))
theorem KpS.refl (n0 bc : Nat) (W : World) : KpS n0 bc W W := ⟨Nat.le_refl _, fun _ _ _ _ _ h => h⟩
theorem KpS.trans {n0 bc : Nat} {A B C : World} (h : KpS n0 bc A B) (k : KpS n0 bc B C) : KpS n0 bc A C := ⟨Nat.le_trans h.size k.size, fun j cs t hj ht e => k.same j cs t hj ht (h.same j cs t hj ht e)⟩
theorem KpS.of_below {n0 bc : Nat} {W W' : World} (h : Below W.heap.size W W') : KpS n0 bc W W' := ⟨h.size, fun _ _ _ _ _ e => (h.block _ (Array.getElem?_eq_some_iff.1 e).1).trans e⟩
theorem KpS.put {n0 bc : Nat} (W : World) (l : Nat) (o o' : Obj) (h : W.heap[l]? = some o) (ho : o.isCells = false) : KpS n0 bc W (W.putObj l o') :=
  ⟨by simp [World.putObj], fun j cs t _ _ e => by
    have hne : j ≠ l := fun e2 => by rw [e2, h] at e; cases e; cases ho
    exact (World.putObj_heap_other hne).trans e⟩
/-- what a call keeps of the world that it was called in: but for its own blocks, as a round does -/
structure KpE (n0 bc : Nat) (W W' : World) : Prop where
  size : W.heap.size ≤ W'.heap.size
  same : ∀ k cs t, k < W.heap.size → n0 ≤ k ∨ k = bc → TkS t → W.heap[k]? = some (.cells cs t (0, 0)) → W'.heap[k]? = some (.cells cs t (0, 0))
theorem KpS.e {n0 bc : Nat} {W W' : World} (h : KpS n0 bc W W') : KpE n0 bc W W' := ⟨h.size, fun k cs t _ hk ht e => h.same k cs t hk ht e⟩
theorem KpE.s {n0 bc : Nat} {W W' : World} (h : KpE n0 bc W W') : KpS n0 bc W W' := ⟨h.size, fun k cs t hk ht e => h.same k cs t (Array.getElem?_eq_some_iff.1 e).1 hk ht e⟩
theorem KpE.trans {n0 bc : Nat} {A B C : World} (h : KpE n0 bc A B) (k : KpE n0 bc B C) : KpE n0 bc A C := ⟨Nat.le_trans h.size k.size, fun j cs t hj hn ht e => k.same j cs t (Nat.lt_of_lt_of_le hj h.size) hn ht (h.same j cs t hj hn ht e)⟩
/-- a cell of a block of the call's own is turned -/
theorem KpE.own {n0 bc : Nat} {W W' : World} (h : KpE n0 bc W W') {g i : Nat} (hg : W.heap.size ≤ g) (v : Value) : KpE n0 bc W (W'.setCell ⟨g, i, none⟩ v) :=
  ⟨by simp; exact h.size, fun k cs t hk hn ht e => (heap_setCell_other _ _ _ _ (fun e2 => by simp at e2; omega)).trans (h.same k cs t hk hn ht e)⟩
theorem yieldAt_any {n m : Nat} {P : Program} {l : Nat} {args : Array Value} {W : World} {R : Ending → World → Prop} (h : YieldAt Fence.wide n P l args W R) : YieldAt Fence.wide m P l args W R := by
  obtain ⟨fn, tmps, assign, body, h1, h2⟩ := h
  exact ⟨fn, tmps, assign, body, h1, h2.1, fun c cs _ => h2.2 c cs (room_wide _)⟩
/-- the boxes of tellKinds -/
structure Kd (g : Nat) (s : PlN) (k a y h : Nat) (W : World) : Prop where
  pl : W.heap[g]? = some (.cells s.q.cells 40 (0, 0))
  st : W.heap[g + 1]? = some (.cells #[.int .i64 (k : Int), .int .i64 (a : Int), .int .i64 (y : Int), .int .i64 (h : Int), .int .i64 0] 56 (0, 0))
section
variable {g : Nat} {s : PlN} {k a y h : Nat} {W W' : World}
theorem Kd.later (hk : Kd g s k a y h W) (hb : Below W.heap.size W W') : Kd g s k a y h W' := ⟨(hb.block _ (Array.getElem?_eq_some_iff.1 hk.pl).1).trans hk.pl, (hb.block _ (Array.getElem?_eq_some_iff.1 hk.st).1).trans hk.st⟩
theorem Kd.kept {n0 bc : Nat} (hk : Kd g s k a y h W) (hg : n0 ≤ g) (hp : KpS n0 bc W W') : Kd g s k a y h W' := ⟨hp.same _ _ _ (Or.inl hg) (Or.inr (Or.inl rfl)) hk.pl, hp.same _ _ _ (Or.inl (by omega)) (Or.inl rfl) hk.st⟩
theorem Kd.turn (hk : Kd g s k a y h W) (k' : Nat) : Kd g s k' a y h (W.setCell ⟨g + 1, 0, none⟩ (.int .i64 (k' : Int))) :=
  ⟨(heap_setCell_other _ _ _ _ (by simp)).trans hk.pl, by rw [heap_setCell_same _ _ _ _ _ _ hk.st]; rfl⟩
theorem Kd.cells (hk : Kd g s k a y h W) : W.cell? ⟨g + 1, 0, none⟩ = some (.int .i64 (k : Int)) ∧ W.cell? ⟨g + 1, 1, none⟩ = some (.int .i64 (a : Int)) ∧ W.frozen? ⟨g + 1, 0, none⟩ = false := by
  refine ⟨?_, ?_, frozen_of_row _ _ _ _ _ hk.st⟩ <;> (rw [cell_of_row _ _ _ _ _ _ hk.st]; rfl)
theorem Kd.made (w : World) (s : PlN) (k a y h : Nat) : Kd w.heap.size s k a y h ((w.alloc (.cells s.q.cells 40)).alloc (.cells #[.int .i64 (k : Int), .int .i64 (a : Int), .int .i64 (y : Int), .int .i64 (h : Int), .int .i64 0] 56)) := by
  obtain ⟨O1, hO1⟩ : ∃ O, (Obj.cells s.q.cells 40 (0, 0)) = O := ⟨_, rfl⟩
  obtain ⟨O2, hO2⟩ : ∃ O, (Obj.cells #[.int .i64 (k : Int), .int .i64 (a : Int), .int .i64 (y : Int), .int .i64 (h : Int), .int .i64 0] 56 (0, 0)) = O := ⟨_, rfl⟩
  rw [hO1, hO2]
  have e1 : (w.alloc O1).heap.size = w.heap.size + 1 := by simp
  refine ⟨?_, ?_⟩
  · rw [hO1, heap_alloc_old _ _ (by omega)]; exact heap_alloc_new _ _
  · rw [hO2, ← e1]; exact heap_alloc_new _ _
end
section
variable {a : Act} {o : Oper} {W : World}
theorem exec_stp (x : Operand) (ho : o.op = .load 56 x) (g : Nat) (hx : a.eval x = .pointer (some ⟨g, 0, none⟩)) (v0 v1 v2 v3 v4 : Value) (h : W.heap[g]? = some (.cells #[v0, v1, v2, v3, v4] 56 (0, 0))) : (execOp a.eval o).run Try.prog W = .ok (.value (.agg #[v0, v1, v2, v3, v4])) W :=
  Mk.exec_rowM 56 x ho g hx 56 _ (0, 0) _ h Try.underlying56 rfl (by kernel_rfl)
theorem run_buildT (W : World) (k a y h n : Int) : (Instr.build 95 #[(0, .agg #[.int .i64 k, .int .i64 a, .int .i64 y, .int .i64 h, .int .i64 0]), (1, .int .i64 n)]).run Try.prog W = .ok (.agg #[.int .i64 k, .int .i64 a, .int .i64 y, .int .i64 h, .int .i64 0, .int .i64 n]) W := by kernel_rfl
theorem exec_buildT (x z : Operand) (ho : o.op = .build 95 #[(0, x), (1, z)]) (k a' y h n : Int) (hx : a.eval x = .agg #[.int .i64 k, .int .i64 a', .int .i64 y, .int .i64 h, .int .i64 0]) (hz : a.eval z = .int .i64 n) : (execOp a.eval o).run Try.prog W = .ok (.value (.agg #[.int .i64 k, .int .i64 a', .int .i64 y, .int .i64 h, .int .i64 0, .int .i64 n])) W := by
  have e : (#[((0 : Nat), x), (1, z)].map fun (i, x) => (i, a.eval x)) = #[(0, .agg #[.int .i64 k, .int .i64 a', .int .i64 y, .int .i64 h, .int .i64 0]), (1, .int .i64 n)] := by simp [hx, hz]
  unfold execOp
  simp only [ho, e, Sem.run_bind, run_buildT, Result.andThen_ok, Sem.run_pure]
end
/-- a word of rounds: yes, and J; or no, and Jx -/
def YS (n0 bc l : Nat) (T : List Str) (J Jx : List Str → World → Prop) : Prop := ∀ pre x W, J pre W → (pre ++ [x]) <+: T → YieldAt Fence.wide 0 Try.prog l #[x.val] W fun e W' => (e = .returned (.bool true) ∧ J (pre ++ [x]) W' ∧ KpS n0 bc W W') ∨ (e = .returned (.bool false) ∧ Jx (pre ++ [x]) W' ∧ KpS n0 bc W W')
def Came (_T : List Str) (J Jx : List Str → World → Prop) (pre : List Str) (mr : Bool) (W : World) : Prop := (mr = true ∧ J pre W) ∨ (mr = false ∧ ∃ p, Jx p W)
set_option maxHeartbeats 8000000 in
theorem kinds_in (m l n0 bc B0 : Nat) (s : PlN) (hs : s.B) (T : List Str) (J Jx : List Str → World → Prop) (hJ : OwnC B0 J) (hJx : OwnC B0 Jx) (hY : YS n0 bc l T J Jx)
    (pre : List Str) (k n a y h z : Nat) (hk : 1 ≤ k) (hn : 1 ≤ n) (hz : k + n = z + 1) (hz2 : z ≤ 23) (ha : a ≤ 64) (hpre : (pre ++ segT s k n a y h) <+: T) (W : World) (hn0 : n0 ≤ W.heap.size) (hB0 : B0 ≤ W.heap.size) (h0 : J pre W) :
    CallsIn Fence.wide m Try.prog 79 #[.agg s.q.cells, .func (.yield l) #[] #[], .agg #[.int .i64 (k : Int), .int .i64 (a : Int), .int .i64 (y : Int), .int .i64 (h : Int), .int .i64 0], .int .i64 (z : Int)] W fun e W' => ∃ mr, e = .returned (.bool mr) ∧ KpS n0 bc W W' ∧ Came T J Jx (pre ++ segT s k n a y h) mr W' := by
  have HRw := Lib.hid (fun W k' (h1 : 1 ≤ k') (h2 : k' ≤ 23) => rows_any W s hs k' a h1 h2 ha)
  have HY := Lib.hid hY
  have HJ : Hid (OwnC B0 J) := hJ
  have HJx : Hid (OwnC B0 Jx) := hJx
  have HPre := Lib.hid hpre
  have HM := Lib.hid (Kd.made W s k a y h)
  have HZ := Lib.hid hz
  have HB0 := Lib.hid hB0
  have HN0 := Lib.hid hn0
  have hal1 : Below W.heap.size W (W.alloc (.cells s.q.cells 40)) := (Below.refl _ _).alloc (Nat.le_refl _) _
  have hal : Below W.heap.size W ((W.alloc (.cells s.q.cells 40)).alloc (.cells #[.int .i64 (k : Int), .int .i64 (a : Int), .int .i64 (y : Int), .int .i64 (h : Int), .int .i64 0] 56)) := hal1.alloc (by simp) _
  have HJ1 := Lib.hid (hJ.below h0 hal)
  have HB1 := Lib.hid hal
  clear hY hJ hJx hpre hB0 hn0 hal1 hal h0 hs
  refine callsIn_of_wp Try.func79 rfl trivial ?_ rfl
  simp only [Try.ntmps79, List.size_toArray, List.length_cons, List.length_nil, Nat.reduceAdd, Nat.reduceSub, Array.replicate_succ, Array.replicate_zero, List.push_toArray, List.append_toArray, List.nil_append, List.cons_append]
  gi_wp2
  have hg1 : W.heap.size + 1 < ((W.alloc (.cells s.q.cells 40)).alloc (.cells #[.int .i64 (k : Int), .int .i64 (a : Int), .int .i64 (y : Int), .int .i64 (h : Int), .int .i64 0] 56)).heap.size := by simp
  gi_loopw [] (fun wr => ∃ i : Nat, i ≤ n ∧ Kd W.heap.size s (k + i) a y h wr ∧ W.heap.size + 1 < wr.heap.size ∧ J (pre ++ segT s k i a y h) wr ∧ KpE n0 bc W wr) (fun wr => n + k - (intOf ((wr.cell? ⟨W.heap.size + 1, 0, none⟩).getD undef)).toNat)
  case atStart => exact ⟨0, by omega, HM.out, hg1, by simpa [segT] using HJ1.out, (KpS.of_below HB1.out).e⟩
  case round =>
    clear HM HJ1 HB1 hg1
    obtain ⟨i, hi, k1, k2, k3, k4⟩ := hrel
    have HD := Lib.hid k1
    have HSz := Lib.hid k2
    have HJr := Lib.hid k3
    have HKe := Lib.hid k4
    obtain ⟨c0, c1, z0⟩ := k1.cells
    clear k1 k2 k3 k4
    obtain ⟨K, hK⟩ : ∃ K, k + i = K := ⟨_, rfl⟩
    rw [hK] at c0 HD
    have HKk := Lib.hid hK
    by_cases hlt : i < n
    · have e1 : decide (K ≤ z) = true := by simp; omega
      have e2 : decide ((K : Int) ≤ (z : Int)) = true := by simp; omega
      have HRc := Lib.hid (fun W => HRw.out W K (by omega) (by omega))
      obtain ⟨R, hR⟩ : ∃ R, s.rows (K : Int) a = R := ⟨_, rfl⟩
      rw [hR] at HRc
      have hx2 : ((pre ++ segT s k i a y h) ++ [⟨K, a, y, h, R⟩]) <+: T := by
        refine List.IsPrefix.trans ?_ HPre.out
        rw [List.append_assoc]
        refine (List.prefix_append_right_inj pre).2 ?_
        have e : segT s k i a y h ++ [⟨K, a, y, h, R⟩] = segT s k (i + 1) a y h := by rw [segT_succ, hK, hR]
        rw [e]
        exact segT_pre s k (i + 1) n a y h hlt
      have HX := Lib.hid hx2
      have HSg : Hid (pre ++ segT s k (i + 1) a y h = (pre ++ segT s k i a y h) ++ [⟨K, a, y, h, R⟩]) := Lib.hid (by rw [segT_succ, hK, hR, List.append_assoc])
      have HL : Hid (i < n) := Lib.hid hlt
      have hw : wrap64 ((K : Int) + 1) = ((K + 1 : Nat) : Int) := by unfold wrap64; omega
      have hw2 : IntKind.i64.wrap ((K : Int) + 1) = ((K + 1 : Nat) : Int) := by rw [IntWalk.i64_in _ (by omega)]; omega
      have HW1 := Lib.hid hw
      have HW2 := Lib.hid hw2
      clear hR hx2 hK hlt hi hw hw2 hk hn hz hz2
      gi_upto_region 3 with fail
      refine wpIn_region_specW (C := fun Y => Kd W.heap.size s K a y h Y ∧ Below wr.heap.size wr Y) (Le := fun _ _ => True) 9 (fun j _ v => v = ([.func (.yield l) #[] #[], .agg #[.int .i64 (K : Int), .int .i64 (a : Int), .int .i64 (y : Int), .int .i64 (h : Int), .int .i64 0], .agg s.q.cells, .pointer (some ⟨W.heap.size + 1, 0, none⟩), .int .i64 (K : Int), .pointer (some ⟨W.heap.size + 1, 1, none⟩), .int .i64 (a : Int), .int .i64 (R : Int), .agg #[.int .i64 (K : Int), .int .i64 (a : Int), .int .i64 (y : Int), .int .i64 (h : Int), .int .i64 0, .int .i64 (R : Int)]] : List Value).getD j undef) (by kernel_rfl) (by kernel_rfl) (by kernel_rfl) ⟨⟨HD.out.pl, HD.out.st⟩, ⟨rfl, rfl, rfl, Nat.le_refl _, fun _ _ => rfl⟩⟩ (fun _ _ _ _ _ h => h) (fun j => ([.func (.yield l) #[] #[], .agg #[.int .i64 (K : Int), .int .i64 (a : Int), .int .i64 (y : Int), .int .i64 (h : Int), .int .i64 0], .agg s.q.cells, .pointer (some ⟨W.heap.size + 1, 0, none⟩), .int .i64 (K : Int), .pointer (some ⟨W.heap.size + 1, 1, none⟩), .int .i64 (a : Int), .int .i64 (R : Int), .agg #[.int .i64 (K : Int), .int .i64 (a : Int), .int .i64 (y : Int), .int .i64 (h : Int), .int .i64 0, .int .i64 (R : Int)]] : List Value).getD j undef) (fun _ _ _ h => h) ?_ ?_
      · simp only [List.take_succ_cons, List.take_zero]
        refine Tn.spec_cons (fun Y hC hd => ⟨by rfl, Tn.gives_val _ Y (by rfl) ⟨hC, trivial, rfl⟩⟩) ?_
        simp only [Act.put, List.setIfInBounds_toArray, List.set_cons_succ, List.set_cons_zero, Nat.reduceAdd]
        refine Tn.spec_cons (fun Y hC hd => ⟨by rfl, Tn.gives_val _ Y (exec_stp (.tmp 6) rfl (W.heap.size + 1) rfl _ _ _ _ _ hC.1.st) ⟨hC, trivial, rfl⟩⟩) ?_
        simp only [Act.put, List.setIfInBounds_toArray, List.set_cons_succ, List.set_cons_zero, Nat.reduceAdd]
        refine Tn.spec_cons (fun Y hC hd => ⟨by rfl, Tn.gives_val _ Y (exec_pl (.tmp 4) rfl W.heap.size rfl s.q hC.1.pl) ⟨hC, trivial, rfl⟩⟩) ?_
        simp only [Act.put, List.setIfInBounds_toArray, List.set_cons_succ, List.set_cons_zero, Nat.reduceAdd]
        refine Tn.spec_cons (fun Y hC hd => ⟨by rfl, Tn.gives_val _ Y (Mk.exec_fldM 56 0 (.tmp 6) rfl _ _ rfl (by kernel_rfl)) ⟨hC, trivial, rfl⟩⟩) ?_
        simp only [Act.put, List.setIfInBounds_toArray, List.set_cons_succ, List.set_cons_zero, Nat.reduceAdd]
        refine Tn.spec_cons (fun Y hC hd => ⟨by rfl, Tn.gives_val _ Y (Bp.exec_load1 3 (.tmp 20) rfl ⟨W.heap.size + 1, 0, none⟩ rfl _ hC.1.cells.1 _ Try.underlying3 rfl) ⟨hC, trivial, rfl⟩⟩) ?_
        simp only [Act.put, List.setIfInBounds_toArray, List.set_cons_succ, List.set_cons_zero, Nat.reduceAdd]
        refine Tn.spec_cons (fun Y hC hd => ⟨by rfl, Tn.gives_val _ Y (Mk.exec_fldM 56 1 (.tmp 6) rfl _ _ rfl (by kernel_rfl)) ⟨hC, trivial, rfl⟩⟩) ?_
        simp only [Act.put, List.setIfInBounds_toArray, List.set_cons_succ, List.set_cons_zero, Nat.reduceAdd]
        refine Tn.spec_cons (fun Y hC hd => ⟨by rfl, Tn.gives_val _ Y (Bp.exec_load1 3 (.tmp 22) rfl ⟨W.heap.size + 1, 1, none⟩ rfl _ hC.1.cells.2.1 _ Try.underlying3 rfl) ⟨hC, trivial, rfl⟩⟩) ?_
        simp only [Act.put, List.setIfInBounds_toArray, List.set_cons_succ, List.set_cons_zero, Nat.reduceAdd]
        refine Tn.spec_cons (fun Y hC hd => ⟨by rfl, Tn.gives_call _ _ (Mk.exec_call3M 63 (.tmp 19) (.tmp 21) (.tmp 23) _ _ _ _ rfl rfl rfl rfl (Tn.cf Try.func63 (by kernel_rfl) (by kernel_rfl) _ _)) ((HRc.out Y).mono fun e Y' ⟨e3, hb3⟩ => ⟨_, e3, ⟨hC.1.later hb3, hC.2.trans (hb3.mono hC.2.size)⟩, trivial, rfl⟩)⟩) ?_
        simp only [Act.put, List.setIfInBounds_toArray, List.set_cons_succ, List.set_cons_zero, Nat.reduceAdd]
        refine Tn.spec_cons (fun Y hC hd => ⟨by rfl, Tn.gives_val _ Y (exec_buildT (.tmp 18) (.tmp 24) rfl _ _ _ _ _ rfl rfl) ⟨hC, trivial, rfl⟩⟩) ?_
        simp only [Act.put, List.setIfInBounds_toArray, List.set_cons_succ, List.set_cons_zero, Nat.reduceAdd]
        exact Tn.spec_nil
      · intro Y hC hP
        simp only [List.take_succ_cons, List.take_zero, List.drop_succ_cons, List.drop_zero, Tn.putAll, Act.put, List.setIfInBounds_toArray, List.set_cons_succ, List.set_cons_zero, Nat.reduceAdd]
        simp only [List.getD_cons_succ, List.getD_cons_zero]
        have hJy : J (pre ++ segT s k i a y h) Y := HJ.out.below HJr.out hC.2
        obtain ⟨fn, tmps, assign, body, hy, hR⟩ := yieldAt_any (m := m - 1) (HY.out _ _ Y hJy HX.out)
        have hy : (Instr.yield l #[.agg #[.int .i64 (K : Int), .int .i64 (a : Int), .int .i64 (y : Int), .int .i64 (h : Int), .int .i64 0, .int .i64 (R : Int)]]).run Try.prog Y = .ok (.round l fn tmps assign body) Y := hy
        have HRr := Lib.hid hR
        have HD2 := Lib.hid hC.1
        have HK2 := Lib.hid (HKe.out.trans (KpS.of_below hC.2).e)
        have HSz2 : Hid (W.heap.size + 1 < Y.heap.size) := Lib.hid (Nat.lt_of_lt_of_le HSz.out hC.2.size)
        clear hR hC hP hJy c0 c1 z0
        gi_wp2
        refine ⟨fun h => by simp [Fence.wide] at h, ?_⟩
        refine HRr.out.mono ?_
        rintro e W7 (⟨rfl, hj, hk7⟩ | ⟨rfl, hj, hk7⟩)
        · have HD7 := Lib.hid (HD2.out.kept HN0.out hk7)
          have HJ7 := Lib.hid hj
          have HK7 := Lib.hid (HK2.out.trans hk7.e)
          have HSz7 : Hid (W.heap.size + 1 < W7.heap.size) := Lib.hid (Nat.lt_of_lt_of_le HSz2.out hk7.size)
          obtain ⟨c0, _, z0⟩ := HD7.out.cells
          have hw := HW1.out
          have hw2 := HW2.out
          clear hj hk7 hy HRr
          gi_wp2
          go_roundw
          case rel =>
            refine ⟨i + 1, HL.out, ?_, ?_, ?_, ?_⟩
            · rw [show k + (i + 1) = K + 1 by have := HKk.out; omega]
              exact HD7.out.turn (K + 1)
            · simp; exact HSz7.out
            · rw [HSg.out]
              exact HJ.out.cell HJ7.out (by have := HB0.out; omega) HD7.out.st
            · exact HK7.out.own (Nat.le_succ _) _
          case measure =>
            have hA : (W7.setCell ⟨W.heap.size + 1, 0, none⟩ (.int .i64 ((K : Int) + 1))).cell? ⟨W.heap.size + 1, 0, none⟩ = some (.int .i64 ((K : Int) + 1)) := (HD7.out.turn (K + 1)).cells.1
            have hB := HD.out.cells.1
            rw [hA, hB]
            have := HKk.out
            have := HL.out
            simp [intOf]
            omega
        · have HK7 := Lib.hid (HK2.out.trans hk7.e)
          have HJ7 := Lib.hid hj
          clear hj hk7 hy HRr
          gi_wp2
          go_ret
          exact ⟨false, rfl, HK7.out.s, Or.inr ⟨rfl, _, HJ7.out⟩⟩
    · obtain rfl : i = n := by omega
      have e1 : decide (K ≤ z) = false := by simp; omega
      have e2 : decide ((K : Int) ≤ (z : Int)) = false := by simp; omega
      clear hk hn hz hz2 hlt hi hK
      gi_wp2
      go_ret
      exact ⟨true, rfl, HKe.out.s, Or.inl ⟨rfl, HJr.out⟩⟩
end Go.Proofs.Ytdffbjjiojheoaa.St
