/- Steps: the walk of StepsNone. -/
import Derived.Test.YtdffbjjiojheoaaSo
import Derived.Test.YtdffbjjiojheoaaZd
namespace Go.Proofs.Ytdffbjjiojheoaa.St
set_option maxRecDepth 100000
open Go.ChangeShapes Go.WideShapes Go.ChangeAt Go.RowKit Go.Shelf Go.Proofs.Ytdffbjjiojheoaa.Tn Go.Proofs.Ytdffbjjiojheoaa.Wg
attribute [local go_sem] Oper.semAt_some
theorem made_is (w : World) (s0 s1 s2 s3 s4 s5 : Int) (sf : Option Addr) (nf cf : Nat) (fl : List Int) (hfl : fl.length = nf) (hN : Nums w sf cf fl) :
    Calls Try.prog 25 #[.agg #[.int .i64 s0, .int .i64 s1, .int .i64 s2, .int .i64 s3, .int .i64 s4, .int .i64 s5, .slice sf nf cf]] w fun e W' => Below w.heap.size w W' ∧ ∃ v ok, e = .returned (.tuple #[.agg (Wv.cells v), .bool ok]) ∧ (ok = true → ∃ m, m.chk = 0 ∧ WvOK W' v m ∧ Mk.Small m) := by
  refine (Mk.made_any w s0 s1 s2 s3 s4 s5 sf nf cf fl hfl hN).mono ?_
  rintro e W' ⟨hb, h | ⟨v, m, h, h1, h2⟩⟩
  · exact ⟨hb, ⟨⟨0, 0, 0, 0, 0, 0⟩, none, 0, 0, none, 0, 0, 0, 0, none, 0, 0, none, 0, 0, none, 0, 0, 0, 0, none, 0, 0⟩, false, h, fun h => by cases h⟩
  · exact ⟨hb, v, _, h, fun hk => ⟨m, by simpa using hk, h1, h2⟩⟩
theorem results_c1 {P : Program} {fn : Func} {p : Tmp} {ty : TypeId} (h : fn.results = #[.cell p ty]) (tmps : Array Value) (w : World) (a : Addr) (u : Value) (d : TypeDesc)
    (hp : tmps.getD p undef = .pointer (some a)) (hg : w.cell? a = some u) (hu : P.underlying ty = some d) (hd : (match d with | .struct _ | .array _ _ => false | _ => true) = true) : (results fn tmps).run P w = .ok u w := by
  have hp' : tmps[p]?.getD undef = .pointer (some a) := by simpa using hp
  simp [results, h, hp', asAddr, Bp.run_loadVar1 ty a u hg d hu hd]
/-- the boxes of the law: what fills the model, three numbers, what is answered -/
structure NnI (w : World) (sp tr : Array Value) (tt : TypeId) (x : Bool) (W : World) : Prop where
  below : Below w.heap.size w W
  sb : W.heap[w.heap.size]? = some (.cells sp 25 (0, 0))
  tb : W.heap[w.heap.size + 1]? = some (.cells tr tt (0, 0))
  rb : W.heap[w.heap.size + 1 + 1]? = some (.cells #[.bool x] 4 (0, 0))
theorem NnI.later {w W W' : World} {sp tr : Array Value} {tt : TypeId} {x : Bool} (h : NnI w sp tr tt x W) (hb : Below W.heap.size W W') : NnI w sp tr tt x W' :=
  ⟨h.below.trans (hb.mono h.below.size), (hb.block _ (Array.getElem?_eq_some_iff.1 h.sb).1).trans h.sb, (hb.block _ (Array.getElem?_eq_some_iff.1 h.tb).1).trans h.tb, (hb.block _ (Array.getElem?_eq_some_iff.1 h.rb).1).trans h.rb⟩
theorem NnI.put {w W : World} {sp tr : Array Value} {tt : TypeId} {x : Bool} (h : NnI w sp tr tt x W) (y : Bool) : Below w.heap.size w (W.setCell ⟨w.heap.size + 1 + 1, 0, none⟩ (.bool y)) ∧ (W.setCell ⟨w.heap.size + 1 + 1, 0, none⟩ (.bool y)).cell? ⟨w.heap.size + 1 + 1, 0, none⟩ = some (.bool y) := by
  refine ⟨h.below.trans (Below.ofGrown (Mk.grownM_set _ _ _ _) h.below.size (fun k hk => by cases hk; omega)), ?_⟩
  have hr : (W.setCell ⟨w.heap.size + 1 + 1, 0, none⟩ (.bool y)).heap[w.heap.size + 1 + 1]? = some (.cells (#[.bool x].setIfInBounds 0 (.bool y)) 4 (0, 0)) := heap_setCell_same _ _ _ _ _ _ h.rb
  rw [cell_of_row _ _ _ _ _ _ hr]; rfl
theorem NnI.cells {w W : World} {sp tr : Array Value} {tt : TypeId} {x : Bool} (h : NnI w sp tr tt x W) : W.cell? ⟨w.heap.size + 1 + 1, 0, none⟩ = some (.bool x) ∧ W.frozen? ⟨w.heap.size + 1 + 1, 0, none⟩ = false := ⟨by rw [cell_of_row _ _ _ _ _ _ h.rb]; rfl, frozen_of_row _ _ _ _ _ h.rb⟩
theorem NnI.made (w : World) (sp tr : Array Value) (tt : TypeId) : NnI w sp tr tt false (((w.alloc (.cells sp 25)).alloc (.cells tr tt)).alloc (.cells #[.bool false] 4)) := by
  obtain ⟨O1, hO1⟩ : ∃ O, (Obj.cells sp 25 (0, 0)) = O := ⟨_, rfl⟩
  obtain ⟨O2, hO2⟩ : ∃ O, (Obj.cells tr tt (0, 0)) = O := ⟨_, rfl⟩
  obtain ⟨O3, hO3⟩ : ∃ O, (Obj.cells #[.bool false] 4 (0, 0)) = O := ⟨_, rfl⟩
  rw [hO1, hO2, hO3]
  have e1 : (w.alloc O1).heap.size = w.heap.size + 1 := by simp
  have e2 : ((w.alloc O1).alloc O2).heap.size = w.heap.size + 1 + 1 := by simp
  refine ⟨(((Below.refl _ _).alloc (Nat.le_refl _) _).alloc (by simp) _).alloc (by simp; omega) _, ?_, ?_, ?_⟩
  · rw [hO1, heap_alloc_old _ _ (by omega), heap_alloc_old _ _ (by omega)]; exact heap_alloc_new _ _
  · rw [hO2, heap_alloc_old _ _ (by omega), ← e1]; exact heap_alloc_new _ _
  · rw [hO3, ← e2]; exact heap_alloc_new _ _
/-- the model's box holds its sizes first -/
theorem wv_cfg {W : World} {g : Nat} {v : Wv} (h : W.heap[g]? = some (.cells v.cells 38 (0, 0))) : W.rangeAt g 0 v.c.cells.toList := by
  intro i u hu
  rw [Nat.zero_add, cell_of_row _ _ _ _ _ _ h]
  rcases i with _ | _ | _ | _ | _ | _ | i
  all_goals first | exact hu | (simp [Cfg.cells] at hu)
theorem exec_cfgW {a : Act} {o : Oper} {W : World} (x : Operand) (ho : o.op = .load 31 x) (g : Nat) (hx : a.eval x = .pointer (some ⟨g, 0, none⟩)) (c : Cfg) (h : W.rangeAt g 0 c.cells.toList) : (execOp a.eval o).run Try.prog W = .ok (.value (.agg c.cells)) W := by
  unfold execOp
  simp only [ho, hx, Instr.loadAt, Instr.sureAddr, Sem.run_bind, Sem.run_pure, Result.andThen_ok, run_loadVar_mid W g 0 31 c.cells.toList _ h Try.underlying31 rfl (by kernel_rfl)]
theorem exec_arr3 {a : Act} {o : Oper} {W : World} (x : Operand) (i : Nat) (hi : i < 3) (ho : o.op = .indexAddr 68 x (.const (.int .i64 (i : Int)))) (c : Nat) (hx : a.eval x = .pointer (some ⟨c, 0, none⟩)) : (execOp a.eval o).run Try.prog W = .ok (.value (.pointer (some ⟨c, i, none⟩))) W := by
  have hadd := Tn.add_plain c 0 i
  rw [Nat.zero_add] at hadd
  cases hq : Try.prog.info? 3 with
  | none => have := size3; simp [hq] at this
  | some j =>
    have hj : j.size = 1 := by simpa [hq] using size3
    have hy : a.eval (.const (.int .i64 (i : Int))) = .int .i64 (i : Int) := rfl
    unfold execOp
    simp [ho, hx, hy, Instr.indexAt, Instr.sureAddr, asIntOf, run_underlying Try.underlying68, sizeOf, typeInfo, hq, hj, hi, hadd]
theorem run_buildP (W : World) (v d h l x i a b k : Int) : (Instr.build 40 #[(0, .agg #[.int .i64 v, .int .i64 d, .int .i64 h, .int .i64 l, .int .i64 x, .int .i64 i]), (1, .int .i64 a), (2, .int .i64 b), (3, .int .i64 k)]).run Try.prog W = .ok (.agg #[.int .i64 v, .int .i64 d, .int .i64 h, .int .i64 l, .int .i64 x, .int .i64 i, .int .i64 a, .int .i64 b, .int .i64 k]) W := by kernel_rfl
theorem exec_buildP {a : Act} {o : Oper} {W : World} (x y z u : Operand) (ho : o.op = .build 40 #[(0, x), (1, y), (2, z), (3, u)]) (c : Cfg) (p m k : Int) (hx : a.eval x = .agg c.cells) (hy : a.eval y = .int .i64 p) (hz : a.eval z = .int .i64 m) (hu : a.eval u = .int .i64 k) : (execOp a.eval o).run Try.prog W = .ok (.value (.agg (Pl.cells ⟨c, p, m, k⟩))) W := by
  have e : (#[((0 : Nat), x), (1, y), (2, z), (3, u)].map fun (i, x) => (i, a.eval x)) = #[(0, .agg #[.int .i64 c.v, .int .i64 c.d, .int .i64 c.h, .int .i64 c.l, .int .i64 c.x, .int .i64 c.i]), (1, .int .i64 p), (2, .int .i64 m), (3, .int .i64 k)] := by simp [hx, hy, hz, hu, Cfg.cells]
  unfold execOp
  simp only [ho, e, Sem.run_bind, run_buildP, Result.andThen_ok, Sem.run_pure]
  rfl
theorem exec_addM {a : Act} {o : Oper} {W : World} (x y : Operand) (ho : o.op = .binOp .add 3 x y 3) (u v z : Int) (hx : a.eval x = .int .i64 u) (hy : a.eval y = .int .i64 v) (h : IntKind.i64.wrap (u + v) = z) : (execOp a.eval o).run Try.prog W = .ok (.value (.int .i64 z)) W := by
  unfold execOp
  simp [ho, hx, hy, binOp, Op.intArith, h, eqGuard]
theorem all_pos {s : PlN} (hs : s.B) : 1 ≤ sumR (allT s s.t) := by
  have h1 := sumR_pre (allT_pre s 0 s.t (by have := hs.t; omega))
  rw [sumR_append] at h1
  have h2 : 1 ≤ sumR (plT s 0) := by
    unfold plT
    rw [sumR_append]
    have h3 : sumR (segT s 1 1 0 0 0) = 1 := by simp [segT, sumR, PlN.rows]
    omega
  omega
/-- blocks that stay -/
structure Sta (w : World) (rs : List (Nat × Obj)) (W : World) : Prop where
  below : Below w.heap.size w W
  row : ∀ g o, (g, o) ∈ rs → W.heap[g]? = some o
theorem Sta.later {w W W' : World} {rs : List (Nat × Obj)} (h : Sta w rs W) (hb : Below W.heap.size W W') : Sta w rs W' := ⟨h.below.trans (hb.mono h.below.size), fun g o hm => (hb.block _ (Array.getElem?_eq_some_iff.1 (h.row g o hm)).1).trans (h.row g o hm)⟩
theorem sta_own {α : Type} {B : Nat} {w : World} {rs : List (Nat × Obj)} (hB : w.heap.size ≤ B) (hg : ∀ g o, (g, o) ∈ rs → g < B) : OwnC B (fun (_ : α) W => Sta w rs W) := fun s X Y row hs hgr hr =>
  ⟨hs.below.trans (Below.ofGrown hgr hs.below.size (fun r e => Nat.le_trans hB (hr r e).1)), fun g o hm => (hgr.block g (Array.getElem?_eq_some_iff.1 (hs.row g o hm)).1 (fun e => by have := (hr g e.symm).1; have := hg g o hm; omega)).trans (hs.row g o hm)⟩
theorem exec_eqI {a : Act} {o : Oper} {W : World} (x y : Operand) (ho : o.op = .binOp .eql 3 x y 3) (u v : Int) (b : Bool) (hx : a.eval x = .int .i64 u) (hy : a.eval y = .int .i64 v) (h : decide (u = v) = b) : (execOp a.eval o).run Try.prog W = .ok (.value (.bool b)) W := by
  subst h
  unfold execOp
  simp [ho, hx, hy, binOp, Op.intCmp, eqGuard]
  rfl
theorem exec_buildZ {a : Act} {o : Oper} {W : World} (ho : o.op = .build 56 #[]) : (execOp a.eval o).run Try.prog W = .ok (.value (.agg #[.int .i64 0, .int .i64 0, .int .i64 0, .int .i64 0, .int .i64 0])) W := by
  unfold execOp
  simp only [ho]
  kernel_rfl
theorem exec_eqZ {a : Act} {o : Oper} {W : World} (x y : Operand) (ho : o.op = .binOp .eql 56 x y 56) (hx : a.eval x = .agg #[.int .i64 0, .int .i64 0, .int .i64 0, .int .i64 0, .int .i64 0]) (hy : a.eval y = .agg #[.int .i64 0, .int .i64 0, .int .i64 0, .int .i64 0, .int .i64 0]) : (execOp a.eval o).run Try.prog W = .ok (.value (.bool true)) W := by
  unfold execOp
  have hg : (eqGuard .eql 56 x y (.agg #[.int .i64 0, .int .i64 0, .int .i64 0, .int .i64 0, .int .i64 0]) (.agg #[.int .i64 0, .int .i64 0, .int .i64 0, .int .i64 0, .int .i64 0])).run Try.prog W = .ok () W := by
    unfold eqGuard
    split <;> kernel_rfl
  have hb : (binOp .eql 56 (.agg #[.int .i64 0, .int .i64 0, .int .i64 0, .int .i64 0, .int .i64 0]) (.agg #[.int .i64 0, .int .i64 0, .int .i64 0, .int .i64 0, .int .i64 0])).run Try.prog W = .ok (.bool true) W := by kernel_rfl
  simp only [ho, hx, hy, Sem.run_bind, hg, hb, Result.andThen_ok, Sem.run_pure]
theorem exec_lenV {a : Act} {o : Oper} {W : World} (x : Operand) (ho : o.op = .call { callee := .builtin .len, args := #[x], argTypes := #[71] }) (sp : Option Addr) (n cap : Nat) (hx : a.eval x = .slice sp n cap) : (execOp a.eval o).run Try.prog W = .ok (.value (.int .i64 n)) W := by
  unfold execOp
  simp only [ho, resolve, invoke, Sem.run_bind, Sem.run_pure, Result.andThen_ok, List.map_toArray, List.map_cons, List.map_nil, hx, BigFrame.builtin_len]
  simp [go_sem]
theorem exec_call0 {a : Act} {o : Oper} {W : World} (f : FuncId) (ats : Array TypeId) (ho : o.op = .call { callee := .value (.func f), args := #[], argTypes := ats }) (hf : (callFunc f #[]).run Try.prog W = .ok (.enter f #[]) W) : (execOp a.eval o).run Try.prog W = .ok (.enter f #[]) W := Tn.exec_call f #[] ats #[] ho (by simp) hf
theorem size_spec : (Try.prog.info? 25).map (·.size) = some 7 := by kernel_rfl
theorem wpListIn_load_midS {F : Fence} {n : Nat} {P : Program} {ops : Array Oper} {rest : List Oper} {o : Oper} {a : Act} {w : World} {Q : Exit → Act → World → Prop} (hgd : Region.wanted o (yielded ops a.tmps) = true) (ty : TypeId) (x : Operand) (ho : o.op = .load ty x)
    (b q : Nat) (hx : a.eval x = .pointer (some ⟨b, q, none⟩)) (cs : List Value) (d : TypeDesc) (hc : w.rangeAt b q cs) (hu : P.underlying ty = some d) (hd : d.isRow = true) (hi : (P.info? ty).map (·.size) = some cs.length)
    (h : wpListIn F n P ops Q rest (a.put o.dst (.agg cs.toArray)) w) : wpListIn F n P ops Q (o :: rest) a w := by
  refine wpListIn_step fun K hK => ?_
  rw [if_pos hgd]
  unfold Oper.wpIn
  refine ⟨by simp [Oper.about, ho], ?_⟩
  rw [Oper.semAt_plain F _ _ (by rw [ho]; intro c hc; cases hc)]
  unfold execOp
  simp only [ho, hx, Instr.loadAt, Instr.sureAddr, Sem.run_bind, Sem.run_pure, Result.andThen_ok, run_loadVar_mid w b q ty cs d hc hu hd hi]
  exact hK _ _ h
set_option maxHeartbeats 16000000 in
theorem none_in (w : World) (s0 s1 s2 s3 s4 s5 : Int) (sf : Option Addr) (nf cf : Nat) (fl : List Int) (hfl : fl.length = nf) (hN : Nums w sf cf fl) (a b k : Int) :
    CallsIn Fence.wide 8 Try.prog 4 #[.agg #[.int .i64 s0, .int .i64 s1, .int .i64 s2, .int .i64 s3, .int .i64 s4, .int .i64 s5, .slice sf nf cf], .agg #[.int .i64 a, .int .i64 b, .int .i64 k]] w fun e w' => e = .returned (.bool true) ∧ Below w.heap.size w w' := by
  have HMd := Lib.hid (fun (W : World) (hb : Below w.heap.size w W) => made_is W s0 s1 s2 s3 s4 s5 sf nf cf fl hfl (Sl.below hN (Nat.le_refl _) hb))
  have HAw := Lib.hid awake_any
  have HM := Lib.hid (NnI.made w #[.int .i64 s0, .int .i64 s1, .int .i64 s2, .int .i64 s3, .int .i64 s4, .int .i64 s5, .slice sf nf cf] #[.int .i64 a, .int .i64 b, .int .i64 k] 68)
  clear hfl hN
  refine callsIn_of_wp_marks Try.func4 rfl trivial ?_ rfl
  simp only [Try.ntmps4, List.size_toArray, List.length_cons, List.length_nil, Nat.reduceAdd, Nat.reduceSub, Array.replicate_succ, Array.replicate_zero, List.push_toArray, List.append_toArray, List.nil_append, List.cons_append]
  gi_upto_region 1 with fail
  refine Mk.genM (Q := fun w => Code.wpIn _ _ _ _ _ _ w) _ (NnI w #[.int .i64 s0, .int .i64 s1, .int .i64 s2, .int .i64 s3, .int .i64 s4, .int .i64 s5, .slice sf nf cf] #[.int .i64 a, .int .i64 b, .int .i64 k] 68 false) HM.out ?_
  clear HM
  intro w1 k1
  have HI1 := Lib.hid k1
  clear k1
  gi_upto_region 2 with (first
    | (refine wpListIn_load_row rfl 25 (.tmp 2) rfl w.heap.size rfl 25 _ (0, 0) _ HI1.out.sb Try.underlying25 rfl size_spec ?_)
    | (refine ⟨trivial, ?_⟩; refine (callsIn_wide.2 (HMd.out _ HI1.out.below)).mono ?_; rintro e w2 ⟨hb2, v, ok, rfl, hok⟩; have HI2 := Lib.hid (HI1.out.later hb2); have HOk := Lib.hid hok; clear hb2 hok)
    | (refine wpListIn_store_new rfl 38 (.tmp 5) (.tmp 17) rfl v.cells #[.int .i64 0, .int .i64 0, .int .i64 0, .int .i64 0, .int .i64 0, .int .i64 0, .slice none 0 0, .slice none 0 0, .int .i64 0, .int .i64 0, .slice none 0 0, .slice none 0 0, .slice none 0 0, .int .i64 0, .int .i64 0, .slice none 0 0] 38 rfl rfl rfl (Mk.size_wv v) rfl (Mk.wv_one v) ?_))
  have hal : Below w2.heap.size w2 (w2.alloc (.cells v.cells 38)) := (Below.refl _ _).alloc (Nat.le_refl _) _
  refine Mk.genM (Q := fun w => Code.wpIn _ _ _ _ _ _ w) _ (fun W => NnI w #[.int .i64 s0, .int .i64 s1, .int .i64 s2, .int .i64 s3, .int .i64 s4, .int .i64 s5, .slice sf nf cf] #[.int .i64 a, .int .i64 b, .int .i64 k] 68 false W ∧ W.heap[w2.heap.size]? = some (.cells v.cells 38 (0, 0)) ∧ Below w2.heap.size w2 W) ⟨HI2.out.later hal, heap_alloc_new _ _, hal⟩ ?_
  clear hal
  rintro w3 ⟨k1, k2, k3⟩
  have HI3 := Lib.hid k1
  have HW3 := Lib.hid k2
  obtain ⟨cr, zr⟩ := k1.cells
  clear k1 k2 HI1 HI2 HMd
  cases ok with
  | false =>
    clear HOk
    gi_wp2_with (refine ⟨trivial, ?_⟩; refine (callsIn_wide.2 (HAw.out _)).mono ?_; rintro e w4 ⟨rfl, hb4⟩; have HI4 := Lib.hid (HI3.out.later hb4); clear hb4 cr zr; obtain ⟨cr, zr⟩ := HI4.out.cells)
    obtain ⟨q1, q2⟩ := HI4.out.put true
    exact ⟨_, results_c1 Try.results4 _ _ ⟨w.heap.size + 1 + 1, 0, none⟩ (.bool true) _ rfl q2 Try.underlying4 rfl, rfl, q1⟩
  | true =>
    obtain ⟨m, hmc, hmv, hms⟩ := HOk.out rfl
    have hc0 : v.c.chk = 0 := by rw [hmv.c]; exact (headE_zero (by
      unfold Md.chk at hmc
      by_cases hh : m.headE = 0
      · exact hh
      · rw [if_pos hh] at hmc; exact hmc)).1
    have hX8 : 2 ≤ v.c.x ∧ v.c.x ≤ 8 := by rw [hmv.c]; exact hms.x
    have hV12 : 2 ≤ v.c.v ∧ v.c.v ≤ 12 := by rw [hmv.c]; exact hms.v
    have HC0 := Lib.hid hc0
    have hcfg := wv_cfg HW3.out
    clear HOk hmc hmv hms hc0 m
    obtain ⟨g5, hg5⟩ : ∃ g, w2.heap.size = g := ⟨_, rfl⟩
    rw [hg5] at hcfg HW3 ⊢
    clear hg5 k3
    obtain ⟨⟨V, D, H, L, X, I⟩, hvc⟩ : ∃ c, v.c = c := ⟨_, rfl⟩
    rw [hvc] at hcfg HC0 hX8 hV12
    dsimp only at hX8 hV12
    have HCf := Lib.hid hcfg
    clear hvc hcfg
    have t0 : w3.cell? ⟨w.heap.size + 1, 0, none⟩ = some (.int .i64 a) := by rw [cell_of_row _ _ _ _ _ _ HI3.out.tb]; rfl
    have t1 : w3.cell? ⟨w.heap.size + 1, 1, none⟩ = some (.int .i64 b) := by rw [cell_of_row _ _ _ _ _ _ HI3.out.tb]; rfl
    have t2 : w3.cell? ⟨w.heap.size + 1, 2, none⟩ = some (.int .i64 k) := by rw [cell_of_row _ _ _ _ _ _ HI3.out.tb]; rfl
    gi_upto_region 4 with fail
    refine wpIn_region_lit ?_
    refine wpListIn_vl (fun c h => by cases h) rfl rfl (.pointer (some ⟨g5, 0, none⟩)) (Mk.exec_fldM 38 0 (.tmp 5) rfl _ _ rfl (by kernel_rfl)) ?_
    simp only [Act.put, List.setIfInBounds_toArray, List.set_cons_succ, List.set_cons_zero]
    refine wpListIn_vl (fun c h => by cases h) rfl rfl (.agg (Cfg.cells ⟨V, D, H, L, X, I⟩)) (exec_cfgW (.tmp 22) rfl g5 rfl _ HCf.out) ?_
    simp only [Act.put, List.setIfInBounds_toArray, List.set_cons_succ, List.set_cons_zero]
    refine wpListIn_vl (fun c h => by cases h) rfl rfl (.pointer (some ⟨w.heap.size + 1, 0, none⟩)) (exec_arr3 (.tmp 3) 0 (by decide) rfl (w.heap.size + 1) rfl) ?_
    simp only [Act.put, List.setIfInBounds_toArray, List.set_cons_succ, List.set_cons_zero]
    refine wpListIn_vl (fun c h => by cases h) rfl rfl (.int .i64 a) (Bp.exec_load1 3 (.tmp 24) rfl _ rfl _ t0 _ Try.underlying3 rfl) ?_
    simp only [Act.put, List.setIfInBounds_toArray, List.set_cons_succ, List.set_cons_zero]
    refine wpListIn_vl (fun c h => by cases h) rfl rfl (.pointer (some ⟨w.heap.size + 1, 1, none⟩)) (exec_arr3 (.tmp 3) 1 (by decide) rfl (w.heap.size + 1) rfl) ?_
    simp only [Act.put, List.setIfInBounds_toArray, List.set_cons_succ, List.set_cons_zero]
    refine wpListIn_vl (fun c h => by cases h) rfl rfl (.int .i64 b) (Bp.exec_load1 3 (.tmp 26) rfl _ rfl _ t1 _ Try.underlying3 rfl) ?_
    simp only [Act.put, List.setIfInBounds_toArray, List.set_cons_succ, List.set_cons_zero]
    refine wpListIn_vl (fun c h => by cases h) rfl rfl (.pointer (some ⟨w.heap.size + 1, 2, none⟩)) (exec_arr3 (.tmp 3) 2 (by decide) rfl (w.heap.size + 1) rfl) ?_
    simp only [Act.put, List.setIfInBounds_toArray, List.set_cons_succ, List.set_cons_zero]
    refine wpListIn_vl (fun c h => by cases h) rfl rfl (.int .i64 k) (Bp.exec_load1 3 (.tmp 28) rfl _ rfl _ t2 _ Try.underlying3 rfl) ?_
    simp only [Act.put, List.setIfInBounds_toArray, List.set_cons_succ, List.set_cons_zero]
    refine wpListIn_vl (fun c h => by cases h) rfl rfl (.agg (Pl.cells ⟨⟨V, D, H, L, X, I⟩, a, b, k⟩)) (exec_buildP (.tmp 23) (.tmp 25) (.tmp 27) (.tmp 29) rfl ⟨V, D, H, L, X, I⟩ a b k rfl rfl rfl rfl) ?_
    simp only [Act.put, List.setIfInBounds_toArray, List.set_cons_succ, List.set_cons_zero]
    unfold Pl.cells
    dsimp only
    gi_upto_region 5 with (refine wpListIn_store_new rfl 40 (.tmp 7) (.tmp 30) rfl #[.int .i64 V, .int .i64 D, .int .i64 H, .int .i64 L, .int .i64 X, .int .i64 I, .int .i64 a, .int .i64 b, .int .i64 k] #[.int .i64 0, .int .i64 0, .int .i64 0, .int .i64 0, .int .i64 0, .int .i64 0, .int .i64 0, .int .i64 0, .int .i64 0] 40 rfl rfl rfl size_pl rfl rfl ?_)
    have hal : Below w3.heap.size w3 (w3.alloc (.cells #[.int .i64 V, .int .i64 D, .int .i64 H, .int .i64 L, .int .i64 X, .int .i64 I, .int .i64 a, .int .i64 b, .int .i64 k] 40)) := (Below.refl _ _).alloc (Nat.le_refl _) _
    refine Mk.genM (Q := fun w => Code.wpIn _ _ _ _ _ _ w) _ (fun W => NnI w #[.int .i64 s0, .int .i64 s1, .int .i64 s2, .int .i64 s3, .int .i64 s4, .int .i64 s5, .slice sf nf cf] #[.int .i64 a, .int .i64 b, .int .i64 k] 68 false W ∧ W.heap[g5]? = some (.cells v.cells 38 (0, 0)) ∧ W.heap[w3.heap.size]? = some (.cells (Pl.cells ⟨⟨V, D, H, L, X, I⟩, a, b, k⟩) 40 (0, 0)) ∧ W.rangeAt g5 0 (Cfg.cells ⟨V, D, H, L, X, I⟩).toList) ⟨HI3.out.later hal, (hal.block _ (Array.getElem?_eq_some_iff.1 HW3.out).1).trans HW3.out, heap_alloc_new _ _, fun i u hu => (hal.cell (block_lt_of_cell (HCf.out i u hu))).trans (HCf.out i u hu)⟩ ?_
    clear hal t0 t1 t2 cr zr
    rintro w4 ⟨k1, k2, k3, k4⟩
    obtain ⟨g7, hg7⟩ : ∃ g, w3.heap.size = g := ⟨_, rfl⟩
    rw [hg7] at k3 ⊢
    have HI4 := Lib.hid k1
    have HP4 := Lib.hid k3
    have t0 : w4.cell? ⟨w.heap.size + 1, 0, none⟩ = some (.int .i64 a) := by rw [cell_of_row _ _ _ _ _ _ k1.tb]; rfl
    have t1 : w4.cell? ⟨w.heap.size + 1, 1, none⟩ = some (.int .i64 b) := by rw [cell_of_row _ _ _ _ _ _ k1.tb]; rfl
    have t2 : w4.cell? ⟨w.heap.size + 1, 2, none⟩ = some (.int .i64 k) := by rw [cell_of_row _ _ _ _ _ _ k1.tb]; rfl
    have c4 : w4.cell? ⟨g5, 4, none⟩ = some (.int .i64 X) := by have := k4 4 _ rfl; rwa [Nat.zero_add] at this
    have c0 : w4.cell? ⟨g5, 0, none⟩ = some (.int .i64 V) := k4 0 _ rfl
    have hq := chk_want (c := ⟨V, D, H, L, X, I⟩) HC0.out a b k
    dsimp only at hq
    obtain ⟨q, hqq⟩ : ∃ q : Pl, (⟨⟨V, D, H, L, X, I⟩, a, b, k⟩ : Pl) = q := ⟨_, rfl⟩
    rw [hqq] at hq HP4
    have HQ := Lib.hid hq
    have HQ2 := Lib.hid hqq
    clear k1 k2 k3 k4 HI3 HW3 HCf hg7 w3 hq hqq
    gi_upto_region 6 with fail
    refine wpIn_region_lit ?_

    refine wpListIn_vl (fun c h => by cases h) rfl rfl (.pointer (some ⟨w.heap.size + 1, 0, none⟩)) (exec_arr3 (.tmp 3) 0 (by decide) rfl (w.heap.size + 1) rfl) ?_
    simp only [Act.put, List.setIfInBounds_toArray, List.set_cons_succ, List.set_cons_zero]
    refine wpListIn_vl (fun c h => by cases h) rfl rfl (.int .i64 a) (Bp.exec_load1 3 (.tmp 31) rfl _ rfl _ t0 _ Try.underlying3 rfl) ?_
    simp only [Act.put, List.setIfInBounds_toArray, List.set_cons_succ, List.set_cons_zero]
    obtain ⟨d33, hd33⟩ : ∃ x, decide (a < 1) = x := ⟨_, rfl⟩
    refine wpListIn_vl (fun c h => by cases h) rfl rfl (.bool d33) (Mk.exec_lssM (.tmp 32) (.const (.int .i64 1)) rfl _ _ _ rfl rfl hd33) ?_
    simp only [Act.put, List.setIfInBounds_toArray, List.set_cons_succ, List.set_cons_zero]
    refine wpListIn_vl (fun c h => by cases h) rfl rfl (.bool d33) (Mk.exec_movM (.tmp 33) rfl _ rfl) ?_
    simp only [Act.put, List.setIfInBounds_toArray, List.set_cons_succ, List.set_cons_zero]
    refine wpListIn_vlIf (fun c h => by cases h) rfl (!d33) (by cases d33 <;> rfl) (.pointer (some ⟨w.heap.size + 1, 1, none⟩)) (fun hb => exec_arr3 (.tmp 3) 1 (by decide) rfl (w.heap.size + 1) rfl) ?_
    intro u35 hu35 hz35
    simp only [Act.put, List.setIfInBounds_toArray, List.set_cons_succ, List.set_cons_zero]
    refine wpListIn_vlIf (fun c h => by cases h) rfl (!d33) (by cases d33 <;> rfl) (.int .i64 b) (fun hb => Bp.exec_load1 3 (.tmp 35) rfl _ (by exact hu35 hb) _ t1 _ Try.underlying3 rfl) ?_
    intro u36 hu36 hz36
    simp only [Act.put, List.setIfInBounds_toArray, List.set_cons_succ, List.set_cons_zero]
    obtain ⟨d37, hd37⟩ : ∃ x, decide (b < 1) = x := ⟨_, rfl⟩
    refine wpListIn_vlIf (fun c h => by cases h) rfl (!d33) (by cases d33 <;> rfl) (.bool d37) (fun hb => Mk.exec_lssM (.tmp 36) (.const (.int .i64 1)) rfl _ _ _ (by exact hu36 hb) rfl hd37) ?_
    intro u37 hu37 hz37
    simp only [Act.put, List.setIfInBounds_toArray, List.set_cons_succ, List.set_cons_zero]
    obtain ⟨e38, he38⟩ : ∃ x, (d33 || d37) = x := ⟨_, rfl⟩
    refine wpListIn_vl (fun c h => by cases h) rfl rfl (.bool e38) (he38 ▸ Mk.exec_orM (.tmp 34) (.const (.bool true)) (.tmp 37) rfl d33 d37 rfl rfl (fun hb0 => by exact hu37 (by simp [hb0]))) ?_
    simp only [Act.put, List.setIfInBounds_toArray, List.set_cons_succ, List.set_cons_zero]
    clear hu35 hz35 hu36 hz36 hu37 hz37
    cases e38 with
    | true =>
      have hE : q.chk = 13 := by rw [HQ.out]; unfold wantN; rw [if_pos]; rcases Bool.or_eq_true_iff.1 he38 with h | h; exact Or.inl (by rw [h] at hd33; simpa using hd33); exact Or.inr (by rw [h] at hd37; simpa using hd37)
      clear hd33 hd37 he38 t0 t1 t2 c4 c0
      have HS4 : Hid (Sta w [(w.heap.size + 1 + 1, .cells #[.bool false] 4 (0, 0)), (g7, .cells q.cells 40 (0, 0))] w4) := Lib.hid ⟨HI4.out.below, fun g o h => by simp only [List.mem_cons, List.not_mem_nil, or_false, Prod.mk.injEq] at h; rcases h with ⟨rfl, rfl⟩ | ⟨rfl, rfl⟩; exact HI4.out.rb; exact HP4.out⟩
      have hne : q.chk ≠ 0 := by rw [hE]; decide
      have HCk := Lib.hid (fun W => pchk_any W q)
      rw [hE] at HCk
      have HSp := Lib.hid (fun W => Steps_any W q)
      have HBg := Lib.hid (fun W => Begin_no W q hne none 0 0)
      rw [hE] at HBg
      have HSt := Lib.hid (fun W => Step_any W q [] (Or.inl ⟨hne, rfl⟩) 0 (by omega))
      have HMn := Lib.hid (fun W => many_any W q [] (Or.inl ⟨hne, rfl⟩))
      have HCl := Lib.hid (fun W => Cells_no W q hne)
      have HPc := Lib.hid (fun W => Places_no W q hne)
      have HSz := Lib.hid (fun W => Size_no W q hne 0)
      have HNe := Lib.hid hne
      clear hE hne HI4 HP4 HQ HQ2 HC0 hX8 hV12
      gi_upto_region 16 with (first
        | (refine wpListIn_load_row rfl 40 (.tmp 7) rfl g7 rfl 40 q.cells (0, 0) _ (HS4.out.row _ _ (by simp)) Try.underlying40 rfl size_pl ?_)
        | (refine ⟨trivial, ?_⟩; refine (callsIn_wide.2 (HCk.out _)).mono ?_; rintro e w5 ⟨rfl, hb5⟩; have HS5 := Lib.hid (HS4.out.later hb5); clear hb5))
      gi_upto_region 17 with (first
        | (refine wpListIn_load_row rfl 40 (.tmp 7) rfl g7 rfl 40 q.cells (0, 0) _ (HS5.out.row _ _ (by simp)) Try.underlying40 rfl size_pl ?_)
        | (refine ⟨trivial, ?_⟩; refine (callsIn_wide.2 (HSp.out _)).mono ?_; rintro e w6 ⟨rfl, rfl⟩))
      have hal : Below w5.heap.size w5 (w5.alloc (.cells q.cells 40)) := (Below.refl _ _).alloc (Nat.le_refl _) _
      have HS6 := Lib.hid (HS5.out.later hal)
      have HBc := Lib.hid (heap_alloc_new w5 (.cells q.cells 40))
      have hg7 : g7 < w5.heap.size := (Array.getElem?_eq_some_iff.1 (HS5.out.row g7 (.cells q.cells 40 (0, 0)) (by simp))).1
      have hr7 : w.heap.size + 1 + 1 < w5.heap.size := (Array.getElem?_eq_some_iff.1 (HS5.out.row (w.heap.size + 1 + 1) (.cells #[.bool false] 4 (0, 0)) (by simp))).1
      obtain ⟨bc, hbc⟩ : ∃ bc, w5.heap.size = bc := ⟨_, rfl⟩
      obtain ⟨W0, hW0⟩ : ∃ W0, w5.alloc (.cells q.cells 40) = W0 := ⟨_, rfl⟩
      rw [hW0] at HS6 HBc hal ⊢
      have hsz := hal.size
      rw [hbc] at HBc hg7 hr7 hsz ⊢
      have HL7 := Lib.hid (Nat.lt_of_lt_of_le hg7 hsz)
      have HLr := Lib.hid (Nat.lt_of_lt_of_le hr7 hsz)
      have hnil : (binOp .eql 50 (.func (.func 34) #[] #[.pointer (some ⟨bc, 0, none⟩)]) Value.nilFunc).run Try.prog W0 = .ok (.bool false) W0 := by kernel_rfl
      clear hal hW0 hbc hg7 hr7 hsz HS5
      gi_wp2
      refine wpIn_rangeFunc_tellsC (α := Unit) rfl (by omega) (gf := 34) (lb := #[.pointer (some ⟨bc, 0, none⟩)]) rfl trivial (enters_of Try.func34 (by kernel_rfl) rfl)
        (encs := fun _ => #[undef]) (Kp := KpS 0 0) (G := fun _ _ _ => False) (S := fun ys => ys = []) (Sp := fun _ => True) (w0 := W0)
        (fun l J Jx W hW hJ hJx hY h0 => steps1_no 7 l q HNe.out J Jx W.heap.size bc hJ (by omega) W (Nat.le_refl _) ((hW.block _ (Array.getElem?_eq_some_iff.1 HBc.out).1).trans HBc.out) h0)
        KpS.trans (fun W l o o' h1 h2 h3 h4 => KpS.put W l o o' h2 h3) (Below.refl _ _) (fun _ => rfl)
        (fun _ W => Sta w [(w.heap.size + 1 + 1, .cells #[.bool false] 4 (0, 0)), (g7, .cells q.cells 40 (0, 0))] W) (fun _ _ _ => False) (sta_own HS6.out.below.size (by intro g o h; simp only [List.mem_cons, List.not_mem_nil, or_false, Prod.mk.injEq] at h; rcases h with ⟨rfl, _⟩ | ⟨rfl, _⟩; exact HLr.out; exact HL7.out)) (fun _ => ownC_false)
        HS6.out (fun _ _ _ _ => False) (fun _ _ _ => ownC_false) ?assign ?body ?done ?stop
      case assign =>
        rintro l pre x W K hI hG hK
        exact hG.elim
      case body =>
        rintro l pre x a' W hl _ hI h
        exact h.elim
      case stop =>
        rintro D2 c pre W hD _ h
        exact h.elim
      case done =>
        rintro D2 ys W hD rfl hI hK
        have HS7 : Hid (Sta w [(w.heap.size + 1 + 1, .cells #[.bool false] 4 (0, 0)), (g7, .cells q.cells 40 (0, 0)), (D2, .deferred (some []))] W) := Lib.hid ⟨hI.below, fun g o h => by simp only [List.mem_cons, List.not_mem_nil, or_false, Prod.mk.injEq] at h; rcases h with ⟨rfl, rfl⟩ | ⟨rfl, rfl⟩ | ⟨rfl, rfl⟩; exact hI.row _ _ (by simp); exact hI.row _ _ (by simp); exact hK⟩
        have HDr : Hid (w.heap.size + 1 + 1 < D2) := Lib.hid (Nat.lt_of_lt_of_le HLr.out hD)
        clear hI hK hD hnil HBc HS6 HL7 HLr
        gi_upto_region 22 with (first
          | (refine wpListIn_load_row rfl 40 (.tmp 7) rfl g7 rfl 40 q.cells (0, 0) _ (HS7.out.row _ _ (by simp)) Try.underlying40 rfl size_pl ?_)
          | (refine ⟨trivial, ?_⟩; refine (callsIn_wide.2 (HSt.out _)).mono ?_; rintro e w7 ⟨rfl, hb7⟩; have HS8 := Lib.hid (HS7.out.later hb7); clear hb7; have hsv : stepV [] 0 = .tuple #[.agg #[.int .i64 0, .int .i64 0, .int .i64 0, .int .i64 0, .int .i64 0], .int .i64 10] := rfl; rw [hsv]; clear hsv)
          | (refine wpListIn_store_new rfl 56 (.tmp 10) (.tmp 96) rfl #[.int .i64 0, .int .i64 0, .int .i64 0, .int .i64 0, .int .i64 0] #[.int .i64 0, .int .i64 0, .int .i64 0, .int .i64 0, .int .i64 0] 56 rfl rfl rfl size_stp rfl (stp_one 0 0 0 0 0) ?_))
        have hal : Below w7.heap.size w7 (w7.alloc (.cells #[.int .i64 0, .int .i64 0, .int .i64 0, .int .i64 0, .int .i64 0] 56)) := (Below.refl _ _).alloc (Nat.le_refl _) _
        have HS9 : Hid (Sta w [(w.heap.size + 1 + 1, .cells #[.bool false] 4 (0, 0)), (g7, .cells q.cells 40 (0, 0)), (D2, .deferred (some [])), (w7.heap.size, .cells #[.int .i64 0, .int .i64 0, .int .i64 0, .int .i64 0, .int .i64 0] 56 (0, 0))] (w7.alloc (.cells #[.int .i64 0, .int .i64 0, .int .i64 0, .int .i64 0, .int .i64 0] 56))) := Lib.hid ⟨(HS8.out.later hal).below, fun g o h => by simp only [List.mem_cons, List.not_mem_nil, or_false, Prod.mk.injEq] at h; rcases h with ⟨rfl, rfl⟩ | ⟨rfl, rfl⟩ | ⟨rfl, rfl⟩ | ⟨rfl, rfl⟩; exact (HS8.out.later hal).row _ _ (by simp); exact (HS8.out.later hal).row _ _ (by simp); exact (HS8.out.later hal).row _ _ (by simp); exact heap_alloc_new _ _⟩
        obtain ⟨g10, hg10⟩ : ∃ g, w7.heap.size = g := ⟨_, rfl⟩
        obtain ⟨w8, hw8⟩ : ∃ w8, w7.alloc (.cells #[.int .i64 0, .int .i64 0, .int .i64 0, .int .i64 0, .int .i64 0] 56) = w8 := ⟨_, rfl⟩
        rw [hw8, hg10] at HS9
        rw [hw8, hg10]
        clear hal hw8 hg10 HS7 HS8
        gi_upto_region 23 with (first
          | (refine wpListIn_load_row rfl 40 (.tmp 7) rfl g7 rfl 40 q.cells (0, 0) _ (HS9.out.row _ _ (by simp)) Try.underlying40 rfl size_pl ?_)
          | (refine ⟨trivial, ?_⟩; refine (callsIn_wide.2 (HBg.out _)).mono ?_; rintro e w9 ⟨rfl, hb9⟩; have HSa := Lib.hid (HS9.out.later hb9); clear hb9 HS9))
        obtain ⟨UL, hUL⟩ : ∃ UL : List Value, ([.agg q.cells, .int .i64 0, .agg q.cells, .int .i64 0, .int .i64 0, .agg q.cells, .int .i64 0, .int .i64 0, .agg q.cells, .int .i64 0, .int .i64 0, .bool true, .bool true, .agg #[.int .i64 0, .int .i64 0, .int .i64 0, .int .i64 0, .int .i64 0], .agg #[.int .i64 0, .int .i64 0, .int .i64 0, .int .i64 0, .int .i64 0], .bool true, .bool true, .bool true, .int .i64 10, .bool true, .bool true, .bool true, .slice none 0 0, .int .i64 0, .bool true, .bool true, .bool true, .int .i64 13, .int .i64 13, .bool true, .bool true, .bool true, .bool true, .bool true] : List Value) = UL := ⟨_, rfl⟩
        have y0 : UL.getD 0 undef = .agg q.cells := by rw [← hUL]; rfl
        have y1 : UL.getD 1 undef = .int .i64 0 := by rw [← hUL]; rfl
        have y2 : UL.getD 2 undef = .agg q.cells := by rw [← hUL]; rfl
        have y3 : UL.getD 3 undef = .int .i64 0 := by rw [← hUL]; rfl
        have y4 : UL.getD 4 undef = .int .i64 0 := by rw [← hUL]; rfl
        have y5 : UL.getD 5 undef = .agg q.cells := by rw [← hUL]; rfl
        have y6 : UL.getD 6 undef = .int .i64 0 := by rw [← hUL]; rfl
        have y7 : UL.getD 7 undef = .int .i64 0 := by rw [← hUL]; rfl
        have y8 : UL.getD 8 undef = .agg q.cells := by rw [← hUL]; rfl
        have y9 : UL.getD 9 undef = .int .i64 0 := by rw [← hUL]; rfl
        have y10 : UL.getD 10 undef = .int .i64 0 := by rw [← hUL]; rfl
        have y11 : UL.getD 11 undef = .bool true := by rw [← hUL]; rfl
        have y12 : UL.getD 12 undef = .bool true := by rw [← hUL]; rfl
        have y13 : UL.getD 13 undef = .agg #[.int .i64 0, .int .i64 0, .int .i64 0, .int .i64 0, .int .i64 0] := by rw [← hUL]; rfl
        have y14 : UL.getD 14 undef = .agg #[.int .i64 0, .int .i64 0, .int .i64 0, .int .i64 0, .int .i64 0] := by rw [← hUL]; rfl
        have y15 : UL.getD 15 undef = .bool true := by rw [← hUL]; rfl
        have y16 : UL.getD 16 undef = .bool true := by rw [← hUL]; rfl
        have y17 : UL.getD 17 undef = .bool true := by rw [← hUL]; rfl
        have y18 : UL.getD 18 undef = .int .i64 10 := by rw [← hUL]; rfl
        have y19 : UL.getD 19 undef = .bool true := by rw [← hUL]; rfl
        have y20 : UL.getD 20 undef = .bool true := by rw [← hUL]; rfl
        have y21 : UL.getD 21 undef = .bool true := by rw [← hUL]; rfl
        have y22 : UL.getD 22 undef = .slice none 0 0 := by rw [← hUL]; rfl
        have y23 : UL.getD 23 undef = .int .i64 0 := by rw [← hUL]; rfl
        have y24 : UL.getD 24 undef = .bool true := by rw [← hUL]; rfl
        have y25 : UL.getD 25 undef = .bool true := by rw [← hUL]; rfl
        have y26 : UL.getD 26 undef = .bool true := by rw [← hUL]; rfl
        have y27 : UL.getD 27 undef = .int .i64 13 := by rw [← hUL]; rfl
        have y28 : UL.getD 28 undef = .int .i64 13 := by rw [← hUL]; rfl
        have y29 : UL.getD 29 undef = .bool true := by rw [← hUL]; rfl
        have y30 : UL.getD 30 undef = .bool true := by rw [← hUL]; rfl
        have y31 : UL.getD 31 undef = .bool true := by rw [← hUL]; rfl
        have y32 : UL.getD 32 undef = .bool true := by rw [← hUL]; rfl
        have y33 : UL.getD 33 undef = .bool true := by rw [← hUL]; rfl
        clear hUL
        refine wpIn_region_specW (C := fun Y => Sta w [(w.heap.size + 1 + 1, .cells #[.bool false] 4 (0, 0)), (g7, .cells q.cells 40 (0, 0)), (D2, .deferred (some [])), (g10, .cells #[.int .i64 0, .int .i64 0, .int .i64 0, .int .i64 0, .int .i64 0] 56 (0, 0))] Y) (Le := fun _ _ => True) 34 (fun j _ v => v = UL.getD j undef) (by kernel_rfl) (by kernel_rfl) (by kernel_rfl) (HSa.out.later ⟨rfl, rfl, rfl, Nat.le_refl _, fun _ _ => rfl⟩) (fun _ _ _ _ _ h => h) (fun j => UL.getD j undef) (fun _ _ _ h => h) ?_ ?_
        · simp only [List.take_succ_cons, List.take_zero]
          refine Tn.spec_cons (fun Y hC hd => ⟨by rfl, Tn.gives_val (.agg q.cells) Y (exec_pl (.tmp 7) rfl g7 rfl q (hC.row _ _ (by simp))) ⟨hC, trivial, y0.symm⟩⟩) ?_
          simp only [Act.put, List.setIfInBounds_toArray, List.set_cons_succ, List.set_cons_zero, Nat.reduceAdd]
          rw [y0]
          refine Tn.spec_cons (fun Y hC hd => ⟨by rfl, Tn.gives_call _ _ (Tn.exec_call1 12 (.tmp 103) _ _ rfl rfl (Tn.cf Try.func12 (by kernel_rfl) (by kernel_rfl) _ _)) ((HMn.out Y).mono fun e Y' ⟨e3, hb3⟩ => ⟨_, e3, hC.later hb3, trivial, y1.symm⟩)⟩) ?_
          simp only [Act.put, List.setIfInBounds_toArray, List.set_cons_succ, List.set_cons_zero, Nat.reduceAdd]
          rw [y1]
          refine Tn.spec_cons (fun Y hC hd => ⟨by rfl, Tn.gives_val (.agg q.cells) Y (exec_pl (.tmp 7) rfl g7 rfl q (hC.row _ _ (by simp))) ⟨hC, trivial, y2.symm⟩⟩) ?_
          simp only [Act.put, List.setIfInBounds_toArray, List.set_cons_succ, List.set_cons_zero, Nat.reduceAdd]
          rw [y2]
          refine Tn.spec_cons (fun Y hC hd => ⟨by rfl, Tn.gives_call _ _ (Tn.exec_call1 15 (.tmp 105) _ _ rfl rfl (Tn.cf Try.func15 (by kernel_rfl) (by kernel_rfl) _ _)) ((HCl.out Y).mono fun e Y' ⟨e3, hb3⟩ => ⟨_, e3, hC.later hb3, trivial, y3.symm⟩)⟩) ?_
          simp only [Act.put, List.setIfInBounds_toArray, List.set_cons_succ, List.set_cons_zero, Nat.reduceAdd]
          rw [y3]
          refine Tn.spec_cons (fun Y hC hd => ⟨by rfl, Tn.gives_val (.int .i64 0) Y (exec_addM (.tmp 104) (.tmp 106) rfl 0 0 0 rfl rfl (by decide)) ⟨hC, trivial, y4.symm⟩⟩) ?_
          simp only [Act.put, List.setIfInBounds_toArray, List.set_cons_succ, List.set_cons_zero, Nat.reduceAdd]
          rw [y4]
          refine Tn.spec_cons (fun Y hC hd => ⟨by rfl, Tn.gives_val (.agg q.cells) Y (exec_pl (.tmp 7) rfl g7 rfl q (hC.row _ _ (by simp))) ⟨hC, trivial, y5.symm⟩⟩) ?_
          simp only [Act.put, List.setIfInBounds_toArray, List.set_cons_succ, List.set_cons_zero, Nat.reduceAdd]
          rw [y5]
          refine Tn.spec_cons (fun Y hC hd => ⟨by rfl, Tn.gives_call _ _ (Tn.exec_call1 13 (.tmp 108) _ _ rfl rfl (Tn.cf Try.func13 (by kernel_rfl) (by kernel_rfl) _ _)) ((HPc.out Y).mono fun e Y' ⟨e3, hb3⟩ => ⟨_, e3, hC.later hb3, trivial, y6.symm⟩)⟩) ?_
          simp only [Act.put, List.setIfInBounds_toArray, List.set_cons_succ, List.set_cons_zero, Nat.reduceAdd]
          rw [y6]
          refine Tn.spec_cons (fun Y hC hd => ⟨by rfl, Tn.gives_val (.int .i64 0) Y (exec_addM (.tmp 107) (.tmp 109) rfl 0 0 0 rfl rfl (by decide)) ⟨hC, trivial, y7.symm⟩⟩) ?_
          simp only [Act.put, List.setIfInBounds_toArray, List.set_cons_succ, List.set_cons_zero, Nat.reduceAdd]
          rw [y7]
          refine Tn.spec_cons (fun Y hC hd => ⟨by rfl, Tn.gives_val (.agg q.cells) Y (exec_pl (.tmp 7) rfl g7 rfl q (hC.row _ _ (by simp))) ⟨hC, trivial, y8.symm⟩⟩) ?_
          simp only [Act.put, List.setIfInBounds_toArray, List.set_cons_succ, List.set_cons_zero, Nat.reduceAdd]
          rw [y8]
          refine Tn.spec_cons (fun Y hC hd => ⟨by rfl, Tn.gives_call _ _ (Mk.exec_call2M 22 (.tmp 111) (.const (.int .i64 0)) _ _ _ rfl rfl rfl (Tn.cf Try.func22 (by kernel_rfl) (by kernel_rfl) _ _)) ((HSz.out Y).mono fun e Y' ⟨e3, hb3⟩ => ⟨_, e3, hC.later hb3, trivial, y9.symm⟩)⟩) ?_
          simp only [Act.put, List.setIfInBounds_toArray, List.set_cons_succ, List.set_cons_zero, Nat.reduceAdd]
          rw [y9]
          refine Tn.spec_cons (fun Y hC hd => ⟨by rfl, Tn.gives_val (.int .i64 0) Y (exec_addM (.tmp 110) (.tmp 112) rfl 0 0 0 rfl rfl (by decide)) ⟨hC, trivial, y10.symm⟩⟩) ?_
          simp only [Act.put, List.setIfInBounds_toArray, List.set_cons_succ, List.set_cons_zero, Nat.reduceAdd]
          rw [y10]
          refine Tn.spec_cons (fun Y hC hd => ⟨by rfl, Tn.gives_val (.bool true) Y (exec_eqI (.tmp 113) (.const (.int .i64 0)) rfl 0 0 true rfl rfl (by decide)) ⟨hC, trivial, y11.symm⟩⟩) ?_
          simp only [Act.put, List.setIfInBounds_toArray, List.set_cons_succ, List.set_cons_zero, Nat.reduceAdd]
          rw [y11]
          refine Tn.spec_cons (fun Y hC hd => ⟨by rfl, Tn.gives_val (.bool true) Y (by rfl) ⟨hC, trivial, y12.symm⟩⟩) ?_
          simp only [Act.put, List.setIfInBounds_toArray, List.set_cons_succ, List.set_cons_zero, Nat.reduceAdd]
          rw [y12]
          refine Tn.spec_cons (fun Y hC hd => ⟨by rfl, Tn.gives_val (.agg #[.int .i64 0, .int .i64 0, .int .i64 0, .int .i64 0, .int .i64 0]) Y (exec_stp (.tmp 10) rfl g10 rfl _ _ _ _ _ (hC.row _ _ (by simp))) ⟨hC, trivial, y13.symm⟩⟩) ?_
          simp only [Act.put, List.setIfInBounds_toArray, List.set_cons_succ, List.set_cons_zero, Nat.reduceAdd]
          rw [y13]
          refine Tn.spec_cons (fun Y hC hd => ⟨by rfl, Tn.gives_val (.agg #[.int .i64 0, .int .i64 0, .int .i64 0, .int .i64 0, .int .i64 0]) Y (exec_buildZ rfl) ⟨hC, trivial, y14.symm⟩⟩) ?_
          simp only [Act.put, List.setIfInBounds_toArray, List.set_cons_succ, List.set_cons_zero, Nat.reduceAdd]
          rw [y14]
          refine Tn.spec_cons (fun Y hC hd => ⟨by rfl, Tn.gives_val (.bool true) Y (exec_eqZ (.tmp 116) (.tmp 117) rfl rfl rfl) ⟨hC, trivial, y15.symm⟩⟩) ?_
          simp only [Act.put, List.setIfInBounds_toArray, List.set_cons_succ, List.set_cons_zero, Nat.reduceAdd]
          rw [y15]
          refine Tn.spec_cons (fun Y hC hd => ⟨by rfl, Tn.gives_val (.bool true) Y (by rfl) ⟨hC, trivial, y16.symm⟩⟩) ?_
          simp only [Act.put, List.setIfInBounds_toArray, List.set_cons_succ, List.set_cons_zero, Nat.reduceAdd]
          rw [y16]
          refine Tn.spec_cons (fun Y hC hd => ⟨by rfl, Tn.gives_val (.bool true) Y (by rfl) ⟨hC, trivial, y17.symm⟩⟩) ?_
          simp only [Act.put, List.setIfInBounds_toArray, List.set_cons_succ, List.set_cons_zero, Nat.reduceAdd]
          rw [y17]
          refine Tn.spec_cons (fun Y hC hd => ⟨by rfl, Tn.gives_val (.int .i64 10) Y (by rfl) ⟨hC, trivial, y18.symm⟩⟩) ?_
          simp only [Act.put, List.setIfInBounds_toArray, List.set_cons_succ, List.set_cons_zero, Nat.reduceAdd]
          rw [y18]
          refine Tn.spec_cons (fun Y hC hd => ⟨by rfl, Tn.gives_val (.bool true) Y (Mk.exec_eqE (.tmp 121) (.const (.int .i64 10)) rfl 10 10 true rfl rfl (by decide)) ⟨hC, trivial, y19.symm⟩⟩) ?_
          simp only [Act.put, List.setIfInBounds_toArray, List.set_cons_succ, List.set_cons_zero, Nat.reduceAdd]
          rw [y19]
          refine Tn.spec_cons (fun Y hC hd => ⟨by rfl, Tn.gives_val (.bool true) Y (by rfl) ⟨hC, trivial, y20.symm⟩⟩) ?_
          simp only [Act.put, List.setIfInBounds_toArray, List.set_cons_succ, List.set_cons_zero, Nat.reduceAdd]
          rw [y20]
          refine Tn.spec_cons (fun Y hC hd => ⟨by rfl, Tn.gives_val (.bool true) Y (by rfl) ⟨hC, trivial, y21.symm⟩⟩) ?_
          simp only [Act.put, List.setIfInBounds_toArray, List.set_cons_succ, List.set_cons_zero, Nat.reduceAdd]
          rw [y21]
          refine Tn.spec_cons (fun Y hC hd => ⟨by rfl, Tn.gives_val (.slice none 0 0) Y (by rfl) ⟨hC, trivial, y22.symm⟩⟩) ?_
          simp only [Act.put, List.setIfInBounds_toArray, List.set_cons_succ, List.set_cons_zero, Nat.reduceAdd]
          rw [y22]
          refine Tn.spec_cons (fun Y hC hd => ⟨by rfl, Tn.gives_val (.int .i64 0) Y (exec_lenV (.tmp 125) rfl none 0 0 rfl) ⟨hC, trivial, y23.symm⟩⟩) ?_
          simp only [Act.put, List.setIfInBounds_toArray, List.set_cons_succ, List.set_cons_zero, Nat.reduceAdd]
          rw [y23]
          refine Tn.spec_cons (fun Y hC hd => ⟨by rfl, Tn.gives_val (.bool true) Y (exec_eqI (.tmp 126) (.const (.int .i64 0)) rfl 0 0 true rfl rfl (by decide)) ⟨hC, trivial, y24.symm⟩⟩) ?_
          simp only [Act.put, List.setIfInBounds_toArray, List.set_cons_succ, List.set_cons_zero, Nat.reduceAdd]
          rw [y24]
          refine Tn.spec_cons (fun Y hC hd => ⟨by rfl, Tn.gives_val (.bool true) Y (by rfl) ⟨hC, trivial, y25.symm⟩⟩) ?_
          simp only [Act.put, List.setIfInBounds_toArray, List.set_cons_succ, List.set_cons_zero, Nat.reduceAdd]
          rw [y25]
          refine Tn.spec_cons (fun Y hC hd => ⟨by rfl, Tn.gives_val (.bool true) Y (by rfl) ⟨hC, trivial, y26.symm⟩⟩) ?_
          simp only [Act.put, List.setIfInBounds_toArray, List.set_cons_succ, List.set_cons_zero, Nat.reduceAdd]
          rw [y26]
          refine Tn.spec_cons (fun Y hC hd => ⟨by rfl, Tn.gives_val (.int .i64 13) Y (by rfl) ⟨hC, trivial, y27.symm⟩⟩) ?_
          simp only [Act.put, List.setIfInBounds_toArray, List.set_cons_succ, List.set_cons_zero, Nat.reduceAdd]
          rw [y27]
          refine Tn.spec_cons (fun Y hC hd => ⟨by rfl, Tn.gives_val (.int .i64 13) Y (by rfl) ⟨hC, trivial, y28.symm⟩⟩) ?_
          simp only [Act.put, List.setIfInBounds_toArray, List.set_cons_succ, List.set_cons_zero, Nat.reduceAdd]
          rw [y28]
          refine Tn.spec_cons (fun Y hC hd => ⟨by rfl, Tn.gives_val (.bool true) Y (Mk.exec_eqE (.tmp 130) (.tmp 131) rfl 13 13 true rfl rfl (by decide)) ⟨hC, trivial, y29.symm⟩⟩) ?_
          simp only [Act.put, List.setIfInBounds_toArray, List.set_cons_succ, List.set_cons_zero, Nat.reduceAdd]
          rw [y29]
          refine Tn.spec_cons (fun Y hC hd => ⟨by rfl, Tn.gives_val (.bool true) Y (by rfl) ⟨hC, trivial, y30.symm⟩⟩) ?_
          simp only [Act.put, List.setIfInBounds_toArray, List.set_cons_succ, List.set_cons_zero, Nat.reduceAdd]
          rw [y30]
          refine Tn.spec_cons (fun Y hC hd => ⟨by rfl, Tn.gives_val (.bool true) Y (by rfl) ⟨hC, trivial, y31.symm⟩⟩) ?_
          simp only [Act.put, List.setIfInBounds_toArray, List.set_cons_succ, List.set_cons_zero, Nat.reduceAdd]
          rw [y31]
          refine Tn.spec_cons (fun Y hC hd => ⟨by rfl, Tn.gives_call _ _ (exec_call0 7 _ rfl (Tn.cf Try.func7 (by kernel_rfl) (by kernel_rfl) _ _)) ((HAw.out Y).mono fun e Y' ⟨e3, hb3⟩ => ⟨_, e3, hC.later hb3, trivial, y32.symm⟩)⟩) ?_
          simp only [Act.put, List.setIfInBounds_toArray, List.set_cons_succ, List.set_cons_zero, Nat.reduceAdd]
          rw [y32]
          refine Tn.spec_cons (fun Y hC hd => ⟨by rfl, Tn.gives_val (.bool true) Y (by rfl) ⟨hC, trivial, y33.symm⟩⟩) ?_
          simp only [Act.put, List.setIfInBounds_toArray, List.set_cons_succ, List.set_cons_zero, Nat.reduceAdd]
          rw [y33]
          exact Tn.spec_nil
        · intro Y hC hP
          simp only [List.take_succ_cons, List.take_zero, List.drop_succ_cons, List.drop_zero, Tn.putAll, Act.put, List.setIfInBounds_toArray, List.set_cons_succ, List.set_cons_zero, Nat.reduceAdd]
          rw [y0, y1, y2, y3, y4, y5, y6, y7, y8, y9, y10, y11, y12, y13, y14, y15, y16, y17, y18, y19, y20, y21, y22, y23, y24, y25, y26, y27, y28, y29, y30, y31, y32, y33]
          clear y0 y1 y2 y3 y4 y5 y6 y7 y8 y9 y10 y11 y12 y13 y14 y15 y16 y17 y18 y19 y20 y21 y22 y23 y24 y25 y26 y27 y28 y29 y30 y31 y32 y33
          have HSb := Lib.hid hC
          have hrb := hC.row _ _ (List.mem_cons_self ..)
          have cr : Y.cell? ⟨w.heap.size + 1 + 1, 0, none⟩ = some (.bool false) := by rw [cell_of_row _ _ _ _ _ _ hrb]; rfl
          have zr : Y.frozen? ⟨w.heap.size + 1 + 1, 0, none⟩ = false := frozen_of_row _ _ _ _ _ hrb
          clear hC hP hrb
          gi_wp2
          have hK2 : (Y.setCell ⟨w.heap.size + 1 + 1, 0, none⟩ (.bool true)).heap[D2]? = some (.deferred (some [])) := (heap_setCell_other _ _ _ _ (by simp; have := HDr.out; omega)).trans (HSb.out.row _ _ (by simp))
          refine ⟨by simp, .inl ⟨_, _, rfl, run_takeDeferred hK2, ?_⟩⟩
          refine ⟨_, results_c1 Try.results4 _ _ ⟨w.heap.size + 1 + 1, 0, none⟩ (.bool true) _ rfl ?_ Try.underlying4 rfl, rfl, ?_⟩
          · refine (World.cell?_of_block (w := Y.setCell ⟨w.heap.size + 1 + 1, 0, none⟩ (.bool true)) (World.putObj_heap_other (by have := HDr.out; simp; omega))).trans ?_
            have hr : (Y.setCell ⟨w.heap.size + 1 + 1, 0, none⟩ (.bool true)).heap[w.heap.size + 1 + 1]? = some (.cells ((#[.bool false] : Array Value).setIfInBounds 0 (.bool true)) 4 (0, 0)) := heap_setCell_same _ _ _ _ _ _ (HSb.out.row _ _ (List.mem_cons_self ..))
            rw [cell_of_row _ _ _ _ _ _ hr]; rfl
          · exact (HSb.out.below.trans (Below.ofGrown (Mk.grownM_set _ _ _ _) HSb.out.below.size (fun k hk => by cases hk; omega))).trans (belowK_b (w := w) (Nat.le_refl _) _ D2 _ _ (by have := HDr.out; omega) hK2 rfl rfl)
    | false =>
      have ha1 : ¬ (a < 1 ∨ b < 1) := by simp only [Bool.or_eq_false_iff] at he38; rw [he38.1] at hd33; rw [he38.2] at hd37; simp at hd33 hd37; omega
      clear hd33 hd37 he38
      gi_upto_region 8 with fail
      refine wpIn_region_lit ?_
      refine wpListIn_vl (fun c h => by cases h) rfl rfl (.pointer (some ⟨w.heap.size + 1, 0, none⟩)) (exec_arr3 (.tmp 3) 0 (by decide) rfl (w.heap.size + 1) rfl) ?_
      simp only [Act.put, List.setIfInBounds_toArray, List.set_cons_succ, List.set_cons_zero]
      refine wpListIn_vl (fun c h => by cases h) rfl rfl (.int .i64 a) (Bp.exec_load1 3 (.tmp 39) rfl _ rfl _ t0 _ Try.underlying3 rfl) ?_
      simp only [Act.put, List.setIfInBounds_toArray, List.set_cons_succ, List.set_cons_zero]
      refine wpListIn_vl (fun c h => by cases h) rfl rfl (.pointer (some ⟨g5, 0, none⟩)) (Mk.exec_fldM 38 0 (.tmp 5) rfl _ _ rfl (by kernel_rfl)) ?_
      simp only [Act.put, List.setIfInBounds_toArray, List.set_cons_succ, List.set_cons_zero]
      refine wpListIn_vl (fun c h => by cases h) rfl rfl (.pointer (some ⟨g5, 4, none⟩)) (Mk.exec_fldM 31 4 (.tmp 41) rfl _ _ rfl (by kernel_rfl)) ?_
      simp only [Act.put, List.setIfInBounds_toArray, List.set_cons_succ, List.set_cons_zero]
      refine wpListIn_vl (fun c h => by cases h) rfl rfl (.int .i64 X) (Bp.exec_load1 3 (.tmp 42) rfl _ rfl _ c4 _ Try.underlying3 rfl) ?_
      simp only [Act.put, List.setIfInBounds_toArray, List.set_cons_succ, List.set_cons_zero]
      obtain ⟨d44, hd44⟩ : ∃ x, decide (X < a) = x := ⟨_, rfl⟩
      refine wpListIn_vl (fun c h => by cases h) rfl rfl (.bool d44) (Mk.exec_gtrM (.tmp 40) (.tmp 43) rfl _ _ _ rfl rfl hd44) ?_
      simp only [Act.put, List.setIfInBounds_toArray, List.set_cons_succ, List.set_cons_zero]
      refine wpListIn_vl (fun c h => by cases h) rfl rfl (.bool d44) (Mk.exec_movM (.tmp 44) rfl _ rfl) ?_
      simp only [Act.put, List.setIfInBounds_toArray, List.set_cons_succ, List.set_cons_zero]
      refine wpListIn_vlIf (fun c h => by cases h) rfl (!d44) (by cases d44 <;> rfl) (.pointer (some ⟨w.heap.size + 1, 1, none⟩)) (fun hb => exec_arr3 (.tmp 3) 1 (by decide) rfl (w.heap.size + 1) rfl) ?_
      intro u46 hu46 hz46
      simp only [Act.put, List.setIfInBounds_toArray, List.set_cons_succ, List.set_cons_zero]
      refine wpListIn_vlIf (fun c h => by cases h) rfl (!d44) (by cases d44 <;> rfl) (.int .i64 b) (fun hb => Bp.exec_load1 3 (.tmp 46) rfl _ (by exact hu46 hb) _ t1 _ Try.underlying3 rfl) ?_
      intro u47 hu47 hz47
      simp only [Act.put, List.setIfInBounds_toArray, List.set_cons_succ, List.set_cons_zero]
      refine wpListIn_vlIf (fun c h => by cases h) rfl (!d44) (by cases d44 <;> rfl) (.pointer (some ⟨g5, 0, none⟩)) (fun hb => Mk.exec_fldM 38 0 (.tmp 5) rfl _ _ rfl (by kernel_rfl)) ?_
      intro u48 hu48 hz48
      simp only [Act.put, List.setIfInBounds_toArray, List.set_cons_succ, List.set_cons_zero]
      refine wpListIn_vlIf (fun c h => by cases h) rfl (!d44) (by cases d44 <;> rfl) (.pointer (some ⟨g5, 4, none⟩)) (fun hb => Mk.exec_fldM 31 4 (.tmp 48) rfl _ _ (by exact hu48 hb) (by kernel_rfl)) ?_
      intro u49 hu49 hz49
      simp only [Act.put, List.setIfInBounds_toArray, List.set_cons_succ, List.set_cons_zero]
      refine wpListIn_vlIf (fun c h => by cases h) rfl (!d44) (by cases d44 <;> rfl) (.int .i64 X) (fun hb => Bp.exec_load1 3 (.tmp 49) rfl _ (by exact hu49 hb) _ c4 _ Try.underlying3 rfl) ?_
      intro u50 hu50 hz50
      simp only [Act.put, List.setIfInBounds_toArray, List.set_cons_succ, List.set_cons_zero]
      obtain ⟨d51, hd51⟩ : ∃ x, decide (X < b) = x := ⟨_, rfl⟩
      refine wpListIn_vlIf (fun c h => by cases h) rfl (!d44) (by cases d44 <;> rfl) (.bool d51) (fun hb => Mk.exec_gtrM (.tmp 47) (.tmp 50) rfl _ _ _ (by exact hu47 hb) (by exact hu50 hb) hd51) ?_
      intro u51 hu51 hz51
      simp only [Act.put, List.setIfInBounds_toArray, List.set_cons_succ, List.set_cons_zero]
      obtain ⟨e52, he52⟩ : ∃ x, (d44 || d51) = x := ⟨_, rfl⟩
      refine wpListIn_vl (fun c h => by cases h) rfl rfl (.bool e52) (he52 ▸ Mk.exec_orM (.tmp 45) (.const (.bool true)) (.tmp 51) rfl d44 d51 rfl rfl (fun hb0 => by exact hu51 (by simp [hb0]))) ?_
      simp only [Act.put, List.setIfInBounds_toArray, List.set_cons_succ, List.set_cons_zero]
      refine wpListIn_vl (fun c h => by cases h) rfl rfl (.bool e52) (Mk.exec_movM (.tmp 52) rfl _ rfl) ?_
      simp only [Act.put, List.setIfInBounds_toArray, List.set_cons_succ, List.set_cons_zero]
      have hadd : (!e52) = true → IntKind.i64.wrap (a + b) = a + b := fun hb => by have h1 : e52 = false := (by simpa using hb); rw [h1] at he52; simp only [Bool.or_eq_false_iff] at he52; rw [he52.1] at hd44; rw [he52.2] at hd51; simp at hd44 hd51; exact IntWalk.i64_in _ (by omega)
      refine wpListIn_vlIf (fun c h => by cases h) rfl (!e52) (by cases e52 <;> rfl) (.pointer (some ⟨w.heap.size + 1, 0, none⟩)) (fun hb => exec_arr3 (.tmp 3) 0 (by decide) rfl (w.heap.size + 1) rfl) ?_
      intro u54 hu54 hz54
      simp only [Act.put, List.setIfInBounds_toArray, List.set_cons_succ, List.set_cons_zero]
      refine wpListIn_vlIf (fun c h => by cases h) rfl (!e52) (by cases e52 <;> rfl) (.int .i64 a) (fun hb => Bp.exec_load1 3 (.tmp 54) rfl _ (by exact hu54 hb) _ t0 _ Try.underlying3 rfl) ?_
      intro u55 hu55 hz55
      simp only [Act.put, List.setIfInBounds_toArray, List.set_cons_succ, List.set_cons_zero]
      refine wpListIn_vlIf (fun c h => by cases h) rfl (!e52) (by cases e52 <;> rfl) (.pointer (some ⟨w.heap.size + 1, 1, none⟩)) (fun hb => exec_arr3 (.tmp 3) 1 (by decide) rfl (w.heap.size + 1) rfl) ?_
      intro u56 hu56 hz56
      simp only [Act.put, List.setIfInBounds_toArray, List.set_cons_succ, List.set_cons_zero]
      refine wpListIn_vlIf (fun c h => by cases h) rfl (!e52) (by cases e52 <;> rfl) (.int .i64 b) (fun hb => Bp.exec_load1 3 (.tmp 56) rfl _ (by exact hu56 hb) _ t1 _ Try.underlying3 rfl) ?_
      intro u57 hu57 hz57
      simp only [Act.put, List.setIfInBounds_toArray, List.set_cons_succ, List.set_cons_zero]
      refine wpListIn_vlIf (fun c h => by cases h) rfl (!e52) (by cases e52 <;> rfl) (.int .i64 (a + b)) (fun hb => exec_addM (.tmp 55) (.tmp 57) rfl _ _ _ (by exact hu55 hb) (by exact hu57 hb) (hadd hb)) ?_
      intro u58 hu58 hz58
      simp only [Act.put, List.setIfInBounds_toArray, List.set_cons_succ, List.set_cons_zero]
      refine wpListIn_vlIf (fun c h => by cases h) rfl (!e52) (by cases e52 <;> rfl) (.pointer (some ⟨g5, 0, none⟩)) (fun hb => Mk.exec_fldM 38 0 (.tmp 5) rfl _ _ rfl (by kernel_rfl)) ?_
      intro u59 hu59 hz59
      simp only [Act.put, List.setIfInBounds_toArray, List.set_cons_succ, List.set_cons_zero]
      refine wpListIn_vlIf (fun c h => by cases h) rfl (!e52) (by cases e52 <;> rfl) (.pointer (some ⟨g5, 4, none⟩)) (fun hb => Mk.exec_fldM 31 4 (.tmp 59) rfl _ _ (by exact hu59 hb) (by kernel_rfl)) ?_
      intro u60 hu60 hz60
      simp only [Act.put, List.setIfInBounds_toArray, List.set_cons_succ, List.set_cons_zero]
      refine wpListIn_vlIf (fun c h => by cases h) rfl (!e52) (by cases e52 <;> rfl) (.int .i64 X) (fun hb => Bp.exec_load1 3 (.tmp 60) rfl _ (by exact hu60 hb) _ c4 _ Try.underlying3 rfl) ?_
      intro u61 hu61 hz61
      simp only [Act.put, List.setIfInBounds_toArray, List.set_cons_succ, List.set_cons_zero]
      obtain ⟨d62, hd62⟩ : ∃ x, decide (X < a + b) = x := ⟨_, rfl⟩
      refine wpListIn_vlIf (fun c h => by cases h) rfl (!e52) (by cases e52 <;> rfl) (.bool d62) (fun hb => Mk.exec_gtrM (.tmp 58) (.tmp 61) rfl _ _ _ (by exact hu58 hb) (by exact hu61 hb) hd62) ?_
      intro u62 hu62 hz62
      simp only [Act.put, List.setIfInBounds_toArray, List.set_cons_succ, List.set_cons_zero]
      obtain ⟨e63, he63⟩ : ∃ x, (e52 || d62) = x := ⟨_, rfl⟩
      refine wpListIn_vl (fun c h => by cases h) rfl rfl (.bool e63) (he63 ▸ Mk.exec_orM (.tmp 53) (.const (.bool true)) (.tmp 62) rfl e52 d62 rfl rfl (fun hb0 => by exact hu62 (by simp [hb0]))) ?_
      simp only [Act.put, List.setIfInBounds_toArray, List.set_cons_succ, List.set_cons_zero]
      clear hadd hu46 hz46 hu47 hz47 hu48 hz48 hu49 hz49 hu50 hz50 hu51 hz51 hu54 hz54 hu55 hz55 hu56 hz56 hu57 hz57 hu58 hz58 hu59 hz59 hu60 hz60 hu61 hz61 hu62 hz62
      subst he52
      cases e63 with
      | true =>
        have hE : q.chk = 20 := by rw [HQ.out]; unfold wantN; rw [if_neg ha1, if_pos]; simp only [Bool.or_eq_true_iff] at he63; rcases he63 with (h | h) | h; exact Or.inl (by rw [h] at hd44; simpa using hd44); exact Or.inr (Or.inl (by rw [h] at hd51; simpa using hd51)); exact Or.inr (Or.inr (by rw [h] at hd62; simpa using hd62))
        clear hd44 hd51 hd62 he63 t0 t1 t2 c4 c0 ha1
        have HS4 : Hid (Sta w [(w.heap.size + 1 + 1, .cells #[.bool false] 4 (0, 0)), (g7, .cells q.cells 40 (0, 0))] w4) := Lib.hid ⟨HI4.out.below, fun g o h => by simp only [List.mem_cons, List.not_mem_nil, or_false, Prod.mk.injEq] at h; rcases h with ⟨rfl, rfl⟩ | ⟨rfl, rfl⟩; exact HI4.out.rb; exact HP4.out⟩
        have hne : q.chk ≠ 0 := by rw [hE]; decide
        have HCk := Lib.hid (fun W => pchk_any W q)
        rw [hE] at HCk
        have HSp := Lib.hid (fun W => Steps_any W q)
        have HBg := Lib.hid (fun W => Begin_no W q hne none 0 0)
        rw [hE] at HBg
        have HSt := Lib.hid (fun W => Step_any W q [] (Or.inl ⟨hne, rfl⟩) 0 (by omega))
        have HMn := Lib.hid (fun W => many_any W q [] (Or.inl ⟨hne, rfl⟩))
        have HCl := Lib.hid (fun W => Cells_no W q hne)
        have HPc := Lib.hid (fun W => Places_no W q hne)
        have HSz := Lib.hid (fun W => Size_no W q hne 0)
        have HNe := Lib.hid hne
        clear hE hne HI4 HP4 HQ HQ2 HC0 hX8 hV12
        gi_upto_region 16 with (first
          | (refine wpListIn_load_row rfl 40 (.tmp 7) rfl g7 rfl 40 q.cells (0, 0) _ (HS4.out.row _ _ (by simp)) Try.underlying40 rfl size_pl ?_)
          | (refine ⟨trivial, ?_⟩; refine (callsIn_wide.2 (HCk.out _)).mono ?_; rintro e w5 ⟨rfl, hb5⟩; have HS5 := Lib.hid (HS4.out.later hb5); clear hb5))
        gi_upto_region 17 with (first
          | (refine wpListIn_load_row rfl 40 (.tmp 7) rfl g7 rfl 40 q.cells (0, 0) _ (HS5.out.row _ _ (by simp)) Try.underlying40 rfl size_pl ?_)
          | (refine ⟨trivial, ?_⟩; refine (callsIn_wide.2 (HSp.out _)).mono ?_; rintro e w6 ⟨rfl, rfl⟩))
        have hal : Below w5.heap.size w5 (w5.alloc (.cells q.cells 40)) := (Below.refl _ _).alloc (Nat.le_refl _) _
        have HS6 := Lib.hid (HS5.out.later hal)
        have HBc := Lib.hid (heap_alloc_new w5 (.cells q.cells 40))
        have hg7 : g7 < w5.heap.size := (Array.getElem?_eq_some_iff.1 (HS5.out.row g7 (.cells q.cells 40 (0, 0)) (by simp))).1
        have hr7 : w.heap.size + 1 + 1 < w5.heap.size := (Array.getElem?_eq_some_iff.1 (HS5.out.row (w.heap.size + 1 + 1) (.cells #[.bool false] 4 (0, 0)) (by simp))).1
        obtain ⟨bc, hbc⟩ : ∃ bc, w5.heap.size = bc := ⟨_, rfl⟩
        obtain ⟨W0, hW0⟩ : ∃ W0, w5.alloc (.cells q.cells 40) = W0 := ⟨_, rfl⟩
        rw [hW0] at HS6 HBc hal ⊢
        have hsz := hal.size
        rw [hbc] at HBc hg7 hr7 hsz ⊢
        have HL7 := Lib.hid (Nat.lt_of_lt_of_le hg7 hsz)
        have HLr := Lib.hid (Nat.lt_of_lt_of_le hr7 hsz)
        have hnil : (binOp .eql 50 (.func (.func 34) #[] #[.pointer (some ⟨bc, 0, none⟩)]) Value.nilFunc).run Try.prog W0 = .ok (.bool false) W0 := by kernel_rfl
        clear hal hW0 hbc hg7 hr7 hsz HS5
        gi_wp2
        refine wpIn_rangeFunc_tellsC (α := Unit) rfl (by omega) (gf := 34) (lb := #[.pointer (some ⟨bc, 0, none⟩)]) rfl trivial (enters_of Try.func34 (by kernel_rfl) rfl)
          (encs := fun _ => #[undef]) (Kp := KpS 0 0) (G := fun _ _ _ => False) (S := fun ys => ys = []) (Sp := fun _ => True) (w0 := W0)
          (fun l J Jx W hW hJ hJx hY h0 => steps1_no 7 l q HNe.out J Jx W.heap.size bc hJ (by omega) W (Nat.le_refl _) ((hW.block _ (Array.getElem?_eq_some_iff.1 HBc.out).1).trans HBc.out) h0)
          KpS.trans (fun W l o o' h1 h2 h3 h4 => KpS.put W l o o' h2 h3) (Below.refl _ _) (fun _ => rfl)
          (fun _ W => Sta w [(w.heap.size + 1 + 1, .cells #[.bool false] 4 (0, 0)), (g7, .cells q.cells 40 (0, 0))] W) (fun _ _ _ => False) (sta_own HS6.out.below.size (by intro g o h; simp only [List.mem_cons, List.not_mem_nil, or_false, Prod.mk.injEq] at h; rcases h with ⟨rfl, _⟩ | ⟨rfl, _⟩; exact HLr.out; exact HL7.out)) (fun _ => ownC_false)
          HS6.out (fun _ _ _ _ => False) (fun _ _ _ => ownC_false) ?assign ?body ?done ?stop
        case assign =>
          rintro l pre x W K hI hG hK
          exact hG.elim
        case body =>
          rintro l pre x a' W hl _ hI h
          exact h.elim
        case stop =>
          rintro D2 c pre W hD _ h
          exact h.elim
        case done =>
          rintro D2 ys W hD rfl hI hK
          have HS7 : Hid (Sta w [(w.heap.size + 1 + 1, .cells #[.bool false] 4 (0, 0)), (g7, .cells q.cells 40 (0, 0)), (D2, .deferred (some []))] W) := Lib.hid ⟨hI.below, fun g o h => by simp only [List.mem_cons, List.not_mem_nil, or_false, Prod.mk.injEq] at h; rcases h with ⟨rfl, rfl⟩ | ⟨rfl, rfl⟩ | ⟨rfl, rfl⟩; exact hI.row _ _ (by simp); exact hI.row _ _ (by simp); exact hK⟩
          have HDr : Hid (w.heap.size + 1 + 1 < D2) := Lib.hid (Nat.lt_of_lt_of_le HLr.out hD)
          clear hI hK hD hnil HBc HS6 HL7 HLr
          gi_upto_region 22 with (first
            | (refine wpListIn_load_row rfl 40 (.tmp 7) rfl g7 rfl 40 q.cells (0, 0) _ (HS7.out.row _ _ (by simp)) Try.underlying40 rfl size_pl ?_)
            | (refine ⟨trivial, ?_⟩; refine (callsIn_wide.2 (HSt.out _)).mono ?_; rintro e w7 ⟨rfl, hb7⟩; have HS8 := Lib.hid (HS7.out.later hb7); clear hb7; have hsv : stepV [] 0 = .tuple #[.agg #[.int .i64 0, .int .i64 0, .int .i64 0, .int .i64 0, .int .i64 0], .int .i64 10] := rfl; rw [hsv]; clear hsv)
            | (refine wpListIn_store_new rfl 56 (.tmp 10) (.tmp 96) rfl #[.int .i64 0, .int .i64 0, .int .i64 0, .int .i64 0, .int .i64 0] #[.int .i64 0, .int .i64 0, .int .i64 0, .int .i64 0, .int .i64 0] 56 rfl rfl rfl size_stp rfl (stp_one 0 0 0 0 0) ?_))
          have hal : Below w7.heap.size w7 (w7.alloc (.cells #[.int .i64 0, .int .i64 0, .int .i64 0, .int .i64 0, .int .i64 0] 56)) := (Below.refl _ _).alloc (Nat.le_refl _) _
          have HS9 : Hid (Sta w [(w.heap.size + 1 + 1, .cells #[.bool false] 4 (0, 0)), (g7, .cells q.cells 40 (0, 0)), (D2, .deferred (some [])), (w7.heap.size, .cells #[.int .i64 0, .int .i64 0, .int .i64 0, .int .i64 0, .int .i64 0] 56 (0, 0))] (w7.alloc (.cells #[.int .i64 0, .int .i64 0, .int .i64 0, .int .i64 0, .int .i64 0] 56))) := Lib.hid ⟨(HS8.out.later hal).below, fun g o h => by simp only [List.mem_cons, List.not_mem_nil, or_false, Prod.mk.injEq] at h; rcases h with ⟨rfl, rfl⟩ | ⟨rfl, rfl⟩ | ⟨rfl, rfl⟩ | ⟨rfl, rfl⟩; exact (HS8.out.later hal).row _ _ (by simp); exact (HS8.out.later hal).row _ _ (by simp); exact (HS8.out.later hal).row _ _ (by simp); exact heap_alloc_new _ _⟩
          obtain ⟨g10, hg10⟩ : ∃ g, w7.heap.size = g := ⟨_, rfl⟩
          obtain ⟨w8, hw8⟩ : ∃ w8, w7.alloc (.cells #[.int .i64 0, .int .i64 0, .int .i64 0, .int .i64 0, .int .i64 0] 56) = w8 := ⟨_, rfl⟩
          rw [hw8, hg10] at HS9
          rw [hw8, hg10]
          clear hal hw8 hg10 HS7 HS8
          gi_upto_region 23 with (first
            | (refine wpListIn_load_row rfl 40 (.tmp 7) rfl g7 rfl 40 q.cells (0, 0) _ (HS9.out.row _ _ (by simp)) Try.underlying40 rfl size_pl ?_)
            | (refine ⟨trivial, ?_⟩; refine (callsIn_wide.2 (HBg.out _)).mono ?_; rintro e w9 ⟨rfl, hb9⟩; have HSa := Lib.hid (HS9.out.later hb9); clear hb9 HS9))
          obtain ⟨UL, hUL⟩ : ∃ UL : List Value, ([.agg q.cells, .int .i64 0, .agg q.cells, .int .i64 0, .int .i64 0, .agg q.cells, .int .i64 0, .int .i64 0, .agg q.cells, .int .i64 0, .int .i64 0, .bool true, .bool true, .agg #[.int .i64 0, .int .i64 0, .int .i64 0, .int .i64 0, .int .i64 0], .agg #[.int .i64 0, .int .i64 0, .int .i64 0, .int .i64 0, .int .i64 0], .bool true, .bool true, .bool true, .int .i64 10, .bool true, .bool true, .bool true, .slice none 0 0, .int .i64 0, .bool true, .bool true, .bool true, .int .i64 20, .int .i64 20, .bool true, .bool true, .bool true, .bool true, .bool true] : List Value) = UL := ⟨_, rfl⟩
          have y0 : UL.getD 0 undef = .agg q.cells := by rw [← hUL]; rfl
          have y1 : UL.getD 1 undef = .int .i64 0 := by rw [← hUL]; rfl
          have y2 : UL.getD 2 undef = .agg q.cells := by rw [← hUL]; rfl
          have y3 : UL.getD 3 undef = .int .i64 0 := by rw [← hUL]; rfl
          have y4 : UL.getD 4 undef = .int .i64 0 := by rw [← hUL]; rfl
          have y5 : UL.getD 5 undef = .agg q.cells := by rw [← hUL]; rfl
          have y6 : UL.getD 6 undef = .int .i64 0 := by rw [← hUL]; rfl
          have y7 : UL.getD 7 undef = .int .i64 0 := by rw [← hUL]; rfl
          have y8 : UL.getD 8 undef = .agg q.cells := by rw [← hUL]; rfl
          have y9 : UL.getD 9 undef = .int .i64 0 := by rw [← hUL]; rfl
          have y10 : UL.getD 10 undef = .int .i64 0 := by rw [← hUL]; rfl
          have y11 : UL.getD 11 undef = .bool true := by rw [← hUL]; rfl
          have y12 : UL.getD 12 undef = .bool true := by rw [← hUL]; rfl
          have y13 : UL.getD 13 undef = .agg #[.int .i64 0, .int .i64 0, .int .i64 0, .int .i64 0, .int .i64 0] := by rw [← hUL]; rfl
          have y14 : UL.getD 14 undef = .agg #[.int .i64 0, .int .i64 0, .int .i64 0, .int .i64 0, .int .i64 0] := by rw [← hUL]; rfl
          have y15 : UL.getD 15 undef = .bool true := by rw [← hUL]; rfl
          have y16 : UL.getD 16 undef = .bool true := by rw [← hUL]; rfl
          have y17 : UL.getD 17 undef = .bool true := by rw [← hUL]; rfl
          have y18 : UL.getD 18 undef = .int .i64 10 := by rw [← hUL]; rfl
          have y19 : UL.getD 19 undef = .bool true := by rw [← hUL]; rfl
          have y20 : UL.getD 20 undef = .bool true := by rw [← hUL]; rfl
          have y21 : UL.getD 21 undef = .bool true := by rw [← hUL]; rfl
          have y22 : UL.getD 22 undef = .slice none 0 0 := by rw [← hUL]; rfl
          have y23 : UL.getD 23 undef = .int .i64 0 := by rw [← hUL]; rfl
          have y24 : UL.getD 24 undef = .bool true := by rw [← hUL]; rfl
          have y25 : UL.getD 25 undef = .bool true := by rw [← hUL]; rfl
          have y26 : UL.getD 26 undef = .bool true := by rw [← hUL]; rfl
          have y27 : UL.getD 27 undef = .int .i64 20 := by rw [← hUL]; rfl
          have y28 : UL.getD 28 undef = .int .i64 20 := by rw [← hUL]; rfl
          have y29 : UL.getD 29 undef = .bool true := by rw [← hUL]; rfl
          have y30 : UL.getD 30 undef = .bool true := by rw [← hUL]; rfl
          have y31 : UL.getD 31 undef = .bool true := by rw [← hUL]; rfl
          have y32 : UL.getD 32 undef = .bool true := by rw [← hUL]; rfl
          have y33 : UL.getD 33 undef = .bool true := by rw [← hUL]; rfl
          clear hUL
          refine wpIn_region_specW (C := fun Y => Sta w [(w.heap.size + 1 + 1, .cells #[.bool false] 4 (0, 0)), (g7, .cells q.cells 40 (0, 0)), (D2, .deferred (some [])), (g10, .cells #[.int .i64 0, .int .i64 0, .int .i64 0, .int .i64 0, .int .i64 0] 56 (0, 0))] Y) (Le := fun _ _ => True) 34 (fun j _ v => v = UL.getD j undef) (by kernel_rfl) (by kernel_rfl) (by kernel_rfl) (HSa.out.later ⟨rfl, rfl, rfl, Nat.le_refl _, fun _ _ => rfl⟩) (fun _ _ _ _ _ h => h) (fun j => UL.getD j undef) (fun _ _ _ h => h) ?_ ?_
          · simp only [List.take_succ_cons, List.take_zero]
            refine Tn.spec_cons (fun Y hC hd => ⟨by rfl, Tn.gives_val (.agg q.cells) Y (exec_pl (.tmp 7) rfl g7 rfl q (hC.row _ _ (by simp))) ⟨hC, trivial, y0.symm⟩⟩) ?_
            simp only [Act.put, List.setIfInBounds_toArray, List.set_cons_succ, List.set_cons_zero, Nat.reduceAdd]
            rw [y0]
            refine Tn.spec_cons (fun Y hC hd => ⟨by rfl, Tn.gives_call _ _ (Tn.exec_call1 12 (.tmp 103) _ _ rfl rfl (Tn.cf Try.func12 (by kernel_rfl) (by kernel_rfl) _ _)) ((HMn.out Y).mono fun e Y' ⟨e3, hb3⟩ => ⟨_, e3, hC.later hb3, trivial, y1.symm⟩)⟩) ?_
            simp only [Act.put, List.setIfInBounds_toArray, List.set_cons_succ, List.set_cons_zero, Nat.reduceAdd]
            rw [y1]
            refine Tn.spec_cons (fun Y hC hd => ⟨by rfl, Tn.gives_val (.agg q.cells) Y (exec_pl (.tmp 7) rfl g7 rfl q (hC.row _ _ (by simp))) ⟨hC, trivial, y2.symm⟩⟩) ?_
            simp only [Act.put, List.setIfInBounds_toArray, List.set_cons_succ, List.set_cons_zero, Nat.reduceAdd]
            rw [y2]
            refine Tn.spec_cons (fun Y hC hd => ⟨by rfl, Tn.gives_call _ _ (Tn.exec_call1 15 (.tmp 105) _ _ rfl rfl (Tn.cf Try.func15 (by kernel_rfl) (by kernel_rfl) _ _)) ((HCl.out Y).mono fun e Y' ⟨e3, hb3⟩ => ⟨_, e3, hC.later hb3, trivial, y3.symm⟩)⟩) ?_
            simp only [Act.put, List.setIfInBounds_toArray, List.set_cons_succ, List.set_cons_zero, Nat.reduceAdd]
            rw [y3]
            refine Tn.spec_cons (fun Y hC hd => ⟨by rfl, Tn.gives_val (.int .i64 0) Y (exec_addM (.tmp 104) (.tmp 106) rfl 0 0 0 rfl rfl (by decide)) ⟨hC, trivial, y4.symm⟩⟩) ?_
            simp only [Act.put, List.setIfInBounds_toArray, List.set_cons_succ, List.set_cons_zero, Nat.reduceAdd]
            rw [y4]
            refine Tn.spec_cons (fun Y hC hd => ⟨by rfl, Tn.gives_val (.agg q.cells) Y (exec_pl (.tmp 7) rfl g7 rfl q (hC.row _ _ (by simp))) ⟨hC, trivial, y5.symm⟩⟩) ?_
            simp only [Act.put, List.setIfInBounds_toArray, List.set_cons_succ, List.set_cons_zero, Nat.reduceAdd]
            rw [y5]
            refine Tn.spec_cons (fun Y hC hd => ⟨by rfl, Tn.gives_call _ _ (Tn.exec_call1 13 (.tmp 108) _ _ rfl rfl (Tn.cf Try.func13 (by kernel_rfl) (by kernel_rfl) _ _)) ((HPc.out Y).mono fun e Y' ⟨e3, hb3⟩ => ⟨_, e3, hC.later hb3, trivial, y6.symm⟩)⟩) ?_
            simp only [Act.put, List.setIfInBounds_toArray, List.set_cons_succ, List.set_cons_zero, Nat.reduceAdd]
            rw [y6]
            refine Tn.spec_cons (fun Y hC hd => ⟨by rfl, Tn.gives_val (.int .i64 0) Y (exec_addM (.tmp 107) (.tmp 109) rfl 0 0 0 rfl rfl (by decide)) ⟨hC, trivial, y7.symm⟩⟩) ?_
            simp only [Act.put, List.setIfInBounds_toArray, List.set_cons_succ, List.set_cons_zero, Nat.reduceAdd]
            rw [y7]
            refine Tn.spec_cons (fun Y hC hd => ⟨by rfl, Tn.gives_val (.agg q.cells) Y (exec_pl (.tmp 7) rfl g7 rfl q (hC.row _ _ (by simp))) ⟨hC, trivial, y8.symm⟩⟩) ?_
            simp only [Act.put, List.setIfInBounds_toArray, List.set_cons_succ, List.set_cons_zero, Nat.reduceAdd]
            rw [y8]
            refine Tn.spec_cons (fun Y hC hd => ⟨by rfl, Tn.gives_call _ _ (Mk.exec_call2M 22 (.tmp 111) (.const (.int .i64 0)) _ _ _ rfl rfl rfl (Tn.cf Try.func22 (by kernel_rfl) (by kernel_rfl) _ _)) ((HSz.out Y).mono fun e Y' ⟨e3, hb3⟩ => ⟨_, e3, hC.later hb3, trivial, y9.symm⟩)⟩) ?_
            simp only [Act.put, List.setIfInBounds_toArray, List.set_cons_succ, List.set_cons_zero, Nat.reduceAdd]
            rw [y9]
            refine Tn.spec_cons (fun Y hC hd => ⟨by rfl, Tn.gives_val (.int .i64 0) Y (exec_addM (.tmp 110) (.tmp 112) rfl 0 0 0 rfl rfl (by decide)) ⟨hC, trivial, y10.symm⟩⟩) ?_
            simp only [Act.put, List.setIfInBounds_toArray, List.set_cons_succ, List.set_cons_zero, Nat.reduceAdd]
            rw [y10]
            refine Tn.spec_cons (fun Y hC hd => ⟨by rfl, Tn.gives_val (.bool true) Y (exec_eqI (.tmp 113) (.const (.int .i64 0)) rfl 0 0 true rfl rfl (by decide)) ⟨hC, trivial, y11.symm⟩⟩) ?_
            simp only [Act.put, List.setIfInBounds_toArray, List.set_cons_succ, List.set_cons_zero, Nat.reduceAdd]
            rw [y11]
            refine Tn.spec_cons (fun Y hC hd => ⟨by rfl, Tn.gives_val (.bool true) Y (by rfl) ⟨hC, trivial, y12.symm⟩⟩) ?_
            simp only [Act.put, List.setIfInBounds_toArray, List.set_cons_succ, List.set_cons_zero, Nat.reduceAdd]
            rw [y12]
            refine Tn.spec_cons (fun Y hC hd => ⟨by rfl, Tn.gives_val (.agg #[.int .i64 0, .int .i64 0, .int .i64 0, .int .i64 0, .int .i64 0]) Y (exec_stp (.tmp 10) rfl g10 rfl _ _ _ _ _ (hC.row _ _ (by simp))) ⟨hC, trivial, y13.symm⟩⟩) ?_
            simp only [Act.put, List.setIfInBounds_toArray, List.set_cons_succ, List.set_cons_zero, Nat.reduceAdd]
            rw [y13]
            refine Tn.spec_cons (fun Y hC hd => ⟨by rfl, Tn.gives_val (.agg #[.int .i64 0, .int .i64 0, .int .i64 0, .int .i64 0, .int .i64 0]) Y (exec_buildZ rfl) ⟨hC, trivial, y14.symm⟩⟩) ?_
            simp only [Act.put, List.setIfInBounds_toArray, List.set_cons_succ, List.set_cons_zero, Nat.reduceAdd]
            rw [y14]
            refine Tn.spec_cons (fun Y hC hd => ⟨by rfl, Tn.gives_val (.bool true) Y (exec_eqZ (.tmp 116) (.tmp 117) rfl rfl rfl) ⟨hC, trivial, y15.symm⟩⟩) ?_
            simp only [Act.put, List.setIfInBounds_toArray, List.set_cons_succ, List.set_cons_zero, Nat.reduceAdd]
            rw [y15]
            refine Tn.spec_cons (fun Y hC hd => ⟨by rfl, Tn.gives_val (.bool true) Y (by rfl) ⟨hC, trivial, y16.symm⟩⟩) ?_
            simp only [Act.put, List.setIfInBounds_toArray, List.set_cons_succ, List.set_cons_zero, Nat.reduceAdd]
            rw [y16]
            refine Tn.spec_cons (fun Y hC hd => ⟨by rfl, Tn.gives_val (.bool true) Y (by rfl) ⟨hC, trivial, y17.symm⟩⟩) ?_
            simp only [Act.put, List.setIfInBounds_toArray, List.set_cons_succ, List.set_cons_zero, Nat.reduceAdd]
            rw [y17]
            refine Tn.spec_cons (fun Y hC hd => ⟨by rfl, Tn.gives_val (.int .i64 10) Y (by rfl) ⟨hC, trivial, y18.symm⟩⟩) ?_
            simp only [Act.put, List.setIfInBounds_toArray, List.set_cons_succ, List.set_cons_zero, Nat.reduceAdd]
            rw [y18]
            refine Tn.spec_cons (fun Y hC hd => ⟨by rfl, Tn.gives_val (.bool true) Y (Mk.exec_eqE (.tmp 121) (.const (.int .i64 10)) rfl 10 10 true rfl rfl (by decide)) ⟨hC, trivial, y19.symm⟩⟩) ?_
            simp only [Act.put, List.setIfInBounds_toArray, List.set_cons_succ, List.set_cons_zero, Nat.reduceAdd]
            rw [y19]
            refine Tn.spec_cons (fun Y hC hd => ⟨by rfl, Tn.gives_val (.bool true) Y (by rfl) ⟨hC, trivial, y20.symm⟩⟩) ?_
            simp only [Act.put, List.setIfInBounds_toArray, List.set_cons_succ, List.set_cons_zero, Nat.reduceAdd]
            rw [y20]
            refine Tn.spec_cons (fun Y hC hd => ⟨by rfl, Tn.gives_val (.bool true) Y (by rfl) ⟨hC, trivial, y21.symm⟩⟩) ?_
            simp only [Act.put, List.setIfInBounds_toArray, List.set_cons_succ, List.set_cons_zero, Nat.reduceAdd]
            rw [y21]
            refine Tn.spec_cons (fun Y hC hd => ⟨by rfl, Tn.gives_val (.slice none 0 0) Y (by rfl) ⟨hC, trivial, y22.symm⟩⟩) ?_
            simp only [Act.put, List.setIfInBounds_toArray, List.set_cons_succ, List.set_cons_zero, Nat.reduceAdd]
            rw [y22]
            refine Tn.spec_cons (fun Y hC hd => ⟨by rfl, Tn.gives_val (.int .i64 0) Y (exec_lenV (.tmp 125) rfl none 0 0 rfl) ⟨hC, trivial, y23.symm⟩⟩) ?_
            simp only [Act.put, List.setIfInBounds_toArray, List.set_cons_succ, List.set_cons_zero, Nat.reduceAdd]
            rw [y23]
            refine Tn.spec_cons (fun Y hC hd => ⟨by rfl, Tn.gives_val (.bool true) Y (exec_eqI (.tmp 126) (.const (.int .i64 0)) rfl 0 0 true rfl rfl (by decide)) ⟨hC, trivial, y24.symm⟩⟩) ?_
            simp only [Act.put, List.setIfInBounds_toArray, List.set_cons_succ, List.set_cons_zero, Nat.reduceAdd]
            rw [y24]
            refine Tn.spec_cons (fun Y hC hd => ⟨by rfl, Tn.gives_val (.bool true) Y (by rfl) ⟨hC, trivial, y25.symm⟩⟩) ?_
            simp only [Act.put, List.setIfInBounds_toArray, List.set_cons_succ, List.set_cons_zero, Nat.reduceAdd]
            rw [y25]
            refine Tn.spec_cons (fun Y hC hd => ⟨by rfl, Tn.gives_val (.bool true) Y (by rfl) ⟨hC, trivial, y26.symm⟩⟩) ?_
            simp only [Act.put, List.setIfInBounds_toArray, List.set_cons_succ, List.set_cons_zero, Nat.reduceAdd]
            rw [y26]
            refine Tn.spec_cons (fun Y hC hd => ⟨by rfl, Tn.gives_val (.int .i64 20) Y (by rfl) ⟨hC, trivial, y27.symm⟩⟩) ?_
            simp only [Act.put, List.setIfInBounds_toArray, List.set_cons_succ, List.set_cons_zero, Nat.reduceAdd]
            rw [y27]
            refine Tn.spec_cons (fun Y hC hd => ⟨by rfl, Tn.gives_val (.int .i64 20) Y (by rfl) ⟨hC, trivial, y28.symm⟩⟩) ?_
            simp only [Act.put, List.setIfInBounds_toArray, List.set_cons_succ, List.set_cons_zero, Nat.reduceAdd]
            rw [y28]
            refine Tn.spec_cons (fun Y hC hd => ⟨by rfl, Tn.gives_val (.bool true) Y (Mk.exec_eqE (.tmp 130) (.tmp 131) rfl 20 20 true rfl rfl (by decide)) ⟨hC, trivial, y29.symm⟩⟩) ?_
            simp only [Act.put, List.setIfInBounds_toArray, List.set_cons_succ, List.set_cons_zero, Nat.reduceAdd]
            rw [y29]
            refine Tn.spec_cons (fun Y hC hd => ⟨by rfl, Tn.gives_val (.bool true) Y (by rfl) ⟨hC, trivial, y30.symm⟩⟩) ?_
            simp only [Act.put, List.setIfInBounds_toArray, List.set_cons_succ, List.set_cons_zero, Nat.reduceAdd]
            rw [y30]
            refine Tn.spec_cons (fun Y hC hd => ⟨by rfl, Tn.gives_val (.bool true) Y (by rfl) ⟨hC, trivial, y31.symm⟩⟩) ?_
            simp only [Act.put, List.setIfInBounds_toArray, List.set_cons_succ, List.set_cons_zero, Nat.reduceAdd]
            rw [y31]
            refine Tn.spec_cons (fun Y hC hd => ⟨by rfl, Tn.gives_call _ _ (exec_call0 7 _ rfl (Tn.cf Try.func7 (by kernel_rfl) (by kernel_rfl) _ _)) ((HAw.out Y).mono fun e Y' ⟨e3, hb3⟩ => ⟨_, e3, hC.later hb3, trivial, y32.symm⟩)⟩) ?_
            simp only [Act.put, List.setIfInBounds_toArray, List.set_cons_succ, List.set_cons_zero, Nat.reduceAdd]
            rw [y32]
            refine Tn.spec_cons (fun Y hC hd => ⟨by rfl, Tn.gives_val (.bool true) Y (by rfl) ⟨hC, trivial, y33.symm⟩⟩) ?_
            simp only [Act.put, List.setIfInBounds_toArray, List.set_cons_succ, List.set_cons_zero, Nat.reduceAdd]
            rw [y33]
            exact Tn.spec_nil
          · intro Y hC hP
            simp only [List.take_succ_cons, List.take_zero, List.drop_succ_cons, List.drop_zero, Tn.putAll, Act.put, List.setIfInBounds_toArray, List.set_cons_succ, List.set_cons_zero, Nat.reduceAdd]
            rw [y0, y1, y2, y3, y4, y5, y6, y7, y8, y9, y10, y11, y12, y13, y14, y15, y16, y17, y18, y19, y20, y21, y22, y23, y24, y25, y26, y27, y28, y29, y30, y31, y32, y33]
            clear y0 y1 y2 y3 y4 y5 y6 y7 y8 y9 y10 y11 y12 y13 y14 y15 y16 y17 y18 y19 y20 y21 y22 y23 y24 y25 y26 y27 y28 y29 y30 y31 y32 y33
            have HSb := Lib.hid hC
            have hrb := hC.row _ _ (List.mem_cons_self ..)
            have cr : Y.cell? ⟨w.heap.size + 1 + 1, 0, none⟩ = some (.bool false) := by rw [cell_of_row _ _ _ _ _ _ hrb]; rfl
            have zr : Y.frozen? ⟨w.heap.size + 1 + 1, 0, none⟩ = false := frozen_of_row _ _ _ _ _ hrb
            clear hC hP hrb
            gi_wp2
            have hK2 : (Y.setCell ⟨w.heap.size + 1 + 1, 0, none⟩ (.bool true)).heap[D2]? = some (.deferred (some [])) := (heap_setCell_other _ _ _ _ (by simp; have := HDr.out; omega)).trans (HSb.out.row _ _ (by simp))
            refine ⟨by simp, .inl ⟨_, _, rfl, run_takeDeferred hK2, ?_⟩⟩
            refine ⟨_, results_c1 Try.results4 _ _ ⟨w.heap.size + 1 + 1, 0, none⟩ (.bool true) _ rfl ?_ Try.underlying4 rfl, rfl, ?_⟩
            · refine (World.cell?_of_block (w := Y.setCell ⟨w.heap.size + 1 + 1, 0, none⟩ (.bool true)) (World.putObj_heap_other (by have := HDr.out; simp; omega))).trans ?_
              have hr : (Y.setCell ⟨w.heap.size + 1 + 1, 0, none⟩ (.bool true)).heap[w.heap.size + 1 + 1]? = some (.cells ((#[.bool false] : Array Value).setIfInBounds 0 (.bool true)) 4 (0, 0)) := heap_setCell_same _ _ _ _ _ _ (HSb.out.row _ _ (List.mem_cons_self ..))
              rw [cell_of_row _ _ _ _ _ _ hr]; rfl
            · exact (HSb.out.below.trans (Below.ofGrown (Mk.grownM_set _ _ _ _) HSb.out.below.size (fun k hk => by cases hk; omega))).trans (belowK_b (w := w) (Nat.le_refl _) _ D2 _ _ (by have := HDr.out; omega) hK2 rfl rfl)
      | false =>
        have ha2 : ¬ (X < a ∨ X < b ∨ X < a + b) := by simp only [Bool.or_eq_false_iff] at he63; rw [he63.1.1] at hd44; rw [he63.1.2] at hd51; rw [he63.2] at hd62; simp at hd44 hd51 hd62; omega
        clear hd44 hd51 hd62 he63
        gi_upto_region 10 with fail
        refine wpIn_region_lit ?_
        refine wpListIn_vl (fun c h => by cases h) rfl rfl (.pointer (some ⟨w.heap.size + 1, 2, none⟩)) (exec_arr3 (.tmp 3) 2 (by decide) rfl (w.heap.size + 1) rfl) ?_
        simp only [Act.put, List.setIfInBounds_toArray, List.set_cons_succ, List.set_cons_zero]
        refine wpListIn_vl (fun c h => by cases h) rfl rfl (.int .i64 k) (Bp.exec_load1 3 (.tmp 64) rfl _ rfl _ t2 _ Try.underlying3 rfl) ?_
        simp only [Act.put, List.setIfInBounds_toArray, List.set_cons_succ, List.set_cons_zero]
        obtain ⟨d66, hd66⟩ : ∃ x, decide (k < 1) = x := ⟨_, rfl⟩
        refine wpListIn_vl (fun c h => by cases h) rfl rfl (.bool d66) (Mk.exec_lssM (.tmp 65) (.const (.int .i64 1)) rfl _ _ _ rfl rfl hd66) ?_
        simp only [Act.put, List.setIfInBounds_toArray, List.set_cons_succ, List.set_cons_zero]
        refine wpListIn_vl (fun c h => by cases h) rfl rfl (.bool d66) (Mk.exec_movM (.tmp 66) rfl _ rfl) ?_
        simp only [Act.put, List.setIfInBounds_toArray, List.set_cons_succ, List.set_cons_zero]
        refine wpListIn_vlIf (fun c h => by cases h) rfl (!d66) (by cases d66 <;> rfl) (.pointer (some ⟨w.heap.size + 1, 2, none⟩)) (fun hb => exec_arr3 (.tmp 3) 2 (by decide) rfl (w.heap.size + 1) rfl) ?_
        intro u68 hu68 hz68
        simp only [Act.put, List.setIfInBounds_toArray, List.set_cons_succ, List.set_cons_zero]
        refine wpListIn_vlIf (fun c h => by cases h) rfl (!d66) (by cases d66 <;> rfl) (.int .i64 k) (fun hb => Bp.exec_load1 3 (.tmp 68) rfl _ (by exact hu68 hb) _ t2 _ Try.underlying3 rfl) ?_
        intro u69 hu69 hz69
        simp only [Act.put, List.setIfInBounds_toArray, List.set_cons_succ, List.set_cons_zero]
        refine wpListIn_vlIf (fun c h => by cases h) rfl (!d66) (by cases d66 <;> rfl) (.pointer (some ⟨g5, 0, none⟩)) (fun hb => Mk.exec_fldM 38 0 (.tmp 5) rfl _ _ rfl (by kernel_rfl)) ?_
        intro u70 hu70 hz70
        simp only [Act.put, List.setIfInBounds_toArray, List.set_cons_succ, List.set_cons_zero]
        refine wpListIn_vlIf (fun c h => by cases h) rfl (!d66) (by cases d66 <;> rfl) (.pointer (some ⟨g5, 0, none⟩)) (fun hb => Mk.exec_fldM 31 0 (.tmp 70) rfl _ _ (by exact hu70 hb) (by kernel_rfl)) ?_
        intro u71 hu71 hz71
        simp only [Act.put, List.setIfInBounds_toArray, List.set_cons_succ, List.set_cons_zero]
        refine wpListIn_vlIf (fun c h => by cases h) rfl (!d66) (by cases d66 <;> rfl) (.int .i64 V) (fun hb => Bp.exec_load1 3 (.tmp 71) rfl _ (by exact hu71 hb) _ c0 _ Try.underlying3 rfl) ?_
        intro u72 hu72 hz72
        simp only [Act.put, List.setIfInBounds_toArray, List.set_cons_succ, List.set_cons_zero]
        obtain ⟨d73, hd73⟩ : ∃ x, decide (V < k) = x := ⟨_, rfl⟩
        refine wpListIn_vlIf (fun c h => by cases h) rfl (!d66) (by cases d66 <;> rfl) (.bool d73) (fun hb => Mk.exec_gtrM (.tmp 69) (.tmp 72) rfl _ _ _ (by exact hu69 hb) (by exact hu72 hb) hd73) ?_
        intro u73 hu73 hz73
        simp only [Act.put, List.setIfInBounds_toArray, List.set_cons_succ, List.set_cons_zero]
        obtain ⟨e74, he74⟩ : ∃ x, (d66 || d73) = x := ⟨_, rfl⟩
        refine wpListIn_vl (fun c h => by cases h) rfl rfl (.bool e74) (he74 ▸ Mk.exec_orM (.tmp 67) (.const (.bool true)) (.tmp 73) rfl d66 d73 rfl rfl (fun hb0 => by exact hu73 (by simp [hb0]))) ?_
        simp only [Act.put, List.setIfInBounds_toArray, List.set_cons_succ, List.set_cons_zero]
        clear hu68 hz68 hu69 hz69 hu70 hz70 hu71 hz71 hu72 hz72 hu73 hz73
        cases e74 with
        | true =>
          have hE : q.chk = 10 := by rw [HQ.out]; unfold wantN; rw [if_neg ha1, if_neg ha2, if_pos]; rcases Bool.or_eq_true_iff.1 he74 with h | h; exact Or.inl (by rw [h] at hd66; simpa using hd66); exact Or.inr (by rw [h] at hd73; simpa using hd73)
          clear hd66 hd73 he74 t0 t1 t2 c4 c0 ha1 ha2
          have HS4 : Hid (Sta w [(w.heap.size + 1 + 1, .cells #[.bool false] 4 (0, 0)), (g7, .cells q.cells 40 (0, 0))] w4) := Lib.hid ⟨HI4.out.below, fun g o h => by simp only [List.mem_cons, List.not_mem_nil, or_false, Prod.mk.injEq] at h; rcases h with ⟨rfl, rfl⟩ | ⟨rfl, rfl⟩; exact HI4.out.rb; exact HP4.out⟩
          have hne : q.chk ≠ 0 := by rw [hE]; decide
          have HCk := Lib.hid (fun W => pchk_any W q)
          rw [hE] at HCk
          have HSp := Lib.hid (fun W => Steps_any W q)
          have HBg := Lib.hid (fun W => Begin_no W q hne none 0 0)
          rw [hE] at HBg
          have HSt := Lib.hid (fun W => Step_any W q [] (Or.inl ⟨hne, rfl⟩) 0 (by omega))
          have HMn := Lib.hid (fun W => many_any W q [] (Or.inl ⟨hne, rfl⟩))
          have HCl := Lib.hid (fun W => Cells_no W q hne)
          have HPc := Lib.hid (fun W => Places_no W q hne)
          have HSz := Lib.hid (fun W => Size_no W q hne 0)
          have HNe := Lib.hid hne
          clear hE hne HI4 HP4 HQ HQ2 HC0 hX8 hV12
          gi_upto_region 16 with (first
            | (refine wpListIn_load_row rfl 40 (.tmp 7) rfl g7 rfl 40 q.cells (0, 0) _ (HS4.out.row _ _ (by simp)) Try.underlying40 rfl size_pl ?_)
            | (refine ⟨trivial, ?_⟩; refine (callsIn_wide.2 (HCk.out _)).mono ?_; rintro e w5 ⟨rfl, hb5⟩; have HS5 := Lib.hid (HS4.out.later hb5); clear hb5))
          gi_upto_region 17 with (first
            | (refine wpListIn_load_row rfl 40 (.tmp 7) rfl g7 rfl 40 q.cells (0, 0) _ (HS5.out.row _ _ (by simp)) Try.underlying40 rfl size_pl ?_)
            | (refine ⟨trivial, ?_⟩; refine (callsIn_wide.2 (HSp.out _)).mono ?_; rintro e w6 ⟨rfl, rfl⟩))
          have hal : Below w5.heap.size w5 (w5.alloc (.cells q.cells 40)) := (Below.refl _ _).alloc (Nat.le_refl _) _
          have HS6 := Lib.hid (HS5.out.later hal)
          have HBc := Lib.hid (heap_alloc_new w5 (.cells q.cells 40))
          have hg7 : g7 < w5.heap.size := (Array.getElem?_eq_some_iff.1 (HS5.out.row g7 (.cells q.cells 40 (0, 0)) (by simp))).1
          have hr7 : w.heap.size + 1 + 1 < w5.heap.size := (Array.getElem?_eq_some_iff.1 (HS5.out.row (w.heap.size + 1 + 1) (.cells #[.bool false] 4 (0, 0)) (by simp))).1
          obtain ⟨bc, hbc⟩ : ∃ bc, w5.heap.size = bc := ⟨_, rfl⟩
          obtain ⟨W0, hW0⟩ : ∃ W0, w5.alloc (.cells q.cells 40) = W0 := ⟨_, rfl⟩
          rw [hW0] at HS6 HBc hal ⊢
          have hsz := hal.size
          rw [hbc] at HBc hg7 hr7 hsz ⊢
          have HL7 := Lib.hid (Nat.lt_of_lt_of_le hg7 hsz)
          have HLr := Lib.hid (Nat.lt_of_lt_of_le hr7 hsz)
          have hnil : (binOp .eql 50 (.func (.func 34) #[] #[.pointer (some ⟨bc, 0, none⟩)]) Value.nilFunc).run Try.prog W0 = .ok (.bool false) W0 := by kernel_rfl
          clear hal hW0 hbc hg7 hr7 hsz HS5
          gi_wp2
          refine wpIn_rangeFunc_tellsC (α := Unit) rfl (by omega) (gf := 34) (lb := #[.pointer (some ⟨bc, 0, none⟩)]) rfl trivial (enters_of Try.func34 (by kernel_rfl) rfl)
            (encs := fun _ => #[undef]) (Kp := KpS 0 0) (G := fun _ _ _ => False) (S := fun ys => ys = []) (Sp := fun _ => True) (w0 := W0)
            (fun l J Jx W hW hJ hJx hY h0 => steps1_no 7 l q HNe.out J Jx W.heap.size bc hJ (by omega) W (Nat.le_refl _) ((hW.block _ (Array.getElem?_eq_some_iff.1 HBc.out).1).trans HBc.out) h0)
            KpS.trans (fun W l o o' h1 h2 h3 h4 => KpS.put W l o o' h2 h3) (Below.refl _ _) (fun _ => rfl)
            (fun _ W => Sta w [(w.heap.size + 1 + 1, .cells #[.bool false] 4 (0, 0)), (g7, .cells q.cells 40 (0, 0))] W) (fun _ _ _ => False) (sta_own HS6.out.below.size (by intro g o h; simp only [List.mem_cons, List.not_mem_nil, or_false, Prod.mk.injEq] at h; rcases h with ⟨rfl, _⟩ | ⟨rfl, _⟩; exact HLr.out; exact HL7.out)) (fun _ => ownC_false)
            HS6.out (fun _ _ _ _ => False) (fun _ _ _ => ownC_false) ?assign ?body ?done ?stop
          case assign =>
            rintro l pre x W K hI hG hK
            exact hG.elim
          case body =>
            rintro l pre x a' W hl _ hI h
            exact h.elim
          case stop =>
            rintro D2 c pre W hD _ h
            exact h.elim
          case done =>
            rintro D2 ys W hD rfl hI hK
            have HS7 : Hid (Sta w [(w.heap.size + 1 + 1, .cells #[.bool false] 4 (0, 0)), (g7, .cells q.cells 40 (0, 0)), (D2, .deferred (some []))] W) := Lib.hid ⟨hI.below, fun g o h => by simp only [List.mem_cons, List.not_mem_nil, or_false, Prod.mk.injEq] at h; rcases h with ⟨rfl, rfl⟩ | ⟨rfl, rfl⟩ | ⟨rfl, rfl⟩; exact hI.row _ _ (by simp); exact hI.row _ _ (by simp); exact hK⟩
            have HDr : Hid (w.heap.size + 1 + 1 < D2) := Lib.hid (Nat.lt_of_lt_of_le HLr.out hD)
            clear hI hK hD hnil HBc HS6 HL7 HLr
            gi_upto_region 22 with (first
              | (refine wpListIn_load_row rfl 40 (.tmp 7) rfl g7 rfl 40 q.cells (0, 0) _ (HS7.out.row _ _ (by simp)) Try.underlying40 rfl size_pl ?_)
              | (refine ⟨trivial, ?_⟩; refine (callsIn_wide.2 (HSt.out _)).mono ?_; rintro e w7 ⟨rfl, hb7⟩; have HS8 := Lib.hid (HS7.out.later hb7); clear hb7; have hsv : stepV [] 0 = .tuple #[.agg #[.int .i64 0, .int .i64 0, .int .i64 0, .int .i64 0, .int .i64 0], .int .i64 10] := rfl; rw [hsv]; clear hsv)
              | (refine wpListIn_store_new rfl 56 (.tmp 10) (.tmp 96) rfl #[.int .i64 0, .int .i64 0, .int .i64 0, .int .i64 0, .int .i64 0] #[.int .i64 0, .int .i64 0, .int .i64 0, .int .i64 0, .int .i64 0] 56 rfl rfl rfl size_stp rfl (stp_one 0 0 0 0 0) ?_))
            have hal : Below w7.heap.size w7 (w7.alloc (.cells #[.int .i64 0, .int .i64 0, .int .i64 0, .int .i64 0, .int .i64 0] 56)) := (Below.refl _ _).alloc (Nat.le_refl _) _
            have HS9 : Hid (Sta w [(w.heap.size + 1 + 1, .cells #[.bool false] 4 (0, 0)), (g7, .cells q.cells 40 (0, 0)), (D2, .deferred (some [])), (w7.heap.size, .cells #[.int .i64 0, .int .i64 0, .int .i64 0, .int .i64 0, .int .i64 0] 56 (0, 0))] (w7.alloc (.cells #[.int .i64 0, .int .i64 0, .int .i64 0, .int .i64 0, .int .i64 0] 56))) := Lib.hid ⟨(HS8.out.later hal).below, fun g o h => by simp only [List.mem_cons, List.not_mem_nil, or_false, Prod.mk.injEq] at h; rcases h with ⟨rfl, rfl⟩ | ⟨rfl, rfl⟩ | ⟨rfl, rfl⟩ | ⟨rfl, rfl⟩; exact (HS8.out.later hal).row _ _ (by simp); exact (HS8.out.later hal).row _ _ (by simp); exact (HS8.out.later hal).row _ _ (by simp); exact heap_alloc_new _ _⟩
            obtain ⟨g10, hg10⟩ : ∃ g, w7.heap.size = g := ⟨_, rfl⟩
            obtain ⟨w8, hw8⟩ : ∃ w8, w7.alloc (.cells #[.int .i64 0, .int .i64 0, .int .i64 0, .int .i64 0, .int .i64 0] 56) = w8 := ⟨_, rfl⟩
            rw [hw8, hg10] at HS9
            rw [hw8, hg10]
            clear hal hw8 hg10 HS7 HS8
            gi_upto_region 23 with (first
              | (refine wpListIn_load_row rfl 40 (.tmp 7) rfl g7 rfl 40 q.cells (0, 0) _ (HS9.out.row _ _ (by simp)) Try.underlying40 rfl size_pl ?_)
              | (refine ⟨trivial, ?_⟩; refine (callsIn_wide.2 (HBg.out _)).mono ?_; rintro e w9 ⟨rfl, hb9⟩; have HSa := Lib.hid (HS9.out.later hb9); clear hb9 HS9))
            obtain ⟨UL, hUL⟩ : ∃ UL : List Value, ([.agg q.cells, .int .i64 0, .agg q.cells, .int .i64 0, .int .i64 0, .agg q.cells, .int .i64 0, .int .i64 0, .agg q.cells, .int .i64 0, .int .i64 0, .bool true, .bool true, .agg #[.int .i64 0, .int .i64 0, .int .i64 0, .int .i64 0, .int .i64 0], .agg #[.int .i64 0, .int .i64 0, .int .i64 0, .int .i64 0, .int .i64 0], .bool true, .bool true, .bool true, .int .i64 10, .bool true, .bool true, .bool true, .slice none 0 0, .int .i64 0, .bool true, .bool true, .bool true, .int .i64 10, .int .i64 10, .bool true, .bool true, .bool true, .bool true, .bool true] : List Value) = UL := ⟨_, rfl⟩
            have y0 : UL.getD 0 undef = .agg q.cells := by rw [← hUL]; rfl
            have y1 : UL.getD 1 undef = .int .i64 0 := by rw [← hUL]; rfl
            have y2 : UL.getD 2 undef = .agg q.cells := by rw [← hUL]; rfl
            have y3 : UL.getD 3 undef = .int .i64 0 := by rw [← hUL]; rfl
            have y4 : UL.getD 4 undef = .int .i64 0 := by rw [← hUL]; rfl
            have y5 : UL.getD 5 undef = .agg q.cells := by rw [← hUL]; rfl
            have y6 : UL.getD 6 undef = .int .i64 0 := by rw [← hUL]; rfl
            have y7 : UL.getD 7 undef = .int .i64 0 := by rw [← hUL]; rfl
            have y8 : UL.getD 8 undef = .agg q.cells := by rw [← hUL]; rfl
            have y9 : UL.getD 9 undef = .int .i64 0 := by rw [← hUL]; rfl
            have y10 : UL.getD 10 undef = .int .i64 0 := by rw [← hUL]; rfl
            have y11 : UL.getD 11 undef = .bool true := by rw [← hUL]; rfl
            have y12 : UL.getD 12 undef = .bool true := by rw [← hUL]; rfl
            have y13 : UL.getD 13 undef = .agg #[.int .i64 0, .int .i64 0, .int .i64 0, .int .i64 0, .int .i64 0] := by rw [← hUL]; rfl
            have y14 : UL.getD 14 undef = .agg #[.int .i64 0, .int .i64 0, .int .i64 0, .int .i64 0, .int .i64 0] := by rw [← hUL]; rfl
            have y15 : UL.getD 15 undef = .bool true := by rw [← hUL]; rfl
            have y16 : UL.getD 16 undef = .bool true := by rw [← hUL]; rfl
            have y17 : UL.getD 17 undef = .bool true := by rw [← hUL]; rfl
            have y18 : UL.getD 18 undef = .int .i64 10 := by rw [← hUL]; rfl
            have y19 : UL.getD 19 undef = .bool true := by rw [← hUL]; rfl
            have y20 : UL.getD 20 undef = .bool true := by rw [← hUL]; rfl
            have y21 : UL.getD 21 undef = .bool true := by rw [← hUL]; rfl
            have y22 : UL.getD 22 undef = .slice none 0 0 := by rw [← hUL]; rfl
            have y23 : UL.getD 23 undef = .int .i64 0 := by rw [← hUL]; rfl
            have y24 : UL.getD 24 undef = .bool true := by rw [← hUL]; rfl
            have y25 : UL.getD 25 undef = .bool true := by rw [← hUL]; rfl
            have y26 : UL.getD 26 undef = .bool true := by rw [← hUL]; rfl
            have y27 : UL.getD 27 undef = .int .i64 10 := by rw [← hUL]; rfl
            have y28 : UL.getD 28 undef = .int .i64 10 := by rw [← hUL]; rfl
            have y29 : UL.getD 29 undef = .bool true := by rw [← hUL]; rfl
            have y30 : UL.getD 30 undef = .bool true := by rw [← hUL]; rfl
            have y31 : UL.getD 31 undef = .bool true := by rw [← hUL]; rfl
            have y32 : UL.getD 32 undef = .bool true := by rw [← hUL]; rfl
            have y33 : UL.getD 33 undef = .bool true := by rw [← hUL]; rfl
            clear hUL
            refine wpIn_region_specW (C := fun Y => Sta w [(w.heap.size + 1 + 1, .cells #[.bool false] 4 (0, 0)), (g7, .cells q.cells 40 (0, 0)), (D2, .deferred (some [])), (g10, .cells #[.int .i64 0, .int .i64 0, .int .i64 0, .int .i64 0, .int .i64 0] 56 (0, 0))] Y) (Le := fun _ _ => True) 34 (fun j _ v => v = UL.getD j undef) (by kernel_rfl) (by kernel_rfl) (by kernel_rfl) (HSa.out.later ⟨rfl, rfl, rfl, Nat.le_refl _, fun _ _ => rfl⟩) (fun _ _ _ _ _ h => h) (fun j => UL.getD j undef) (fun _ _ _ h => h) ?_ ?_
            · simp only [List.take_succ_cons, List.take_zero]
              refine Tn.spec_cons (fun Y hC hd => ⟨by rfl, Tn.gives_val (.agg q.cells) Y (exec_pl (.tmp 7) rfl g7 rfl q (hC.row _ _ (by simp))) ⟨hC, trivial, y0.symm⟩⟩) ?_
              simp only [Act.put, List.setIfInBounds_toArray, List.set_cons_succ, List.set_cons_zero, Nat.reduceAdd]
              rw [y0]
              refine Tn.spec_cons (fun Y hC hd => ⟨by rfl, Tn.gives_call _ _ (Tn.exec_call1 12 (.tmp 103) _ _ rfl rfl (Tn.cf Try.func12 (by kernel_rfl) (by kernel_rfl) _ _)) ((HMn.out Y).mono fun e Y' ⟨e3, hb3⟩ => ⟨_, e3, hC.later hb3, trivial, y1.symm⟩)⟩) ?_
              simp only [Act.put, List.setIfInBounds_toArray, List.set_cons_succ, List.set_cons_zero, Nat.reduceAdd]
              rw [y1]
              refine Tn.spec_cons (fun Y hC hd => ⟨by rfl, Tn.gives_val (.agg q.cells) Y (exec_pl (.tmp 7) rfl g7 rfl q (hC.row _ _ (by simp))) ⟨hC, trivial, y2.symm⟩⟩) ?_
              simp only [Act.put, List.setIfInBounds_toArray, List.set_cons_succ, List.set_cons_zero, Nat.reduceAdd]
              rw [y2]
              refine Tn.spec_cons (fun Y hC hd => ⟨by rfl, Tn.gives_call _ _ (Tn.exec_call1 15 (.tmp 105) _ _ rfl rfl (Tn.cf Try.func15 (by kernel_rfl) (by kernel_rfl) _ _)) ((HCl.out Y).mono fun e Y' ⟨e3, hb3⟩ => ⟨_, e3, hC.later hb3, trivial, y3.symm⟩)⟩) ?_
              simp only [Act.put, List.setIfInBounds_toArray, List.set_cons_succ, List.set_cons_zero, Nat.reduceAdd]
              rw [y3]
              refine Tn.spec_cons (fun Y hC hd => ⟨by rfl, Tn.gives_val (.int .i64 0) Y (exec_addM (.tmp 104) (.tmp 106) rfl 0 0 0 rfl rfl (by decide)) ⟨hC, trivial, y4.symm⟩⟩) ?_
              simp only [Act.put, List.setIfInBounds_toArray, List.set_cons_succ, List.set_cons_zero, Nat.reduceAdd]
              rw [y4]
              refine Tn.spec_cons (fun Y hC hd => ⟨by rfl, Tn.gives_val (.agg q.cells) Y (exec_pl (.tmp 7) rfl g7 rfl q (hC.row _ _ (by simp))) ⟨hC, trivial, y5.symm⟩⟩) ?_
              simp only [Act.put, List.setIfInBounds_toArray, List.set_cons_succ, List.set_cons_zero, Nat.reduceAdd]
              rw [y5]
              refine Tn.spec_cons (fun Y hC hd => ⟨by rfl, Tn.gives_call _ _ (Tn.exec_call1 13 (.tmp 108) _ _ rfl rfl (Tn.cf Try.func13 (by kernel_rfl) (by kernel_rfl) _ _)) ((HPc.out Y).mono fun e Y' ⟨e3, hb3⟩ => ⟨_, e3, hC.later hb3, trivial, y6.symm⟩)⟩) ?_
              simp only [Act.put, List.setIfInBounds_toArray, List.set_cons_succ, List.set_cons_zero, Nat.reduceAdd]
              rw [y6]
              refine Tn.spec_cons (fun Y hC hd => ⟨by rfl, Tn.gives_val (.int .i64 0) Y (exec_addM (.tmp 107) (.tmp 109) rfl 0 0 0 rfl rfl (by decide)) ⟨hC, trivial, y7.symm⟩⟩) ?_
              simp only [Act.put, List.setIfInBounds_toArray, List.set_cons_succ, List.set_cons_zero, Nat.reduceAdd]
              rw [y7]
              refine Tn.spec_cons (fun Y hC hd => ⟨by rfl, Tn.gives_val (.agg q.cells) Y (exec_pl (.tmp 7) rfl g7 rfl q (hC.row _ _ (by simp))) ⟨hC, trivial, y8.symm⟩⟩) ?_
              simp only [Act.put, List.setIfInBounds_toArray, List.set_cons_succ, List.set_cons_zero, Nat.reduceAdd]
              rw [y8]
              refine Tn.spec_cons (fun Y hC hd => ⟨by rfl, Tn.gives_call _ _ (Mk.exec_call2M 22 (.tmp 111) (.const (.int .i64 0)) _ _ _ rfl rfl rfl (Tn.cf Try.func22 (by kernel_rfl) (by kernel_rfl) _ _)) ((HSz.out Y).mono fun e Y' ⟨e3, hb3⟩ => ⟨_, e3, hC.later hb3, trivial, y9.symm⟩)⟩) ?_
              simp only [Act.put, List.setIfInBounds_toArray, List.set_cons_succ, List.set_cons_zero, Nat.reduceAdd]
              rw [y9]
              refine Tn.spec_cons (fun Y hC hd => ⟨by rfl, Tn.gives_val (.int .i64 0) Y (exec_addM (.tmp 110) (.tmp 112) rfl 0 0 0 rfl rfl (by decide)) ⟨hC, trivial, y10.symm⟩⟩) ?_
              simp only [Act.put, List.setIfInBounds_toArray, List.set_cons_succ, List.set_cons_zero, Nat.reduceAdd]
              rw [y10]
              refine Tn.spec_cons (fun Y hC hd => ⟨by rfl, Tn.gives_val (.bool true) Y (exec_eqI (.tmp 113) (.const (.int .i64 0)) rfl 0 0 true rfl rfl (by decide)) ⟨hC, trivial, y11.symm⟩⟩) ?_
              simp only [Act.put, List.setIfInBounds_toArray, List.set_cons_succ, List.set_cons_zero, Nat.reduceAdd]
              rw [y11]
              refine Tn.spec_cons (fun Y hC hd => ⟨by rfl, Tn.gives_val (.bool true) Y (by rfl) ⟨hC, trivial, y12.symm⟩⟩) ?_
              simp only [Act.put, List.setIfInBounds_toArray, List.set_cons_succ, List.set_cons_zero, Nat.reduceAdd]
              rw [y12]
              refine Tn.spec_cons (fun Y hC hd => ⟨by rfl, Tn.gives_val (.agg #[.int .i64 0, .int .i64 0, .int .i64 0, .int .i64 0, .int .i64 0]) Y (exec_stp (.tmp 10) rfl g10 rfl _ _ _ _ _ (hC.row _ _ (by simp))) ⟨hC, trivial, y13.symm⟩⟩) ?_
              simp only [Act.put, List.setIfInBounds_toArray, List.set_cons_succ, List.set_cons_zero, Nat.reduceAdd]
              rw [y13]
              refine Tn.spec_cons (fun Y hC hd => ⟨by rfl, Tn.gives_val (.agg #[.int .i64 0, .int .i64 0, .int .i64 0, .int .i64 0, .int .i64 0]) Y (exec_buildZ rfl) ⟨hC, trivial, y14.symm⟩⟩) ?_
              simp only [Act.put, List.setIfInBounds_toArray, List.set_cons_succ, List.set_cons_zero, Nat.reduceAdd]
              rw [y14]
              refine Tn.spec_cons (fun Y hC hd => ⟨by rfl, Tn.gives_val (.bool true) Y (exec_eqZ (.tmp 116) (.tmp 117) rfl rfl rfl) ⟨hC, trivial, y15.symm⟩⟩) ?_
              simp only [Act.put, List.setIfInBounds_toArray, List.set_cons_succ, List.set_cons_zero, Nat.reduceAdd]
              rw [y15]
              refine Tn.spec_cons (fun Y hC hd => ⟨by rfl, Tn.gives_val (.bool true) Y (by rfl) ⟨hC, trivial, y16.symm⟩⟩) ?_
              simp only [Act.put, List.setIfInBounds_toArray, List.set_cons_succ, List.set_cons_zero, Nat.reduceAdd]
              rw [y16]
              refine Tn.spec_cons (fun Y hC hd => ⟨by rfl, Tn.gives_val (.bool true) Y (by rfl) ⟨hC, trivial, y17.symm⟩⟩) ?_
              simp only [Act.put, List.setIfInBounds_toArray, List.set_cons_succ, List.set_cons_zero, Nat.reduceAdd]
              rw [y17]
              refine Tn.spec_cons (fun Y hC hd => ⟨by rfl, Tn.gives_val (.int .i64 10) Y (by rfl) ⟨hC, trivial, y18.symm⟩⟩) ?_
              simp only [Act.put, List.setIfInBounds_toArray, List.set_cons_succ, List.set_cons_zero, Nat.reduceAdd]
              rw [y18]
              refine Tn.spec_cons (fun Y hC hd => ⟨by rfl, Tn.gives_val (.bool true) Y (Mk.exec_eqE (.tmp 121) (.const (.int .i64 10)) rfl 10 10 true rfl rfl (by decide)) ⟨hC, trivial, y19.symm⟩⟩) ?_
              simp only [Act.put, List.setIfInBounds_toArray, List.set_cons_succ, List.set_cons_zero, Nat.reduceAdd]
              rw [y19]
              refine Tn.spec_cons (fun Y hC hd => ⟨by rfl, Tn.gives_val (.bool true) Y (by rfl) ⟨hC, trivial, y20.symm⟩⟩) ?_
              simp only [Act.put, List.setIfInBounds_toArray, List.set_cons_succ, List.set_cons_zero, Nat.reduceAdd]
              rw [y20]
              refine Tn.spec_cons (fun Y hC hd => ⟨by rfl, Tn.gives_val (.bool true) Y (by rfl) ⟨hC, trivial, y21.symm⟩⟩) ?_
              simp only [Act.put, List.setIfInBounds_toArray, List.set_cons_succ, List.set_cons_zero, Nat.reduceAdd]
              rw [y21]
              refine Tn.spec_cons (fun Y hC hd => ⟨by rfl, Tn.gives_val (.slice none 0 0) Y (by rfl) ⟨hC, trivial, y22.symm⟩⟩) ?_
              simp only [Act.put, List.setIfInBounds_toArray, List.set_cons_succ, List.set_cons_zero, Nat.reduceAdd]
              rw [y22]
              refine Tn.spec_cons (fun Y hC hd => ⟨by rfl, Tn.gives_val (.int .i64 0) Y (exec_lenV (.tmp 125) rfl none 0 0 rfl) ⟨hC, trivial, y23.symm⟩⟩) ?_
              simp only [Act.put, List.setIfInBounds_toArray, List.set_cons_succ, List.set_cons_zero, Nat.reduceAdd]
              rw [y23]
              refine Tn.spec_cons (fun Y hC hd => ⟨by rfl, Tn.gives_val (.bool true) Y (exec_eqI (.tmp 126) (.const (.int .i64 0)) rfl 0 0 true rfl rfl (by decide)) ⟨hC, trivial, y24.symm⟩⟩) ?_
              simp only [Act.put, List.setIfInBounds_toArray, List.set_cons_succ, List.set_cons_zero, Nat.reduceAdd]
              rw [y24]
              refine Tn.spec_cons (fun Y hC hd => ⟨by rfl, Tn.gives_val (.bool true) Y (by rfl) ⟨hC, trivial, y25.symm⟩⟩) ?_
              simp only [Act.put, List.setIfInBounds_toArray, List.set_cons_succ, List.set_cons_zero, Nat.reduceAdd]
              rw [y25]
              refine Tn.spec_cons (fun Y hC hd => ⟨by rfl, Tn.gives_val (.bool true) Y (by rfl) ⟨hC, trivial, y26.symm⟩⟩) ?_
              simp only [Act.put, List.setIfInBounds_toArray, List.set_cons_succ, List.set_cons_zero, Nat.reduceAdd]
              rw [y26]
              refine Tn.spec_cons (fun Y hC hd => ⟨by rfl, Tn.gives_val (.int .i64 10) Y (by rfl) ⟨hC, trivial, y27.symm⟩⟩) ?_
              simp only [Act.put, List.setIfInBounds_toArray, List.set_cons_succ, List.set_cons_zero, Nat.reduceAdd]
              rw [y27]
              refine Tn.spec_cons (fun Y hC hd => ⟨by rfl, Tn.gives_val (.int .i64 10) Y (by rfl) ⟨hC, trivial, y28.symm⟩⟩) ?_
              simp only [Act.put, List.setIfInBounds_toArray, List.set_cons_succ, List.set_cons_zero, Nat.reduceAdd]
              rw [y28]
              refine Tn.spec_cons (fun Y hC hd => ⟨by rfl, Tn.gives_val (.bool true) Y (Mk.exec_eqE (.tmp 130) (.tmp 131) rfl 10 10 true rfl rfl (by decide)) ⟨hC, trivial, y29.symm⟩⟩) ?_
              simp only [Act.put, List.setIfInBounds_toArray, List.set_cons_succ, List.set_cons_zero, Nat.reduceAdd]
              rw [y29]
              refine Tn.spec_cons (fun Y hC hd => ⟨by rfl, Tn.gives_val (.bool true) Y (by rfl) ⟨hC, trivial, y30.symm⟩⟩) ?_
              simp only [Act.put, List.setIfInBounds_toArray, List.set_cons_succ, List.set_cons_zero, Nat.reduceAdd]
              rw [y30]
              refine Tn.spec_cons (fun Y hC hd => ⟨by rfl, Tn.gives_val (.bool true) Y (by rfl) ⟨hC, trivial, y31.symm⟩⟩) ?_
              simp only [Act.put, List.setIfInBounds_toArray, List.set_cons_succ, List.set_cons_zero, Nat.reduceAdd]
              rw [y31]
              refine Tn.spec_cons (fun Y hC hd => ⟨by rfl, Tn.gives_call _ _ (exec_call0 7 _ rfl (Tn.cf Try.func7 (by kernel_rfl) (by kernel_rfl) _ _)) ((HAw.out Y).mono fun e Y' ⟨e3, hb3⟩ => ⟨_, e3, hC.later hb3, trivial, y32.symm⟩)⟩) ?_
              simp only [Act.put, List.setIfInBounds_toArray, List.set_cons_succ, List.set_cons_zero, Nat.reduceAdd]
              rw [y32]
              refine Tn.spec_cons (fun Y hC hd => ⟨by rfl, Tn.gives_val (.bool true) Y (by rfl) ⟨hC, trivial, y33.symm⟩⟩) ?_
              simp only [Act.put, List.setIfInBounds_toArray, List.set_cons_succ, List.set_cons_zero, Nat.reduceAdd]
              rw [y33]
              exact Tn.spec_nil
            · intro Y hC hP
              simp only [List.take_succ_cons, List.take_zero, List.drop_succ_cons, List.drop_zero, Tn.putAll, Act.put, List.setIfInBounds_toArray, List.set_cons_succ, List.set_cons_zero, Nat.reduceAdd]
              rw [y0, y1, y2, y3, y4, y5, y6, y7, y8, y9, y10, y11, y12, y13, y14, y15, y16, y17, y18, y19, y20, y21, y22, y23, y24, y25, y26, y27, y28, y29, y30, y31, y32, y33]
              clear y0 y1 y2 y3 y4 y5 y6 y7 y8 y9 y10 y11 y12 y13 y14 y15 y16 y17 y18 y19 y20 y21 y22 y23 y24 y25 y26 y27 y28 y29 y30 y31 y32 y33
              have HSb := Lib.hid hC
              have hrb := hC.row _ _ (List.mem_cons_self ..)
              have cr : Y.cell? ⟨w.heap.size + 1 + 1, 0, none⟩ = some (.bool false) := by rw [cell_of_row _ _ _ _ _ _ hrb]; rfl
              have zr : Y.frozen? ⟨w.heap.size + 1 + 1, 0, none⟩ = false := frozen_of_row _ _ _ _ _ hrb
              clear hC hP hrb
              gi_wp2
              have hK2 : (Y.setCell ⟨w.heap.size + 1 + 1, 0, none⟩ (.bool true)).heap[D2]? = some (.deferred (some [])) := (heap_setCell_other _ _ _ _ (by simp; have := HDr.out; omega)).trans (HSb.out.row _ _ (by simp))
              refine ⟨by simp, .inl ⟨_, _, rfl, run_takeDeferred hK2, ?_⟩⟩
              refine ⟨_, results_c1 Try.results4 _ _ ⟨w.heap.size + 1 + 1, 0, none⟩ (.bool true) _ rfl ?_ Try.underlying4 rfl, rfl, ?_⟩
              · refine (World.cell?_of_block (w := Y.setCell ⟨w.heap.size + 1 + 1, 0, none⟩ (.bool true)) (World.putObj_heap_other (by have := HDr.out; simp; omega))).trans ?_
                have hr : (Y.setCell ⟨w.heap.size + 1 + 1, 0, none⟩ (.bool true)).heap[w.heap.size + 1 + 1]? = some (.cells ((#[.bool false] : Array Value).setIfInBounds 0 (.bool true)) 4 (0, 0)) := heap_setCell_same _ _ _ _ _ _ (HSb.out.row _ _ (List.mem_cons_self ..))
                rw [cell_of_row _ _ _ _ _ _ hr]; rfl
              · exact (HSb.out.below.trans (Below.ofGrown (Mk.grownM_set _ _ _ _) HSb.out.below.size (fun k hk => by cases hk; omega))).trans (belowK_b (w := w) (Nat.le_refl _) _ D2 _ _ (by have := HDr.out; omega) hK2 rfl rfl)
        | false =>
          have hE : q.chk = 0 := by rw [HQ.out]; unfold wantN; rw [if_neg ha1, if_neg ha2, if_neg]; simp only [Bool.or_eq_false_iff] at he74; rw [he74.1] at hd66; rw [he74.2] at hd73; simp at hd66 hd73; omega
          clear hd66 hd73 he74 t0 t1 t2 c4 c0 ha1 ha2
          have HS4 : Hid (Sta w [(w.heap.size + 1 + 1, .cells #[.bool false] 4 (0, 0)), (g7, .cells q.cells 40 (0, 0))] w4) := Lib.hid ⟨HI4.out.below, fun g o h => by simp only [List.mem_cons, List.not_mem_nil, or_false, Prod.mk.injEq] at h; rcases h with ⟨rfl, rfl⟩ | ⟨rfl, rfl⟩; exact HI4.out.rb; exact HP4.out⟩
          have HCk := Lib.hid (fun W => pchk_any W q)
          rw [hE] at HCk
          obtain ⟨s, hqs, hsB⟩ := pl_ok hE
          have HMn := Lib.hid (fun W => many_any W q (allT s s.t) (Or.inr ⟨s, hsB, hqs, rfl⟩))
          obtain ⟨N, hN⟩ : ∃ N, sumR (allT s s.t) = N := ⟨_, rfl⟩
          have hpos := all_pos hsB
          rw [hN] at HMn hpos
          have dN : decide ((0 : Int) < (N : Int)) = true := by simp; omega
          have dN2 : decide (0 < N) = true := by simp; omega
          clear hE HI4 HP4 HQ HQ2 HC0 hX8 hV12 hqs hsB hN hpos
          gi_upto_region 15 with (first
            | (refine wpListIn_load_row rfl 40 (.tmp 7) rfl g7 rfl 40 q.cells (0, 0) _ (HS4.out.row _ _ (by simp)) Try.underlying40 rfl size_pl ?_)
            | (refine ⟨trivial, ?_⟩; refine (callsIn_wide.2 (HCk.out _)).mono ?_; rintro e w5 ⟨rfl, hb5⟩; have HS5 := Lib.hid (HS4.out.later hb5); clear hb5))
          gi_wp2_with (first
            | (refine wpListIn_load_row rfl 40 (.tmp 7) rfl g7 rfl 40 q.cells (0, 0) _ (HS5.out.row _ _ (by simp)) Try.underlying40 rfl size_pl ?_)
            | (refine ⟨trivial, ?_⟩; refine (callsIn_wide.2 (HMn.out _)).mono ?_; rintro e w6 ⟨rfl, hb6⟩; have HS6 := Lib.hid (HS5.out.later hb6); clear hb6)
            | (refine ⟨trivial, ?_⟩; refine (callsIn_wide.2 (HAw.out _)).mono ?_; rintro e w7 ⟨rfl, hb7⟩; have HS7 := Lib.hid (HS6.out.later hb7); clear hb7; have cr : w7.cell? ⟨w.heap.size + 1 + 1, 0, none⟩ = some (.bool false) := (by rw [cell_of_row _ _ _ _ _ _ (HS7.out.row _ _ (List.mem_cons_self ..))]; rfl); have zr : w7.frozen? ⟨w.heap.size + 1 + 1, 0, none⟩ = false := frozen_of_row _ _ _ _ _ (HS7.out.row _ _ (List.mem_cons_self ..))))
          have hr : (w7.setCell ⟨w.heap.size + 1 + 1, 0, none⟩ (.bool true)).heap[w.heap.size + 1 + 1]? = some (.cells ((#[.bool false] : Array Value).setIfInBounds 0 (.bool true)) 4 (0, 0)) := heap_setCell_same _ _ _ _ _ _ (HS7.out.row _ _ (List.mem_cons_self ..))
          exact ⟨_, results_c1 Try.results4 _ _ ⟨w.heap.size + 1 + 1, 0, none⟩ (.bool true) _ rfl (by rw [cell_of_row _ _ _ _ _ _ hr]; rfl) Try.underlying4 rfl, rfl, HS7.out.below.trans (Below.ofGrown (Mk.grownM_set _ _ _ _) HS7.out.below.size (fun k hk => by cases hk; omega))⟩
theorem none_walk (w : World) (s0 s1 s2 s3 s4 s5 : Int) (sf : Option Addr) (nf cf : Nat) (fl : List Int) (hfl : fl.length = nf) (hN : Nums w sf cf fl) (a b k : Int) :
    Calls Try.prog 4 #[.agg #[.int .i64 s0, .int .i64 s1, .int .i64 s2, .int .i64 s3, .int .i64 s4, .int .i64 s5, .slice sf nf cf], .agg #[.int .i64 a, .int .i64 b, .int .i64 k]] w fun e w' => e = .returned (.bool true) ∧ Below w.heap.size w w' := callsIn_wide.1 (none_in w s0 s1 s2 s3 s4 s5 sf nf cf fl hfl hN a b k)
end Go.Proofs.Ytdffbjjiojheoaa.St
