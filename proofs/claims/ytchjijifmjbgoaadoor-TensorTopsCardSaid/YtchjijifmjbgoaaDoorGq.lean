import Derived.Test.YtchjijifmjbgoaaDoorGe
import Derived.Deep.MidRow
import Derived.StillTail
import Derived.StillTailTactics
import Derived.Deep.Quiet
import Derived.OrdersHeld
import Derived.OrdersIn
import Derived.RangeFuncNested
import Derived.Scope
namespace Go.Proofs.YtchjijifmjbgoaaDoor.Tn
open Go.ChangeShapes Go.WideShapes Go.ChangeAt Go.RowKit Go.Proofs.YtchjijifmjbgoaaDoor.Fx Go.Proofs.YtchjijifmjbgoaaDoor.Rf


section
variable {P : Program} {ops : Array Oper} {C : World → Prop} {Q : Act → Prop} {a : Act} {o : Oper} {rest : List Oper}
/-- an operation that yields one value, whatever the world of the class -/
theorem q_val (v : Value) (hw : Region.wanted o (yielded ops a.tmps) = true) (h : ∀ W, C W → (execOp a.eval o).run P W = .ok (.value v) W) (hn : wpQuiet P ops C Q rest (a.put o.dst v)) : wpQuiet P ops C Q (o :: rest) a :=
  wpQuiet_step fun K hK => by
    rw [if_pos hw]
    exact ⟨v, fun W hW => by unfold Oper.quietAt; rw [h W hW]; exact ⟨rfl, rfl⟩, hK _ hn⟩
/-- a call whose answer is one value, and that stays within the class -/
theorem q_call (f : FuncId) (args : Array Value) (v : Value) (hw : Region.wanted o (yielded ops a.tmps) = true) (h : ∀ W, C W → (execOp a.eval o).run P W = .ok (.enter f args) W)
    (hc : ∀ W, C W → Calls P f args W fun e W' => e = .returned v ∧ C W') (hn : wpQuiet P ops C Q rest (a.put o.dst v)) : wpQuiet P ops C Q (o :: rest) a :=
  wpQuiet_step fun K hK => by
    rw [if_pos hw]
    exact ⟨v, fun W hW => by unfold Oper.quietAt; rw [h W hW]; exact ⟨rfl, hc W hW⟩, hK _ hn⟩
theorem exec_load_row {W : World} (ty : TypeId) (x : Operand) (ho : o.op = .load ty x) (g : Nat) (hx : a.eval x = .pointer (some ⟨g, 0, none⟩)) (t : TypeId) (cs : Array Value) (fr : Nat × Nat) (d : TypeDesc) (hg : W.heap[g]? = some (.cells cs t fr))
    (hu : P.underlying ty = some d) (hd : (match d with | .struct _ | .array _ _ => true | _ => false) = true) (hi : (P.info? ty).map (·.size) = some cs.size) : (execOp a.eval o).run P W = .ok (.value (.agg cs)) W := by
  unfold execOp
  simp only [ho, hx, Instr.loadAt, Instr.sureAddr, Sem.run_bind, Sem.run_pure, Result.andThen_ok, run_loadVar_row W g t ty cs fr d hg hu hd hi]
theorem exec_binOp {W : World} (op : BinOp) (t rt : TypeId) (x y : Operand) (ho : o.op = .binOp op t x y rt) (vx vy v : Value) (hx : a.eval x = vx) (hy : a.eval y = vy) (hgd : (eqGuard op t x y vx vy).run P W = .ok () W) (h : (binOp op t vx vy).run P W = .ok v W) : (execOp a.eval o).run P W = .ok (.value v) W := by
  unfold execOp
  simp [ho, hx, hy, hgd, h]
end

theorem exec_call {P : Program} {a : Act} {o : Oper} {W : World} (f : FuncId) (xs : Array Operand) (ats : Array TypeId) (vs : Array Value) (ho : o.op = .call { callee := .value (.func f), args := xs, argTypes := ats }) (hx : xs.map a.eval = vs)
    (hf : (callFunc f vs).run P W = .ok (.enter f vs) W) : (execOp a.eval o).run P W = .ok (.enter f vs) W := by
  unfold execOp
  simp only [ho, resolve, hx, BigFrame.eval_func, Deferred.ofValue, Sem.run_bind, Sem.run_pure, Result.andThen_ok, invoke, Array.empty_append, Array.append_empty]
  exact hf
theorem exec_call1 {P : Program} {a : Act} {o : Oper} {W : World} (f : FuncId) (x : Operand) (ats : Array TypeId) (v : Value) (ho : o.op = .call { callee := .value (.func f), args := #[x], argTypes := ats }) (hx : a.eval x = v)
    (hf : (callFunc f #[v]).run P W = .ok (.enter f #[v]) W) : (execOp a.eval o).run P W = .ok (.enter f #[v]) W :=
  exec_call f #[x] ats #[v] ho (by simp [hx]) hf
theorem exec_call0 {P : Program} {a : Act} {o : Oper} {W : World} (f : FuncId) (ats : Array TypeId) (ho : o.op = .call { callee := .value (.func f), args := #[], argTypes := ats })
    (hf : (callFunc f #[]).run P W = .ok (.enter f #[]) W) : (execOp a.eval o).run P W = .ok (.enter f #[]) W :=
  exec_call f #[] ats #[] ho (by simp) hf
theorem cf {P : Program} {f : FuncId} {fn : Func} (hf : P.funcs[f]? = some fn) (hn : (fn.name == "runtime.NumGoroutine") = false) (hb : fn.body.isNone = false) (vs : Array Value) (W : World) : (callFunc f vs).run P W = .ok (.enter f vs) W := by
  simp only [callFunc, Sem.run_bind, run_program, Result.andThen_ok, hf, hn, hb, Bool.false_eq_true, if_false, Sem.run_pure]
theorem exec_call2 {P : Program} {a : Act} {o : Oper} {W : World} (f : FuncId) (x y : Operand) (ats : Array TypeId) (u v : Value) (ho : o.op = .call { callee := .value (.func f), args := #[x, y], argTypes := ats }) (hx : a.eval x = u) (hy : a.eval y = v)
    (hf : (callFunc f #[u, v]).run P W = .ok (.enter f #[u, v]) W) : (execOp a.eval o).run P W = .ok (.enter f #[u, v]) W :=
  exec_call f #[x, y] ats #[u, v] ho (by simp [hx, hy]) hf


/-- whoever stands between m and n is waited for by one behind it, up to n -/
def sinkFrom (ops : Array Oper) (m n : Nat) : Bool := (List.range n).all fun i => decide (i < m) || (List.range (n + 1)).any fun j => decide (i < j) && Region.waitsFor .any ops j i
theorem late_waits {ops : Array Oper} {m n : Nat} {listed : Array Bool} (hs : sinkFrom ops m n = true) (hc : Region.chainB .any ops n = true) (hn : n < ops.size) (inv : HeadInv .any ops n listed) :
    ∀ (d i : Nat), n - i = d → m ≤ i → i < n → listed.getD i true = false → ∀ t, n ≤ t → t ∉ Region.ready .any ops listed := by
  intro d
  induction d using Nat.strongRecOn with
  | _ d ih =>
    intro i hd hm hi hun t ht hr
    obtain ⟨_, ot, hot, hall⟩ := mem_ready.1 hr
    have htlt : t < ops.size := (Array.getElem?_eq_some_iff.1 hot).1
    by_cases htn : t = n
    · subst htn
      have h1 := List.all_eq_true.1 hs i (List.mem_range.2 hi)
      simp only [Bool.or_eq_true, decide_eq_true_eq] at h1
      rcases h1 with h1 | h1
      · omega
      obtain ⟨j, hj, hj2⟩ := List.any_eq_true.1 h1
      simp only [Bool.and_eq_true, decide_eq_true_eq] at hj2
      obtain ⟨oj, hoj, e, he, hb, hon⟩ := Region.waitsFor_spec hj2.2
      have hjle : j ≤ t := by have := List.mem_range.1 hj; omega
      by_cases hjt : j = t
      · subst hjt
        have : oj = ot := Option.some.inj (hoj.symm.trans hot)
        subst this
        have h2 := hall e he hb
        rw [hon, getD_both hun] at h2
        cases h2
      · cases hl : listed.getD j false with
        | true =>
          have h2 := inv.closed j oj hoj hl e he hb
          rw [hon, getD_both hun] at h2
          cases h2
        | false =>
          have hjs : j < listed.size := by rw [inv.size]; omega
          exact ih (t - j) (by omega) j rfl (by omega) (by omega) (getD_in hjs hl) t (Nat.le_refl _) hr
    · have h1 := List.all_eq_true.1 hc t (List.mem_range.2 htlt)
      simp only [Bool.or_eq_true, decide_eq_true_eq] at h1
      rcases h1 with h1 | h1
      · omega
      · obtain ⟨o', ho', e, he, hb, hon⟩ := Region.waitsFor_spec h1
        have : o' = ot := Option.some.inj (ho'.symm.trans hot)
        subst this
        have h2 := hall e he hb
        rw [hon, getD_both (inv.tail (t - 1) (by omega) (by omega))] at h2
        cases h2
/-- the first n operations come up in whatever order, each quiet in the class; those behind them wait -/
def Heads (P : Program) (ops : Array Oper) (C : World → Prop) (n : Nat) (L : Array Bool → Act → Prop) : Nat → Array Bool → Act → Prop
  | 0, listed, a => L listed a
  | f + 1, listed, a => Region.ready .any ops listed ≠ [] ∧ ∀ i ∈ Region.ready .any ops listed, i < n ∧ qOp P ops C i (Heads P ops C n L f (listed.setIfInBounds i true)) a
section
variable {P : Program} {ops : Array Oper} {C : World → Prop}
theorem heads_any {n g : Nat} {L : Array Bool → Act → Prop} {Q' : Exit → Act → World → Prop} (hL : ∀ listed a w, C w → L listed a → wpAny P .any ops Q' g listed a w) :
    ∀ (f : Nat) (listed : Array Bool) (a : Act) (w : World), C w → Heads P ops C n L f listed a → wpAny P .any ops Q' (f + g) listed a w
  | 0, listed, a, w, hw, h => by rw [Nat.zero_add]; exact hL _ _ _ hw h
  | f + 1, listed, a, w, hw, h => by
    rw [show f + 1 + g = (f + g) + 1 by omega]
    exact ⟨fun h0 => absurd h0 h.1, fun i hi => wpOp_of_qOp hw (fun a' w' hw' h' => heads_any hL f _ a' w' hw' h') (h.2 i hi).2⟩
theorem heads_first {m n i : Nat} {oi : Oper} {v : Value} {L : Array Bool → Act → Prop} (hi : ops[i]? = some oi) (hsel : ∀ (j : Nat) (o : Oper) cs b, ops[j]? = some o → o.op ≠ .select cs b)
    (hs : sinkFrom ops m n = true) (hc : Region.chainB .any ops n = true) (hn : n < ops.size) (hmi : m ≤ i) (hin : i < n) (hdone : ∀ listed a, L listed a → ∀ j ∈ Region.ready .any ops listed, n ≤ j) :
    ∀ (f : Nat) (listed : Array Bool) (a : Act), HeadInv .any ops n listed →
      (∀ j oj, ops[j]? = some oj → j ≠ i → listed.getD j true = false → (∀ e ∈ oj.after, Region.binds .any e = true → e.on ≠ i) → oi.apart ops oj = true) →
      i ∈ Region.ready .any ops listed → YieldsIn P ops C oi v a →
      Heads P ops C n L f (listed.setIfInBounds i true) (a.put oi.dst v) → Heads P ops C n L (f + 1) listed a := by
  intro f
  induction f with
  | zero =>
    intro listed a inv _ hr hy H
    have hun := (mem_ready.1 hr).1
    refine ⟨List.ne_nil_of_mem hr, fun j hj => ?_⟩
    have hjn : j < n := Nat.lt_of_not_le fun h => late_waits hs hc hn inv _ i rfl hmi hin hun j h hj
    refine ⟨hjn, ?_⟩
    by_cases hji : j = i
    · subst hji; exact hy.qOp hi H
    · exact absurd (hdone _ _ H j (ready_mono hj hji)) (by omega)
  | succ f ih =>
    intro listed a inv hfree hr hy H
    have hun := (mem_ready.1 hr).1
    refine ⟨List.ne_nil_of_mem hr, fun j hj => ?_⟩
    have hjn : j < n := Nat.lt_of_not_le fun h => late_waits hs hc hn inv _ i rfl hmi hin hun j h hj
    refine ⟨hjn, ?_⟩
    by_cases hji : j = i
    · subst hji; exact hy.qOp hi H
    · obtain ⟨hjun, oj, hoj, hall⟩ := mem_ready.1 hj
      have hnot : ∀ e ∈ oj.after, Region.binds .any e = true → e.on ≠ i := fun e he hb heq => by
        have h1 := hall e he hb
        rw [heq, getD_both hun] at h1
        cases h1
      have h2 := qOp_put hoj (hfree j oj hoj hji hjun hnot) (fun cs b => hsel i oi cs b hi) (fun cs b => hsel j oj cs b hoj) hy (H.2 j (ready_mono hj hji)).2
      refine qOp_mono (fun a' h3 => ih (listed.setIfInBounds j true) a' (inv.set hj hjn) (fun k ok hk hki hkun hno => hfree k ok hk hki ?_ hno) (ready_mono hr (Ne.symm hji)) h3.1 ?_) h2
      · by_cases hjk : j = k
        · subst hjk; exact hjun
        · rw [getD_set_ne true hjk] at hkun; exact hkun
      · rw [Array.setIfInBounds_comm _ _ hji]
        exact h3.2
theorem heads_lex {m n g : Nat} {Lq : Act → Prop} (hsel : Region.noSelect ops = true) (hs : sinkFrom ops m n = true) (hc : Region.chainB .any ops n = true) (hn : n < ops.size) :
    ∀ (l : List Oper) (k : Nat) (listed : Array Bool) (a : Act), (∀ j, j < l.length → l[j]? = ops[k + j]?) → m ≤ k → k + l.length = n → HeadInv .any ops n listed →
    Region.lexHead .any ops g l.length k listed = true → wpQuiet P ops C Lq l a →
    Heads P ops C n (fun listed' a' => Region.seqB .any ops g n listed' = true ∧ Lq a') l.length listed a
  | [], k, listed, a, _, _, hk, _, hB, h => by
    obtain rfl : k = n := by simpa using hk
    exact ⟨by simpa [Region.lexHead] using hB, h⟩
  | o :: l, k, listed, a, hl, hmk, hk, inv, hB, h => by
    have h0 : ops[k]? = some o := by simpa using (hl 0 (by simp)).symm
    simp only [List.length_cons, Region.lexHead, Bool.and_eq_true] at hB
    simp only [List.length_cons] at hk
    have hr' : k ∈ Region.ready .any ops listed := by simpa using hB.1.1
    obtain ⟨v, hy, hK⟩ := yieldsIn_of_qOp h0 (show qOp P ops C k (wpQuiet P ops C Lq l) a by unfold qOp; simp only [h0]; exact h)
    exact heads_first h0 (Region.noSelect_spec hsel) hs hc hn hmk (by omega) (fun listed' a' hL => seqB_ready hL.1) l.length listed a inv (Region.free_spec h0 hB.1.2) hr' hy
      (heads_lex hsel hs hc hn l (k + 1) _ _ (fun j hj => by have := hl (j + 1) (by simp; omega); simpa [Nat.add_assoc, Nat.add_comm 1 j] using this) (by omega) (by omega) (inv.set hr' (by omega)) hB.2 hK)

/-! ### a region whose first operations are quiet in a class of worlds, the others in one order -/
def quietTailB (ops : Array Oper) (n : Nat) : Bool :=
  Region.noSelect ops && decide (n < ops.size) && sinkFrom ops 0 n && Region.chainB .any ops n && Region.lexHead .any ops (ops.size - n) n 0 (Array.replicate ops.size false)
theorem any_quiet_tail {Q : Exit → Act → World → Prop} {a : Act} {w : World} {l : List Oper} (n : Nat) (hB : quietTailB l.toArray n = true) (hC : C { w with drawn := w.drawn + 1 })
    (h : wpQuiet P l.toArray C (fun a' => ∀ w', C w' → wpList P l.toArray Q (l.drop n) a' w') (l.take n) a) : wpAny P .any l.toArray Q l.toArray.size (Array.replicate l.toArray.size false) a { w with drawn := w.drawn + 1 } := by
  simp only [quietTailB, Bool.and_eq_true, decide_eq_true_eq] at hB
  obtain ⟨⟨⟨⟨hsel, hn⟩, hs⟩, hc⟩, hlex⟩ := hB
  have hn' : n < l.length := by simpa using hn
  have htl : (l.take n).length = n := by simp; omega
  have hdl : (l.drop n).length = l.toArray.size - n := by simp
  have inv0 : HeadInv .any l.toArray n (Array.replicate l.toArray.size false) :=
    ⟨by simp, fun j oj _ hl => (by rw [getD_replicate_false] at hl; cases hl), fun t _ ht => getD_in (by simpa using ht) (getD_replicate_false _ _)⟩
  have H := heads_lex (m := 0) (g := l.toArray.size - n) hsel hs hc hn (l.take n) 0 _ a (fun j hj => by
    have hj' : j < n := by rw [htl] at hj; exact hj
    simp [hj']) (Nat.le_refl _) (by simpa using htl) inv0 (by rw [htl]; exact hlex) h
  have K := heads_any (Q' := Q) (g := l.toArray.size - n) (fun listed a' w' hw' hL => by
    have := wpAny_of_seq (md := .any) (Q' := Q) (l.drop n) n listed a' w' (fun j => by simp [List.getElem?_drop]) (by rw [hdl]; exact hL.1) (hL.2 w' hw')
    rwa [hdl] at this) _ _ _ _ hC H
  rw [htl, show n + (l.toArray.size - n) = l.toArray.size by omega] at K
  exact K
theorem wp_region_quiet_tail {id : Nat} {Q : Exit → Act → World → Prop} {a : Act} {w : World} {l : List Oper} (n : Nat) (hm : P.follows .mixedOrders = true) (hB : quietTailB l.toArray n = true) (hC : C { w with drawn := w.drawn + 1 })
    (h : wpQuiet P l.toArray C (fun a' => ∀ w', C w' → wpList P l.toArray Q (l.drop n) a' w') (l.take n) a) : (Code.region id l.toArray true).wp P Q a w :=
  wp_region_any hm (any_quiet_tail n hB hC h)

/-! ### a first operation that only reads may come up anywhere ahead of the one that waits for it -/
theorem wp_monoQ {o : Oper} {a : Act} {w : World} {K : Act → World → Prop} {Q Q' : Exit → Act → World → Prop} (hp : ∀ ch a w, Q (.panic ch) a w → Q' (.panic ch) a w) (ho : LetsOut Q → LetsOut Q') (h : o.wp P a w K Q) : o.wp P a w K Q' := by
  unfold Oper.wp at *
  generalize (execOp a.eval o).run P w = r at *
  cases r with
  | ok n w' =>
    cases n <;> simp only [Oper.upon] at h ⊢ <;>
      first
        | exact h
        | exact Calls.mono h (fun e w'' he => by cases e <;> first | exact he | exact hp _ _ _ he | exact ho he)
  | halt x w' => cases x <;> simp only [Oper.upon] at h ⊢ <;> exact hp _ _ _ h
/-- whatever order is picked, what is numbered below c keeps S -/
def wpAnyG (P : Program) (ops : Array Oper) (Q : Exit → Act → World → Prop) (S : World → Prop) (c : Nat) : Nat → Array Bool → Act → World → Prop
  | 0, listed, a, w => Region.ready .any ops listed = [] ∧ Q .normal a w
  | f + 1, listed, a, w => (Region.ready .any ops listed = [] → Q .normal a w) ∧
    ∀ j ∈ Region.ready .any ops listed, wpOp P ops Q j (fun a' w' => (j < c → S w') ∧ wpAnyG P ops Q S c f (listed.setIfInBounds j true) a' w') a w
theorem wpAny_of_G {Q : Exit → Act → World → Prop} {S : World → Prop} {c : Nat} : ∀ (f : Nat) (listed : Array Bool) (a : Act) (w : World), wpAnyG P ops Q S c f listed a w → wpAny P .any ops Q f listed a w
  | 0, _, _, _, h => h
  | f + 1, _, _, _, h => ⟨h.1, fun i hi => wpOp_mono (fun a' w' h' => wpAny_of_G f _ a' w' h'.2) (h.2 i hi)⟩
/-- what has come up, with all that it waited for -/
structure Shutd (ops : Array Oper) (listed : Array Bool) : Prop where
  size : listed.size = ops.size
  closed : ∀ j oj, ops[j]? = some oj → listed.getD j false = true → ∀ e ∈ oj.after, Region.binds .any e = true → listed.getD e.on false = true
theorem Shutd.set {listed : Array Bool} {i : Nat} (inv : Shutd ops listed) (hi : i ∈ Region.ready .any ops listed) : Shutd ops (listed.setIfInBounds i true) := by
  obtain ⟨_, oi, hoi, hall⟩ := mem_ready.1 hi
  refine ⟨by simp [inv.size], fun j oj hj hl e he hb => ?_⟩
  by_cases hij : i = j
  · subst hij
    have : oj = oi := Option.some.inj (hj.symm.trans hoi)
    subst this
    exact getD_set_true (hall e he hb)
  · rw [getD_set_ne false hij] at hl
    exact getD_set_true (inv.closed j oj hj hl e he hb)
/-- the c-th waits for i, and whoever stands behind it for the one ahead -/
theorem late_ready {i c : Nat} (h1 : Region.waitsFor .any ops c i = true) (h2 : ∀ t, c < t → t < ops.size → Region.waitsFor .any ops t (t - 1) = true) {listed : Array Bool} (inv : Shutd ops listed) (hun : listed.getD i true = false) :
    ∀ d, (c + d) ∉ Region.ready .any ops listed ∧ (c + d < ops.size → listed.getD (c + d) true = false) := by
  have step : ∀ t k, Region.waitsFor .any ops t k = true → listed.getD k true = false → t ∉ Region.ready .any ops listed ∧ (t < ops.size → listed.getD t true = false) := by
    intro t k hw hk
    obtain ⟨ot, hot, e, he, hb, hon⟩ := Region.waitsFor_spec hw
    refine ⟨fun hr => ?_, fun ht => ?_⟩
    · obtain ⟨_, o', ho', hall⟩ := mem_ready.1 hr
      have : o' = ot := Option.some.inj (ho'.symm.trans hot)
      subst this
      have h3 := hall e he hb
      rw [hon, getD_both hk] at h3
      cases h3
    · cases hl : listed.getD t false with
      | true =>
        have h3 := inv.closed t ot hot hl e he hb
        rw [hon, getD_both hk] at h3
        cases h3
      | false => exact getD_in (by rw [inv.size]; exact ht) hl
  intro d
  induction d with
  | zero => exact step c i h1 hun
  | succ d ih =>
    by_cases ht : c + (d + 1) < ops.size
    · exact step _ (c + d) (by have := h2 (c + (d + 1)) (by omega) ht; rwa [show c + (d + 1) - 1 = c + d by omega] at this) (ih.2 (by omega))
    · exact ⟨fun hr => ht (by obtain ⟨_, o', ho', _⟩ := mem_ready.1 hr; exact (Array.getElem?_eq_some_iff.1 ho').1), fun h => absurd h ht⟩
theorem float_first {Q : Exit → Act → World → Prop} {S : World → Prop} {i c : Nat} {oi : Oper} {v : Value} (hi : ops[i]? = some oi) (hsel : ∀ (j : Nat) (o : Oper) cs b, ops[j]? = some o → o.op ≠ .select cs b)
    (hQ : ∀ ch a w, Q (.panic ch) (a.put oi.dst v) w → Q (.panic ch) a w) (hw1 : Region.waitsFor .any ops c i = true) (hw2 : ∀ t, c < t → t < ops.size → Region.waitsFor .any ops t (t - 1) = true) :
    ∀ (fuel : Nat) (listed : Array Bool) (a : Act) (w : World), Shutd ops listed →
      (∀ j oj, ops[j]? = some oj → j ≠ i → listed.getD j true = false → (∀ e ∈ oj.after, Region.binds .any e = true → e.on ≠ i) → oi.apart ops oj = true) →
      i ∈ Region.ready .any ops listed → YieldsIf P ops S oi v a → S w →
      wpAnyG P ops Q S c fuel (listed.setIfInBounds i true) (a.put oi.dst v) w → wpAny P .any ops Q (fuel + 1) listed a w := by
  intro fuel
  induction fuel with
  | zero =>
    intro listed a w inv _ hr hy hS H
    refine ⟨fun h => (by rw [h] at hr; cases hr), fun j hj => ?_⟩
    by_cases hji : j = i
    · subst hji; exact hy.wpOp hi hS H
    · have := ready_mono hj hji
      rw [H.1] at this
      cases this
  | succ fuel ih =>
    intro listed a w inv hfree hr hy hS H
    refine ⟨fun h => (by rw [h] at hr; cases hr), fun j hj => ?_⟩
    by_cases hji : j = i
    · subst hji; exact hy.wpOp hi hS (wpAny_of_G _ _ _ _ H)
    · have h1 := H.2 j (ready_mono hj hji)
      have hun := (mem_ready.1 hr).1
      have hjc : j < c := Nat.lt_of_not_le fun hle => by
        have := (late_ready hw1 hw2 inv hun (j - c)).1
        rw [show c + (j - c) = j by omega] at this
        exact this hj
      obtain ⟨hjun, oj, hoj, hall⟩ := mem_ready.1 hj
      have hnot : ∀ e ∈ oj.after, Region.binds .any e = true → e.on ≠ i := fun e he hb heq => by
        have h1 := hall e he hb
        rw [heq, getD_both hun] at h1
        cases h1
      have h2 := wpOp_putIf hoj (hfree j oj hoj hji hjun hnot) (fun cs b => hsel i oi cs b hi) (fun cs b => hsel j oj cs b hoj) hQ hy h1
      have hfree' : ∀ k ok, ops[k]? = some ok → k ≠ i → (listed.setIfInBounds j true).getD k true = false →
          (∀ e ∈ ok.after, Region.binds .any e = true → e.on ≠ i) → oi.apart ops ok = true := fun k ok hk hki hun' hno => by
        refine hfree k ok hk hki ?_ hno
        by_cases hjk : j = k
        · subst hjk; exact hjun
        · rw [getD_set_ne true hjk] at hun'; exact hun'
      refine wpOp_mono (fun a' w' h3 => ih (listed.setIfInBounds j true) a' w' (inv.set hj) hfree' (ready_mono hr (Ne.symm hji)) h3.1 (h3.2.1 hjc) ?_) h2
      rw [Array.setIfInBounds_comm _ _ hji]
      exact h3.2.2
theorem heads_anyG {n g c : Nat} {S : World → Prop} {L : Array Bool → Act → Prop} {Q' : Exit → Act → World → Prop} (hCS : ∀ w, C w → S w) (hL : ∀ listed a w, C w → L listed a → wpAnyG P ops Q' S c g listed a w) :
    ∀ (f : Nat) (listed : Array Bool) (a : Act) (w : World), C w → Heads P ops C n L f listed a → wpAnyG P ops Q' S c (f + g) listed a w
  | 0, listed, a, w, hw, h => by rw [Nat.zero_add]; exact hL _ _ _ hw h
  | f + 1, listed, a, w, hw, h => by
    rw [show f + 1 + g = (f + g) + 1 by omega]
    exact ⟨fun h0 => absurd h0 h.1, fun i hi => wpOp_of_qOp hw (fun a' w' hw' h' => ⟨fun _ => hCS _ hw', heads_anyG hCS hL f _ a' w' hw' h'⟩) (h.2 i hi).2⟩
theorem wpAnyG_of_seq {Q' : Exit → Act → World → Prop} {S : World → Prop} {c : Nat} : ∀ (l : List Oper) (k : Nat) (listed : Array Bool) (a : Act) (w : World), c ≤ k → (∀ j, l[j]? = ops[k + j]?) →
    Region.seqB .any ops l.length k listed = true → wpList P ops Q' l a w → wpAnyG P ops Q' S c l.length listed a w
  | [], _, _, _, _, _, _, hB, h => ⟨by simpa [Region.seqB] using hB, h⟩
  | o :: l, k, listed, a, w, hck, hl, hB, h => by
    have h0 : ops[k]? = some o := by simpa using (hl 0).symm
    simp only [List.length_cons, Region.seqB, Bool.and_eq_true, decide_eq_true_eq] at hB
    refine ⟨fun h1 => (by rw [hB.1] at h1; cases h1), fun i hi => ?_⟩
    rw [hB.1] at hi
    have hik : i = k := by simpa using hi
    subst hik
    have hw : wpOp P ops Q' i (wpList P ops Q' l) a w := by unfold wpOp; simp only [h0]; exact h
    exact wpOp_mono (fun a' w' h' => ⟨fun h => absurd h (by omega), wpAnyG_of_seq l (i + 1) _ a' w' (by omega) (fun j => by have := hl (j + 1); simpa [Nat.add_assoc, Nat.add_comm 1 j] using this) hB.2 h'⟩) hw
/-- behind the first one of the tail: S holds, and the others follow -/
def Mid (P : Program) (ops : Array Oper) (S : World → Prop) (Q : Exit → Act → World → Prop) (l : List Oper) : Exit → Act → World → Prop
  | .normal, a, w => S w ∧ wpList P ops Q l a w
  | _, _, _ => False
def floatB (ops : Array Oper) (n : Nat) : Bool :=
  Region.noSelect ops && decide (n + 1 < ops.size) && decide (0 < n) && sinkFrom ops 1 n && Region.chainB .any ops n && Region.waitsFor .any ops (n + 1) 0 && (Region.ready .any ops (Array.replicate ops.size false)).contains 0 &&
  Region.free .any ops (Array.replicate ops.size false) 0 && Region.lexHead .any ops (ops.size - n) (n - 1) 1 ((Array.replicate ops.size false).setIfInBounds 0 true)
theorem any_float {Q : Exit → Act → World → Prop} {S : World → Prop} {a : Act} {w : World} {o0 : Oper} {l : List Oper} (n : Nat) (v : Value) (hB : floatB (o0 :: l).toArray n = true) (hC : C { w with drawn := w.drawn + 1 }) (hCS : ∀ w, C w → S w)
    (hQ : ∀ ch a w, ¬ Q (.panic ch) a w) (on : Oper) (hon : (o0 :: l)[n]? = some on) (hy : YieldsIf P (o0 :: l).toArray S o0 v a)
    (h : wpQuiet P (o0 :: l).toArray C (fun a' => ∀ w', C w' → wpList P (o0 :: l).toArray (Mid P (o0 :: l).toArray S Q ((o0 :: l).drop (n + 1))) [on] a' w') (l.take (n - 1)) (a.put o0.dst v)) :
    wpAny P .any (o0 :: l).toArray Q (o0 :: l).toArray.size (Array.replicate (o0 :: l).toArray.size false) a { w with drawn := w.drawn + 1 } := by
  simp only [floatB, Bool.and_eq_true, decide_eq_true_eq] at hB
  obtain ⟨⟨⟨⟨⟨⟨⟨⟨hsel, hn⟩, hn0⟩, hs⟩, hc⟩, hw1⟩, hr0⟩, hf0⟩, hlex⟩ := hB
  have hsz : (o0 :: l).toArray.size = l.length + 1 := by simp
  have hn' : n < l.length := by rw [hsz] at hn; omega
  have htl : (l.take (n - 1)).length = n - 1 := by simp; omega
  have i0 : Shutd (o0 :: l).toArray (Array.replicate (o0 :: l).toArray.size false) := ⟨by simp, fun j oj _ hl => (by rw [getD_replicate_false] at hl; cases hl)⟩
  have hr0' : 0 ∈ Region.ready .any (o0 :: l).toArray (Array.replicate (o0 :: l).toArray.size false) := by simpa using hr0
  have i1 := i0.set hr0'
  have inv1 : HeadInv .any (o0 :: l).toArray n ((Array.replicate (o0 :: l).toArray.size false).setIfInBounds 0 true) :=
    ⟨i1.size, i1.closed, fun t htn ht => by rw [getD_set_ne true (by omega)]; exact getD_in (by simpa using ht) (getD_replicate_false _ _)⟩
  have H := heads_lex (m := 1) (g := (o0 :: l).toArray.size - n) hsel hs hc (by omega) (l.take (n - 1)) 1 _ _ (fun j hj => by
    have hj' : j < n - 1 := by rw [htl] at hj; exact hj
    simp [hj', Nat.add_comm 1 j]) (Nat.le_refl _) (by rw [htl]; omega) inv1 (by rw [htl]; exact hlex) h
  have K := float_first (P := P) (ops := (o0 :: l).toArray) (Q := Q) (S := S) (i := 0) (c := n + 1) (oi := o0) (v := v) (by simp) (Region.noSelect_spec hsel) (fun ch a w h => absurd h (hQ _ _ _)) hw1 (fun t ht hts => by
      have h1 := List.all_eq_true.1 hc t (List.mem_range.2 hts)
      simp only [Bool.or_eq_true, decide_eq_true_eq] at h1
      rcases h1 with h1 | h1
      · omega
      · exact h1) (n - 1 + ((o0 :: l).toArray.size - n)) _ a { w with drawn := w.drawn + 1 } i0 (Region.free_spec (by simp) hf0) hr0' hy (hCS _ hC) (by
      have K1 := heads_anyG (Q' := Q) (S := S) (c := n + 1) (g := (o0 :: l).toArray.size - n) hCS (fun listed a' w' hw' hL => by
        obtain ⟨hB1, hL2⟩ := hL
        have hg : (o0 :: l).toArray.size - n = ((o0 :: l).toArray.size - (n + 1)) + 1 := by omega
        rw [hg] at hB1 ⊢
        simp only [Region.seqB, Bool.and_eq_true, decide_eq_true_eq] at hB1
        refine ⟨fun h1 => (by rw [hB1.1] at h1; cases h1), fun j hj => ?_⟩
        rw [hB1.1] at hj
        obtain rfl : j = n := by simpa using hj
        have hon' : (o0 :: l).toArray[j]? = some on := by simpa using hon
        have hdl : ((o0 :: l).drop (j + 1)).length = (o0 :: l).toArray.size - (j + 1) := by simp
        have fin : ∀ a'' w'', (S w'' ∧ wpList P (o0 :: l).toArray Q ((o0 :: l).drop (j + 1)) a'' w'') → (j < j + 1 → S w'') ∧ wpAnyG P (o0 :: l).toArray Q S (j + 1) ((o0 :: l).toArray.size - (j + 1)) (listed.setIfInBounds j true) a'' w'' := by
          intro a'' w'' hm
          refine ⟨fun _ => hm.1, ?_⟩
          have := wpAnyG_of_seq (P := P) (ops := (o0 :: l).toArray) (Q' := Q) (S := S) (c := j + 1) ((o0 :: l).drop (j + 1)) (j + 1) (listed.setIfInBounds j true) a'' w'' (Nat.le_refl _) (fun k => by rw [List.getElem?_drop]; simp) (by rw [hdl]; exact hB1.2) hm.2
          rwa [hdl] at this
        have hw := hL2 w' hw'
        unfold wpOp
        simp only [hon']
        simp only [wpList] at hw
        split
        · rename_i hwd
          simp only [hwd, if_true] at hw
          rcases hw with hw | ⟨_, _, _, hw⟩
          · refine .inl (wp_monoQ (fun ch a w h => h.elim) (fun ⟨_, _, h⟩ => h.elim) (Oper.wp_mono (fun a'' w'' hm => fin a'' w'' hm) hw))
          · exact hw.elim
        · rename_i hwd
          simp only [hwd] at hw
          exact fin _ _ hw) _ _ _ _ hC H
      rwa [htl] at K1)
  rwa [show n - 1 + ((o0 :: l).toArray.size - n) + 1 = (o0 :: l).toArray.size by omega] at K
theorem wp_region_float {id : Nat} {Q : Exit → Act → World → Prop} {S : World → Prop} {a : Act} {w : World} {o0 : Oper} {l : List Oper} (n : Nat) (v : Value) (hm : P.follows .mixedOrders = true) (hB : floatB (o0 :: l).toArray n = true) (hC : C { w with drawn := w.drawn + 1 }) (hCS : ∀ w, C w → S w)
    (hQ : ∀ ch a w, ¬ Q (.panic ch) a w) (on : Oper) (hon : (o0 :: l)[n]? = some on) (hy : YieldsIf P (o0 :: l).toArray S o0 v a)
    (h : wpQuiet P (o0 :: l).toArray C (fun a' => ∀ w', C w' → wpList P (o0 :: l).toArray (Mid P (o0 :: l).toArray S Q ((o0 :: l).drop (n + 1))) [on] a' w') (l.take (n - 1)) (a.put o0.dst v)) :
    (Code.region id (o0 :: l).toArray true).wp P Q a w := wp_region_any hm (any_float n v hB hC hCS hQ on hon hy h)

/-! ### the same within a round of a loop over a function -/
def noDefer (ops : Array Oper) : Bool := ops.all fun o => match o.op with | .defer _ => false | _ => true
theorem opIn_of_op {o : Oper} {a : Act} {w : World} {K : Act → World → Prop} {Q : Exit → Act → World → Prop} {lp n : Nat} (hd : ∀ c, o.op ≠ .defer c) (h : o.wp P a w K Q) : o.wpIn (Fence.wide.inRound lp) n P a w K Q := by
  refine ⟨fun f _ => trivial, ?_⟩
  rw [show (Fence.wide.inRound lp).round = some lp from rfl, Oper.semAt_eq _ _ _ hd]
  unfold Oper.wp at h
  generalize (execOp a.eval o).run P w = r at *
  cases r with
  | ok x w' =>
    cases x <;> simp only [Oper.upon, Oper.uponIn] at h ⊢ <;>
      first
        | exact h
        | exact ⟨fun e => by simp [Fence.wide] at e, CallsIn.inRound lp (callsIn_wide.2 h)⟩
        | exact ⟨fun e => by simp [Fence.wide] at e, fun c cs _ => let ⟨v, w', r, s⟩ := h c cs; ⟨v, w', r, stepsIn_wide.2 s⟩⟩
  | halt x w' => cases x <;> simp only [Oper.upon, Oper.uponIn] at h ⊢ <;> exact h
theorem anyIn_of_any {Q : Exit → Act → World → Prop} {lp n : Nat} (hd : noDefer ops = true) (hl : ¬ LetsOut Q) : ∀ (f : Nat) (listed : Array Bool) (a : Act) (w : World), wpAny P .any ops Q f listed a w → wpAnyIn (Fence.wide.inRound lp) n P .any ops Q f listed a w
  | 0, _, _, _, h => h
  | f + 1, _, _, _, h => ⟨h.1, fun i hi => by
    have h2 := wpOp_mono (fun a' w' h' => anyIn_of_any (lp := lp) (n := n) hd hl f _ a' w' h') (h.2 i hi)
    unfold wpOp at h2
    unfold wpOpIn
    split
    · rename_i ho; simp only [ho] at h2; exact h2
    · rename_i o ho
      simp only [ho] at h2
      have hdo : ∀ c, o.op ≠ .defer c := fun c e => by
        have h3 := (Array.all_eq_true_iff_forall_mem.1 hd) o (Array.mem_of_getElem? ho)
        simp only [e] at h3
        cases h3
      split
      · rename_i hw
        simp only [hw, if_true] at h2
        rcases h2 with h2 | ⟨_, h2⟩
        · exact opIn_of_op hdo h2
        · exact absurd h2 hl
      · rename_i hw
        simp only [hw] at h2
        exact ⟨fun f _ => trivial, h2⟩⟩
theorem wpIn_region_quiet_tail {id lp m : Nat} {Q : Exit → Act → World → Prop} {a : Act} {w : World} {l : List Oper} (n : Nat) (hm : P.follows .mixedOrders = true) (hd : noDefer l.toArray = true) (hl : ¬ LetsOut Q) (hB : quietTailB l.toArray n = true) (hC : C { w with drawn := w.drawn + 1 })
    (h : wpQuiet P l.toArray C (fun a' => ∀ w', C w' → wpList P l.toArray Q (l.drop n) a' w') (l.take n) a) : (Code.region id l.toArray true).wpIn (Fence.wide.inRound lp) m P Q a w :=
  wpIn_region_any hm (anyIn_of_any hd hl _ _ _ _ (any_quiet_tail n hB hC h))
theorem wpIn_region_float {id lp m : Nat} {Q : Exit → Act → World → Prop} {S : World → Prop} {a : Act} {w : World} {o0 : Oper} {l : List Oper} (n : Nat) (v : Value) (hm : P.follows .mixedOrders = true) (hd : noDefer (o0 :: l).toArray = true) (hl : ¬ LetsOut Q) (hB : floatB (o0 :: l).toArray n = true) (hC : C { w with drawn := w.drawn + 1 }) (hCS : ∀ w, C w → S w)
    (hQ : ∀ ch a w, ¬ Q (.panic ch) a w) (on : Oper) (hon : (o0 :: l)[n]? = some on) (hy : YieldsIf P (o0 :: l).toArray S o0 v a)
    (h : wpQuiet P (o0 :: l).toArray C (fun a' => ∀ w', C w' → wpList P (o0 :: l).toArray (Mid P (o0 :: l).toArray S Q ((o0 :: l).drop (n + 1))) [on] a' w') (l.take (n - 1)) (a.put o0.dst v)) :
    (Code.region id (o0 :: l).toArray true).wpIn (Fence.wide.inRound lp) m P Q a w :=
  wpIn_region_any hm (anyIn_of_any hd hl _ _ _ _ (any_float n v hB hC hCS hQ on hon hy h))
end
/-! ### a scope through which the run goes without a goto, inside a fence -/
section
variable {P : Program} {F : Fence} {n : Nat} {b : Frame} {a : Act} {k : List Item} {cs : List Frame} {w : World} {Q : Exit → Act → World → Prop}
theorem stepR_scope {c : Code} : step P (lone (b.atR a (.code (.scope c) :: k)) cs w) = .next (lone (b.atR a (.code c :: .inScope c :: k)) cs w) :=
  step_lone_go (by simp [stepG, stepG.exec, Frame.atR])
theorem stepR_inScope {c : Code} : step P (lone (b.atR a (.inScope c :: k)) cs w) = .next (lone (b.atR a k) cs w) :=
  step_lone_go (by simp [stepG, stepG.exec, Frame.atR])
theorem wpIn_scope_straight {c : Code} (h : c.wpIn F n P (Exit.noGoto Q) a w) : (Code.scope c).wpIn F n P Q a w := by
  intro b k cs hro hb hr
  have h0 : (lone (b.atR a (.code (.scope c) :: k)) cs w).fenced P F := fenced_calm hb hr rfl
  obtain ⟨e, a₁, w₁, hq, harr⟩ := h b (.inScope c :: k) cs hro hb hr
  have hx : ∀ id, exitTo id (.inScope c :: k) = exitTo id k := fun id => by simp [exitTo]
  cases e with
  | normal => exact ⟨.normal, a₁, w₁, hq, .head h0 stepR_scope (StepsIn.trans harr (.one (fenced_calm hb hr rfl) stepR_inScope))⟩
  | exit id =>
    exact ⟨.exit id, a₁, w₁, hq, fun k' hk => .head h0 stepR_scope (harr.1 k' (by rw [hx]; exact hk)),
      fun hr' hk => let ⟨k₁, h1, h2⟩ := harr.2 hr' (by rw [hx]; exact hk); ⟨k₁, h1, .head h0 stepR_scope h2⟩⟩
  | goto l => exact hq.elim
  | ret => exact ⟨_, a₁, w₁, hq, .of_steps (.one h0 stepR_scope) harr⟩
  | panic ch => exact ⟨_, a₁, w₁, hq, .of_steps (.one h0 stepR_scope) harr⟩
  | outgrown => exact ⟨_, a₁, w₁, hq, .of_steps (.one h0 stepR_scope) harr⟩
end


/-! ### a region whose operations come up in whatever order, each told by what it yields -/
/-- what an operation yields -/
def Gives (P : Program) (o : Oper) (a : Act) (w : World) (G : Value → World → Prop) : Prop :=
  match (execOp a.eval o).run P w with
  | .ok (.value v) w' => G v w'
  | .ok .skip w' => G undef w'
  | .ok (.enter f args) w' => Calls P f args w' fun e w'' => ∃ v, e = .returned v ∧ G v w''
  | _ => False
theorem gives_val {P : Program} {o : Oper} {a : Act} {w : World} {G : Value → World → Prop} (v : Value) (w' : World) (h : (execOp a.eval o).run P w = .ok (.value v) w') (hG : G v w') : Gives P o a w G := by unfold Gives; rw [h]; exact hG
theorem gives_call {P : Program} {o : Oper} {a : Act} {w : World} {G : Value → World → Prop} (f : FuncId) (args : Array Value) (h : (execOp a.eval o).run P w = .ok (.enter f args) w) (hG : Calls P f args w fun e w'' => ∃ v, e = .returned v ∧ G v w'') : Gives P o a w G := by unfold Gives; rw [h]; exact hG
theorem wp_of_gives {P : Program} {o : Oper} {a : Act} {w : World} {G : Value → World → Prop} {K : Act → World → Prop} {Q : Exit → Act → World → Prop} (h : Gives P o a w G) (hk : ∀ v w', G v w' → K (a.put o.dst v) w') : o.wp P a w K Q := by
  unfold Gives at h
  unfold Oper.wp
  generalize (execOp a.eval o).run P w = r at *
  cases r with
  | ok x w' =>
    cases x <;> simp only [Oper.upon] at h ⊢
    case value v => exact hk _ _ h
    case skip => exact hk _ _ h
    case enter f args => exact h.mono fun e w'' ⟨v, e1, hg⟩ => by subst e1; exact hk _ _ hg
  | halt x w' => exact h.elim
section
variable {P : Program} {ops : Array Oper} {C : World → Prop} {Le : World → World → Prop} {Φ : (Nat → Value) → Nat → World → Value → Prop}
/-- each one's word, told over the frame in which all those ahead of it have yielded -/
def specAll (P : Program) (ops : Array Oper) (C : World → Prop) (Le : World → World → Prop) (Φ : (Nat → Value) → Nat → World → Value → Prop) (u : Nat → Value) : List Oper → Nat → Act → Prop
  | [], _, _ => True
  | o :: l, k, b => (∀ w, C w → (∀ e ∈ o.after.toList, Region.binds .any e = true → Φ u e.on w (u e.on)) → Region.wanted o (yielded ops b.tmps) = true ∧ Gives P o b w (fun v w' => C w' ∧ Le w w' ∧ Φ u k w' v)) ∧ specAll P ops C Le Φ u l (k + 1) (b.put o.dst (u k))
theorem spec_cons {u : Nat → Value} {o : Oper} {l : List Oper} {k : Nat} {b : Act} (h1 : ∀ w, C w → (∀ e ∈ o.after.toList, Region.binds .any e = true → Φ u e.on w (u e.on)) → Region.wanted o (yielded ops b.tmps) = true ∧ Gives P o b w (fun v w' => C w' ∧ Le w w' ∧ Φ u k w' v)) (h2 : specAll P ops C Le Φ u l (k + 1) (b.put o.dst (u k))) :
    specAll P ops C Le Φ u (o :: l) k b := ⟨h1, h2⟩
theorem spec_nil {u : Nat → Value} {k : Nat} {b : Act} : specAll P ops C Le Φ u [] k b := trivial
def putAll (u : Nat → Value) : List Oper → Nat → Act → Act
  | [], _, a => a
  | o :: l, k, a => putAll u l (k + 1) (a.put o.dst (u k))
theorem specAll_at {u : Nat → Value} : ∀ (l : List Oper) (k : Nat) (b : Act) (i : Nat) (o : Oper), specAll P ops C Le Φ u l k b → l[i]? = some o →
    ∀ w, C w → (∀ e ∈ o.after.toList, Region.binds .any e = true → Φ u e.on w (u e.on)) → Region.wanted o (yielded ops (putAll u (l.take i) k b).tmps) = true ∧ Gives P o (putAll u (l.take i) k b) w (fun v w' => C w' ∧ Le w w' ∧ Φ u (k + i) w' v)
  | [], _, _, _, _, _, h => by simp at h
  | o :: l, k, b, 0, o', hs, h => by
    obtain rfl : o = o' := by simpa using h
    exact hs.1
  | o :: l, k, b, i + 1, o', hs, h => by
    have := specAll_at l (k + 1) _ i o' hs.2 (by simpa using h)
    rw [show k + (i + 1) = k + 1 + i by omega]
    exact this
theorem put_getD (a : Act) (dst : Option Tmp) (v : Value) (t : Tmp) : (a.put dst v).tmps.getD t undef = if dst = some t ∧ t < a.tmps.size then v else a.tmps.getD t undef := by
  cases dst with
  | none => simp [Act.put]
  | some d =>
    simp only [Act.put, Option.some.injEq]
    by_cases hd : d = t
    · subst hd
      by_cases hl : d < a.tmps.size
      · rw [if_pos ⟨rfl, hl⟩]; simp [Array.getD, hl]
      · rw [if_neg (fun h => hl h.2)]; simp [Array.getD, hl]
    · rw [if_neg (fun h => hd h.1)]
      simp [Array.getElem?_setIfInBounds_ne hd]
theorem put_size (a : Act) (dst : Option Tmp) (v : Value) : (a.put dst v).tmps.size = a.tmps.size := by cases dst <;> simp [Act.put]
theorem put_defers' (a : Act) (dst : Option Tmp) (v : Value) : (a.put dst v).defers = a.defers := by cases dst <;> simp [Act.put]
theorem putAll_size (u : Nat → Value) : ∀ (l : List Oper) (k : Nat) (a : Act), (putAll u l k a).tmps.size = a.tmps.size ∧ (putAll u l k a).defers = a.defers
  | [], _, _ => ⟨rfl, rfl⟩
  | o :: l, k, a => by
    have := putAll_size u l (k + 1) (a.put o.dst (u k))
    exact ⟨this.1.trans (put_size _ _ _), this.2.trans (put_defers' _ _ _)⟩
/-- a slot that nobody of l writes -/
theorem putAll_other (u : Nat → Value) (t : Tmp) : ∀ (l : List Oper) (k : Nat) (a : Act), (∀ o ∈ l, o.dst ≠ some t) → (putAll u l k a).tmps.getD t undef = a.tmps.getD t undef
  | [], _, _, _ => rfl
  | o :: l, k, a, h => by
    rw [putAll, putAll_other u t l (k + 1) _ (fun o ho => h o (by simp [ho])), put_getD, if_neg (fun hh => h o (by simp) hh.1)]
/-- a slot that the j-th one writes, and none behind it -/
theorem putAll_same (u : Nat → Value) (t : Tmp) : ∀ (l : List Oper) (k : Nat) (a : Act) (j : Nat) (o : Oper), l[j]? = some o → o.dst = some t → t < a.tmps.size → (∀ i oi, l[i]? = some oi → j < i → oi.dst ≠ some t) → (putAll u l k a).tmps.getD t undef = u (k + j)
  | [], _, _, _, _, h, _, _, _ => by simp at h
  | o :: l, k, a, 0, o', h, hd, ht, hn => by
    obtain rfl : o = o' := by simpa using h
    rw [putAll, putAll_other u t l (k + 1) _ (fun x hx => by
      obtain ⟨i, hi⟩ := List.getElem?_of_mem hx
      exact hn (i + 1) x (by simpa using hi) (by omega)), put_getD, if_pos ⟨hd, ht⟩]
    rfl
  | o :: l, k, a, j + 1, o', h, hd, ht, hn => by
    rw [putAll, putAll_same u t l (k + 1) _ j o' (by simpa using h) hd (by rw [put_size]; exact ht) (fun i oi hi hj => hn (i + 1) oi (by simpa using hi) (by omega)), show k + 1 + j = k + (j + 1) by omega]

/-- the region's own shape: no slot is written twice among the first n; whoever looks at a slot waits for who writes it, who stands ahead of it -/
def specB (ops : Array Oper) (n : Nat) : Bool :=
  Region.noSelect ops && decide (n < ops.size) && sinkFrom ops 0 n && Region.chainB .any ops n &&
  ((List.range n).all fun i => (List.range n).all fun j => decide (i = j) || match ops[i]?, ops[j]? with | some oi, some oj => !(oi.dst.isSome && oi.dst == oj.dst) | _, _ => false) &&
  ((List.range n).all fun i => match ops[i]? with
    | some oi => (oi.looksAt ops).all fun t => (List.range ops.size).all fun j => match ops[j]? with | some oj => oj.dst != some t || (decide (j < i) && Region.waitsFor .any ops i j) | none => false
    | none => false) &&
  ((List.range n).all fun i => match ops[i]? with | some oi => oi.after.all fun e => !Region.binds .any e || decide (e.on < i) | none => false) &&
  Region.seqB .any ops (ops.size - n) n ((List.range n).foldl (fun l i => l.setIfInBounds i true) (Array.replicate ops.size false))
/-- how it stands when those listed have come up -/
structure SpecInv (P : Program) (ops : Array Oper) (C : World → Prop) (Φ : (Nat → Value) → Nat → World → Value → Prop) (a0 : Act) (u : Nat → Value) (listed : Array Bool) (a : Act) (w : World) : Prop where
  world : C w
  size : a.tmps.size = a0.tmps.size
  defers : a.defers = a0.defers
  val : ∀ j oj d, ops[j]? = some oj → listed.getD j false = true → oj.dst = some d → d < a0.tmps.size → a.tmps.getD d undef = u j
  word : ∀ j, listed.getD j false = true → Φ u j w (u j)
  rest : ∀ t, (∀ j oj, ops[j]? = some oj → listed.getD j false = true → oj.dst ≠ some t) → a.tmps.getD t undef = a0.tmps.getD t undef
/-- how many of the first k have not come up -/
def cntU (listed : Array Bool) : Nat → Nat
  | 0 => 0
  | k + 1 => cntU listed k + if listed.getD k true = true then 0 else 1
theorem cntU_far {listed : Array Bool} {i : Nat} : ∀ k, k ≤ i → cntU (listed.setIfInBounds i true) k = cntU listed k
  | 0, _ => rfl
  | k + 1, h => by rw [cntU, cntU, cntU_far k (by omega), getD_set_ne true (by omega)]
theorem cntU_set {listed : Array Bool} {i : Nat} (hun : listed.getD i true = false) : ∀ k, i < k → cntU listed k = cntU (listed.setIfInBounds i true) k + 1
  | 0, h => absurd h (by omega)
  | k + 1, h => by
    rw [cntU, cntU]
    by_cases hik : i = k
    · subst hik
      rw [cntU_far i (Nat.le_refl _), hun]
      have : (listed.setIfInBounds i true).getD i true = true := by
        rw [Array.getD_eq_getD_getElem?, Array.getElem?_setIfInBounds]
        simp
        split <;> rfl
      rw [this]
      simp
    · rw [cntU_set hun k (by omega), getD_set_ne true hik]
      omega
theorem cntU_zero {listed : Array Bool} : ∀ k, cntU listed k = 0 → ∀ j, j < k → listed.getD j true = true
  | 0, _, _, h => absurd h (by omega)
  | k + 1, h, j, hj => by
    rw [cntU] at h
    by_cases hk : listed.getD k true = true
    · by_cases hjk : j = k
      · subst hjk; exact hk
      · exact cntU_zero k (by omega) j (by omega)
    · rw [if_neg hk] at h; omega
theorem cntU_least {listed : Array Bool} : ∀ k, cntU listed k ≠ 0 → ∃ j, j < k ∧ listed.getD j true = false ∧ ∀ i, i < j → listed.getD i true = true
  | 0, h => absurd rfl h
  | k + 1, h => by
    by_cases hk : cntU listed k = 0
    · refine ⟨k, by omega, ?_, cntU_zero k hk⟩
      rw [cntU, hk] at h
      by_cases hh : listed.getD k true = true
      · rw [if_pos hh] at h; omega
      · simpa using hh
    · obtain ⟨j, h1, h2, h3⟩ := cntU_least k hk
      exact ⟨j, by omega, h2, h3⟩
theorem fold_get (N : Nat) : ∀ (n j : Nat), n ≤ N → (((List.range n).foldl (fun l i => l.setIfInBounds i true) (Array.replicate N false)).size = N ∧ ∀ d, j < N → ((List.range n).foldl (fun l i => l.setIfInBounds i true) (Array.replicate N false)).getD j d = decide (j < n))
  | 0, j, _ => ⟨by simp, fun d hj => by simp [hj]⟩
  | n + 1, j, h => by
    obtain ⟨h1, h2⟩ := fold_get N n j (by omega)
    rw [List.range_succ, List.foldl_append]
    refine ⟨by simp [h1], fun d hj => ?_⟩
    simp only [List.foldl_cons, List.foldl_nil]
    by_cases hjn : n = j
    · subst hjn
      rw [Array.getD_eq_getD_getElem?, Array.getElem?_setIfInBounds]
      simp [h1, hj]
    · rw [getD_set_ne d hjn, h2 d hj]
      congr 1
      apply propext
      omega
theorem get_of_getD {x y : Array Value} {t : Nat} (hs : x.size = y.size) (h : x.getD t undef = y.getD t undef) : (some t).bind (fun k => x[k]?) = (some t).bind (fun k => y[k]?) := by
  simp only [Option.bind_some]
  by_cases ht : t < x.size
  · have ht' : t < y.size := by omega
    simp only [Array.getD, ht, ht', dif_pos] at h
    rw [Array.getElem?_eq_getElem ht, Array.getElem?_eq_getElem ht']
    exact congrArg some h
  · rw [Array.getElem?_eq_none (by omega), Array.getElem?_eq_none (by omega)]
theorem getD_agree {listed : Array Bool} {N j : Nat} (hs : listed.size = N) (hj : j < N) (d e : Bool) : listed.getD j d = listed.getD j e := by simp [Array.getD, hs, hj]
theorem spec_any {Q : Exit → Act → World → Prop} {a0 : Act} {n : Nat} (hB : specB ops n = true) (hU : ∀ (u u' : Nat → Value) (j : Nat) w v, (∀ oj, ops[j]? = some oj → ∀ e ∈ oj.after, Region.binds .any e = true → u e.on = u' e.on) → Φ u j w v → Φ u' j w v) (hLe : ∀ u j w w' v, Le w w' → Φ u j w v → Φ u j w' v) (Ψ : Nat → Value → Prop) (hΨ : ∀ u j w v, Φ u j w v → Ψ j v) (h : ∀ u, (∀ j, Ψ j (u j)) → specAll P ops C Le Φ u (ops.toList.take n) 0 a0)
    (hend : ∀ u a w, (∀ j, Ψ j (u j)) → C w → (∀ j, j < n → Φ u j w (u j)) → a = putAll u (ops.toList.take n) 0 a0 → wpList P ops Q (ops.toList.drop n) a w) :
    ∀ (f : Nat) (listed : Array Bool) (a : Act) (w : World) (u : Nat → Value), (∀ j, Ψ j (u j)) → HeadInv .any ops n listed → cntU listed n = f → SpecInv P ops C Φ a0 u listed a w → wpAny P .any ops Q (f + (ops.size - n)) listed a w := by
  simp only [specB, Bool.and_eq_true, decide_eq_true_eq] at hB
  obtain ⟨⟨⟨⟨⟨⟨⟨hsel, hn⟩, hs⟩, hc⟩, hdist⟩, hlook⟩, hdep⟩, hseq⟩ := hB
  have hdep' : ∀ i oi, i < n → ops[i]? = some oi → ∀ e ∈ oi.after, Region.binds .any e = true → e.on < i := fun i oi hi hoi e he hb => by
    have h1 := List.all_eq_true.1 hdep i (List.mem_range.2 hi)
    simp only [hoi] at h1
    have h2 := Array.all_eq_true_iff_forall_mem.1 h1 e he
    rw [hb] at h2
    simpa using h2
  have hdist' : ∀ i j oi oj d, i < n → j < n → i ≠ j → ops[i]? = some oi → ops[j]? = some oj → oi.dst = some d → oj.dst ≠ some d := fun i j oi oj d hi hj hij hoi hoj hd hd2 => by
    have h1 := List.all_eq_true.1 (List.all_eq_true.1 hdist i (List.mem_range.2 hi)) j (List.mem_range.2 hj)
    simp [hij, hoi, hoj, hd, hd2] at h1
  have hlook' : ∀ i j oi oj t, i < n → ops[i]? = some oi → ops[j]? = some oj → t ∈ oi.looksAt ops → oj.dst = some t → j < i ∧ Region.waitsFor .any ops i j = true := fun i j oi oj t hi hoi hoj ht hd => by
    have h1 := List.all_eq_true.1 hlook i (List.mem_range.2 hi)
    simp only [hoi] at h1
    have h2 := List.all_eq_true.1 (List.all_eq_true.1 h1 t ht) j (List.mem_range.2 (Array.getElem?_eq_some_iff.1 hoj).1)
    simp only [hoj, hd] at h2
    simpa using h2
  intro f
  induction f with
  | zero =>
    intro listed a w u hu inv hcnt hi
    have hall := cntU_zero n hcnt
    have hlist : listed = (List.range n).foldl (fun l i => l.setIfInBounds i true) (Array.replicate ops.size false) := by
      apply Array.ext
      · rw [inv.size, (fold_get ops.size n 0 (by omega)).1]
      · intro j h1 h2
        rw [inv.size] at h1
        have e1 : listed[j] = listed.getD j true := by simp [Array.getD, inv.size, h1]
        have e2 := (fold_get ops.size n j (by omega)).2 true h1
        have e3 : ((List.range n).foldl (fun l i => l.setIfInBounds i true) (Array.replicate ops.size false))[j] = ((List.range n).foldl (fun l i => l.setIfInBounds i true) (Array.replicate ops.size false)).getD j true := by simp [Array.getD, h2]
        rw [e1, e3, e2]
        by_cases hj : j < n
        · rw [hall j hj]; simp [hj]
        · rw [inv.tail j (by omega) h1]; simp [hj]
    have htake : ∀ j oj, ops[j]? = some oj → j < n → (ops.toList.take n)[j]? = some oj := fun j oj hoj hj => by
      rw [List.getElem?_take, if_pos hj, Array.getElem?_toList]; exact hoj
    have hput : a = putAll u (ops.toList.take n) 0 a0 := by
      obtain ⟨p1, p2⟩ := putAll_size u (ops.toList.take n) 0 a0
      have ht : a.tmps = (putAll u (ops.toList.take n) 0 a0).tmps := by
        apply Array.ext
        · rw [hi.size, p1]
        · intro t h1 h2
          have e1 : a.tmps[t] = a.tmps.getD t undef := by simp [Array.getD, h1]
          have e2 : (putAll u (ops.toList.take n) 0 a0).tmps[t] = (putAll u (ops.toList.take n) 0 a0).tmps.getD t undef := by simp [Array.getD, h2]
          rw [e1, e2]
          rw [hi.size] at h1
          by_cases hw : ∃ j oj, j < n ∧ ops[j]? = some oj ∧ oj.dst = some t
          · obtain ⟨j, oj, hj, hoj, hd⟩ := hw
            rw [hi.val j oj t hoj (by rw [getD_agree inv.size (by omega) false true]; exact hall j hj) hd h1, putAll_same u t _ 0 a0 j oj (htake j oj hoj hj) hd h1 (fun i oi hi2 hji => by
              rw [List.getElem?_take] at hi2
              split at hi2
              · rename_i hin
                rw [Array.getElem?_toList] at hi2
                exact hdist' j i oj oi t hj hin (by omega) hoj hi2 hd
              · cases hi2), Nat.zero_add]
          · rw [hi.rest t (fun j oj hoj hl hd => by
              by_cases hj : j < n
              · exact hw ⟨j, oj, hj, hoj, hd⟩
              · have := inv.tail j (by omega) (Array.getElem?_eq_some_iff.1 hoj).1
                rw [getD_both this] at hl
                cases hl), putAll_other u t _ 0 a0 (fun o ho hd => by
              obtain ⟨j, hj⟩ := List.getElem?_of_mem ho
              rw [List.getElem?_take] at hj
              split at hj
              · rename_i hjn
                rw [Array.getElem?_toList] at hj
                exact hw ⟨j, o, hjn, hj, hd⟩
              · cases hj)]
      have hdd : a.defers = (putAll u (ops.toList.take n) 0 a0).defers := by rw [hi.defers, p2]
      cases a
      cases hp : putAll u (ops.toList.take n) 0 a0
      rw [hp] at ht hdd
      simp only at ht hdd
      rw [ht, hdd]
    have hdl : (ops.toList.drop n).length = ops.size - n := by simp
    have := wpAny_of_seq (md := .any) (Q' := Q) (ops.toList.drop n) n listed a w (fun j => by rw [List.getElem?_drop, Array.getElem?_toList]) (by rw [hdl, hlist]; exact hseq)
      (hend u a w hu hi.world (fun j hj => hi.word j (by rw [getD_agree inv.size (by omega) false true]; exact hall j hj)) hput)
    rw [hdl] at this
    rw [Nat.zero_add]
    exact this
  | succ f ih =>
    intro listed a w u hu inv hcnt hi
    obtain ⟨m, hm, hmun, hmall⟩ := cntU_least n (by rw [hcnt]; omega)
    have hready : m ∈ Region.ready .any ops listed := by
      rw [mem_ready]
      obtain ⟨om, hom⟩ : ∃ om, ops[m]? = some om := ⟨_, Array.getElem?_eq_getElem (by omega)⟩
      refine ⟨hmun, om, hom, fun e he hb => ?_⟩
      have h1 := hdep' m om hm hom e he hb
      rw [getD_agree inv.size (by omega) false true]
      exact hmall _ h1
    rw [show f + 1 + (ops.size - n) = (f + (ops.size - n)) + 1 by omega]
    refine ⟨fun h0 => absurd h0 (List.ne_nil_of_mem hready), fun i hir => ?_⟩
    have hin : i < n := Nat.lt_of_not_le fun hge => late_waits hs hc hn inv _ m rfl (Nat.zero_le _) hm hmun i hge hir
    obtain ⟨hun, oi, hoi, hall⟩ := mem_ready.1 hir
    have htk : (ops.toList.take n)[i]? = some oi := by rw [List.getElem?_take, if_pos hin, Array.getElem?_toList]; exact hoi
    obtain ⟨hwant, hgives⟩ := specAll_at (ops.toList.take n) 0 a0 i oi (h u hu) htk w hi.world (fun e he hb => hi.word _ (hall e (by simpa using he) hb))
    -- what it looks at reads the same in both frames
    have hagree : ∀ t ∈ oi.looksAt ops, a.tmps.getD t undef = (putAll u ((ops.toList.take n).take i) 0 a0).tmps.getD t undef := by
      intro t ht
      obtain ⟨p1, _⟩ := putAll_size u ((ops.toList.take n).take i) 0 a0
      by_cases hts : t < a0.tmps.size
      · by_cases hw : ∃ (j : Nat) (oj : Oper), ops[j]? = some oj ∧ oj.dst = some t
        · obtain ⟨j, oj, hoj, hd⟩ := hw
          obtain ⟨hji, hwt⟩ := hlook' i j oi oj t hin hoi hoj ht hd
          obtain ⟨o2, ho2, e, he, hb, hon⟩ := Region.waitsFor_spec hwt
          obtain rfl : o2 = oi := Option.some.inj (ho2.symm.trans hoi)
          have hl := hall e he hb
          rw [hon] at hl
          rw [hi.val j oj t hoj hl hd hts, putAll_same u t _ 0 a0 j oj (by rw [List.getElem?_take, if_pos hji, List.getElem?_take, if_pos (by omega), Array.getElem?_toList]; exact hoj) hd hts (fun k ok hk hjk => by
            rw [List.getElem?_take] at hk
            split at hk
            · rw [List.getElem?_take] at hk
              split at hk
              · rename_i hkn
                rw [Array.getElem?_toList] at hk
                exact hdist' j k oj ok t (by omega) hkn (by omega) hoj hk hd
              · cases hk
            · cases hk), Nat.zero_add]
        · rw [hi.rest t (fun j oj hoj _ hd => hw ⟨j, oj, hoj, hd⟩), putAll_other u t _ 0 a0 (fun o ho hd => by
            obtain ⟨j, hj⟩ := List.getElem?_of_mem (List.mem_of_mem_take (List.mem_of_mem_take ho))
            rw [Array.getElem?_toList] at hj
            exact hw ⟨j, o, hj, hd⟩)]
      · simp [Array.getD, hi.size, p1, hts]
    have heval : ∀ x ∈ oi.op.operands, a.eval x = (putAll u ((ops.toList.take n).take i) 0 a0).eval x := by
      intro x hx
      cases x with
      | tmp t => exact hagree t (List.mem_append_left _ (List.mem_filterMap.2 ⟨.tmp t, by simpa using hx, rfl⟩))
      | _ => rfl
    have hexec : execOp a.eval oi = execOp (putAll u ((ops.toList.take n).take i) 0 a0).eval oi := execOp_congr oi (fun cs b => Region.noSelect_spec hsel i oi cs b hoi) heval
    have hwanted : Region.wanted oi (yielded ops a.tmps) = true := by
      rw [← hwant]
      unfold Region.wanted
      cases hg : oi.guard with
      | none => rfl
      | some gw =>
        obtain ⟨g, want⟩ := gw
        have hy : yielded ops a.tmps g = yielded ops (putAll u ((ops.toList.take n).take i) 0 a0).tmps g := by
          unfold yielded
          cases ht : (ops[g]?).bind (·.dst) with
          | none => rfl
          | some t =>
            have h1 := hagree t (by simp [Oper.looksAt, hg, ht])
            have h2 : a.tmps.size = (putAll u ((ops.toList.take n).take i) 0 a0).tmps.size := hi.size.trans (putAll_size u _ 0 a0).1.symm
            rw [get_of_getD h2 h1]
        simp only [hy]
    have hg2 : Gives P oi a w (fun v w' => C w' ∧ Le w w' ∧ Φ u (0 + i) w' v) := by
      unfold Gives
      rw [hexec]
      exact hgives
    unfold wpOp
    simp only [hoi, hwanted, if_true]
    refine .inl (wp_of_gives hg2 fun v w' ⟨hC', hLe', hΦ⟩ => ?_)
    rw [Nat.zero_add] at hΦ
    refine ih (listed.setIfInBounds i true) (a.put oi.dst v) w' (fun j => if j = i then v else u j) (fun j => by
      by_cases hji : j = i
      · subst hji; simp only [if_true]; exact hΨ _ _ _ _ hΦ
      · simp only [if_neg hji]; exact hu j) (inv.set hir hin) (by rw [cntU_set hun n hin] at hcnt; omega) ⟨hC', (put_size _ _ _).trans hi.size, (put_defers' _ _ _).trans hi.defers, ?_, ?_, ?_⟩
    · intro j oj d hoj hl hd hds
      by_cases hji : i = j
      · subst hji
        obtain rfl : oi = oj := Option.some.inj (hoi.symm.trans hoj)
        rw [put_getD, if_pos ⟨hd, by rw [hi.size]; exact hds⟩, if_pos rfl]
      · rw [getD_set_ne false hji] at hl
        have hjn : j < n := Nat.lt_of_not_le fun hge => by
          have := inv.tail j hge (Array.getElem?_eq_some_iff.1 hoj).1
          rw [getD_both this] at hl
          cases hl
        rw [put_getD, if_neg (fun h => hdist' j i oj oi d hjn hin (fun e => hji e.symm) hoj hoi hd h.1), if_neg (fun e => hji e.symm)]
        exact hi.val j oj d hoj hl hd hds
    · intro j hl
      by_cases hji : i = j
      · subst hji
        simp only [if_true]
        refine hU u _ i w' v (fun oj hoj e he hb => ?_) hΦ
        obtain rfl : oi = oj := Option.some.inj (hoi.symm.trans hoj)
        have := hdep' i oi hin hoi e he hb
        rw [if_neg (by omega)]
      · rw [getD_set_ne false hji] at hl
        simp only [if_neg (fun e : j = i => hji e.symm)]
        refine hU u _ j w' (u j) (fun oj hoj e he hb => ?_) (hLe _ _ _ _ _ hLe' (hi.word j hl))
        have h1 := inv.closed j oj hoj hl e he hb
        rw [if_neg (fun ee => by rw [ee, getD_both hun] at h1; cases h1)]
    · intro t ht
      rw [put_getD, if_neg (fun h => ht i oi hoi (by
        rw [Array.getD_eq_getD_getElem?, Array.getElem?_setIfInBounds]
        have : i < listed.size := by rw [inv.size]; omega
        simp [this]) h.1)]
      exact hi.rest t (fun j oj hoj hl => ht j oj hoj (getD_set_true hl))
/-- A region that draws its order: its first n operations are told by what they yield, the others follow in one order. -/
theorem any_spec {Q : Exit → Act → World → Prop} {a0 : Act} {w : World} {l : List Oper} (n : Nat) (Φ : (Nat → Value) → Nat → World → Value → Prop) (hB : specB l.toArray n = true) (hC : C { w with drawn := w.drawn + 1 }) (hU : ∀ (u u' : Nat → Value) (j : Nat) w v, (∀ oj, l.toArray[j]? = some oj → ∀ e ∈ oj.after, Region.binds .any e = true → u e.on = u' e.on) → Φ u j w v → Φ u' j w v) (hLe : ∀ u j w w' v, Le w w' → Φ u j w v → Φ u j w' v) (Ψ : Nat → Value → Prop) (hΨ : ∀ u j w v, Φ u j w v → Ψ j v) (u0 : Nat → Value) (hu0 : ∀ j, Ψ j (u0 j))
    (h : ∀ u, (∀ j, Ψ j (u j)) → specAll P l.toArray C Le Φ u (l.take n) 0 a0) (hend : ∀ u w, (∀ j, Ψ j (u j)) → C w → (∀ j, j < n → Φ u j w (u j)) → wpList P l.toArray Q (l.drop n) (putAll u (l.take n) 0 a0) w) :
    wpAny P .any l.toArray Q l.toArray.size (Array.replicate l.toArray.size false) a0 { w with drawn := w.drawn + 1 } := by
  have hn : n < l.toArray.size := by
    simp only [specB, Bool.and_eq_true, decide_eq_true_eq] at hB
    exact hB.1.1.1.1.1.1.2
  have inv0 : HeadInv .any l.toArray n (Array.replicate l.toArray.size false) :=
    ⟨by simp, fun j oj _ hl => (by rw [getD_replicate_false] at hl; cases hl), fun t _ ht => getD_in (by simpa using ht) (getD_replicate_false _ _)⟩
  have hc : ∀ k, k ≤ l.toArray.size → cntU (Array.replicate l.toArray.size false) k = k := by
    intro k
    induction k with
    | zero => intro _; rfl
    | succ k ih =>
      intro hk
      have : (Array.replicate l.toArray.size false).getD k true = false := getD_in (by simp at hk ⊢; omega) (getD_replicate_false _ _)
      rw [cntU, ih (by omega), this]
      simp
  have K := spec_any (Q := Q) (a0 := a0) (n := n) hB hU hLe Ψ hΨ (by simpa using h) (fun u a w hu hC hΦ ha => by subst ha; simpa using hend u w hu hC hΦ) n _ a0 { w with drawn := w.drawn + 1 } u0 hu0 inv0 (hc n (by omega))
    ⟨hC, rfl, rfl, (fun j oj d _ hl => by rw [getD_replicate_false] at hl; cases hl), (fun j hl => by rw [getD_replicate_false] at hl; cases hl), fun t _ => rfl⟩
  rwa [show n + (l.toArray.size - n) = l.toArray.size by omega] at K
theorem wp_region_spec {id : Nat} {Q : Exit → Act → World → Prop} {a0 : Act} {w : World} {l : List Oper} (n : Nat) (Φ : (Nat → Value) → Nat → World → Value → Prop) (hm : P.follows .mixedOrders = true) (hB : specB l.toArray n = true) (hC : C { w with drawn := w.drawn + 1 }) (hU : ∀ (u u' : Nat → Value) (j : Nat) w v, (∀ oj, l.toArray[j]? = some oj → ∀ e ∈ oj.after, Region.binds .any e = true → u e.on = u' e.on) → Φ u j w v → Φ u' j w v) (hLe : ∀ u j w w' v, Le w w' → Φ u j w v → Φ u j w' v) (Ψ : Nat → Value → Prop) (hΨ : ∀ u j w v, Φ u j w v → Ψ j v) (u0 : Nat → Value) (hu0 : ∀ j, Ψ j (u0 j))
    (h : ∀ u, (∀ j, Ψ j (u j)) → specAll P l.toArray C Le Φ u (l.take n) 0 a0) (hend : ∀ u w, (∀ j, Ψ j (u j)) → C w → (∀ j, j < n → Φ u j w (u j)) → wpList P l.toArray Q (l.drop n) (putAll u (l.take n) 0 a0) w) : (Code.region id l.toArray true).wp P Q a0 w :=
  wp_region_any hm (any_spec n Φ hB hC hU hLe Ψ hΨ u0 hu0 h hend)
end
end Go.Proofs.YtchjijifmjbgoaaDoor.Tn
