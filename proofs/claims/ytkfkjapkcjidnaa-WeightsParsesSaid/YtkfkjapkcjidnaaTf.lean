import Derived.Test.YtkfkjapkcjidnaaTb
import Derived.Laws.CopyOwn
import Derived.Laws.AppendOwnNone
import Derived.Laws.MakeOwn
import Derived.Laws.OwnMore
import Derived.Deep.MidRow
import Derived.StillTail
import Derived.StillTailTactics
import Derived.Deep.Quiet
import Derived.OrdersHeld
import Derived.OrdersIn
import Derived.RangeFuncNested
import Derived.Scope
-- from Gm
namespace Go.Proofs.Ytkfkjapkcjidnaa.Tn
open Go.ChangeShapes Go.WideShapes Go.ChangeAt Go.RowKit Go.Proofs.Ytkfkjapkcjidnaa.Fx Go.Proofs.Ytkfkjapkcjidnaa.Rf
section
variable {w w' : World} {sp : Option Addr} {cap : Nat} {xs : List Value}
/-- the address behind k cells -/
def cutA (sp : Option Addr) (cap k : Nat) : Option Addr := if cap = k then sp else sp.map (·.add k)
end
section
variable {w : World} {ops : Array Oper} {rest : List Oper} {o : Oper} {a : Act} {Q : Exit → Act → World → Prop}
end
section
variable {w : World} {ops : Array Oper} {rest : List Oper} {o : Oper} {a : Act} {Q : Exit → Act → World → Prop}
end
end Go.Proofs.Ytkfkjapkcjidnaa.Tn
-- from Gq
namespace Go.Proofs.Ytkfkjapkcjidnaa.Tn
open Go.ChangeShapes Go.WideShapes Go.ChangeAt Go.RowKit Go.Proofs.Ytkfkjapkcjidnaa.Fx Go.Proofs.Ytkfkjapkcjidnaa.Rf
section
variable {P : Program} {ops : Array Oper} {C : World → Prop} {Q : Act → Prop} {a : Act} {o : Oper} {rest : List Oper}
/-- an operation that yields one value, whatever the world of the class -/
theorem q_val (v : Value) (hw : Region.wanted o (yielded ops a.tmps) = true) (h : ∀ W, C W → (execOp a.eval o).run P W = .ok (.value v) W) (hn : wpQuiet P ops C Q rest (a.put o.dst v)) : wpQuiet P ops C Q (o :: rest) a :=
  wpQuiet_step fun K hK => by
    rw [if_pos hw]
    exact ⟨v, fun W hW => by unfold Oper.quietAt; rw [h W hW]; exact ⟨rfl, rfl⟩, hK _ hn⟩
/-- a call whose answer is one value, and that stays within the class -/
theorem q_call (f : FuncId) (args : Array Value) (v : Value) (hw : Region.wanted o (yielded ops a.tmps) = true) (h : ∀ W, C W → (execOp a.eval o).run P W = .ok (.enter f args) W)
    (hc : ∀ W, C W → Calls P f args W fun e W' => e = .returned v ∧ C W') (hn : wpQuiet P ops C Q rest (a.put o.dst v)) : wpQuiet P ops C Q (o :: rest) a :=
  wpQuiet_step fun K hK => by
    rw [if_pos hw]
    exact ⟨v, fun W hW => by unfold Oper.quietAt; rw [h W hW]; exact ⟨rfl, hc W hW⟩, hK _ hn⟩
end
/-- the first n operations come up in whatever order, each quiet in the class; those behind them wait -/
def Heads (P : Program) (ops : Array Oper) (C : World → Prop) (n : Nat) (L : Array Bool → Act → Prop) : Nat → Array Bool → Act → Prop
  | 0, listed, a => L listed a
  | f + 1, listed, a => Region.ready .any ops listed ≠ [] ∧ ∀ i ∈ Region.ready .any ops listed, i < n ∧ qOp P ops C i (Heads P ops C n L f (listed.setIfInBounds i true)) a
section
variable {P : Program} {ops : Array Oper} {C : World → Prop}
theorem heads_any {n g : Nat} {L : Array Bool → Act → Prop} {Q' : Exit → Act → World → Prop} (hL : ∀ listed a w, C w → L listed a → wpAny P .any ops Q' g listed a w) :
    ∀ (f : Nat) (listed : Array Bool) (a : Act) (w : World), C w → Heads P ops C n L f listed a → wpAny P .any ops Q' (f + g) listed a w
  | 0, listed, a, w, hw, h => by rw [Nat.zero_add]; exact hL _ _ _ hw h
  | f + 1, listed, a, w, hw, h => by
    rw [show f + 1 + g = (f + g) + 1 by omega]
    exact ⟨fun h0 => absurd h0 h.1, fun i hi => wpOp_of_qOp hw (fun a' w' hw' h' => heads_any hL f _ a' w' hw' h') (h.2 i hi).2⟩
theorem heads_first {m n i : Nat} {oi : Oper} {v : Value} {L : Array Bool → Act → Prop} (hi : ops[i]? = some oi) (hsel : ∀ (j : Nat) (o : Oper) cs b, ops[j]? = some o → o.op ≠ .select cs b)
    (hs : sinkFrom ops m n = true) (hc : Region.chainB .any ops n = true) (hn : n < ops.size) (hmi : m ≤ i) (hin : i < n) (hdone : ∀ listed a, L listed a → ∀ j ∈ Region.ready .any ops listed, n ≤ j) :
    ∀ (f : Nat) (listed : Array Bool) (a : Act), HeadInv .any ops n listed →
      (∀ j oj, ops[j]? = some oj → j ≠ i → listed.getD j true = false → (∀ e ∈ oj.after, Region.binds .any e = true → e.on ≠ i) → oi.apart ops oj = true) →
      i ∈ Region.ready .any ops listed → YieldsIn P ops C oi v a →
      Heads P ops C n L f (listed.setIfInBounds i true) (a.put oi.dst v) → Heads P ops C n L (f + 1) listed a := by
  intro f
  induction f with
  | zero =>
    intro listed a inv _ hr hy H
    have hun := (mem_ready.1 hr).1
    refine ⟨List.ne_nil_of_mem hr, fun j hj => ?_⟩
    have hjn : j < n := Nat.lt_of_not_le fun h => late_waits hs hc hn inv _ i rfl hmi hin hun j h hj
    refine ⟨hjn, ?_⟩
    by_cases hji : j = i
    · subst hji; exact hy.qOp hi H
    · exact absurd (hdone _ _ H j (ready_mono hj hji)) (by omega)
  | succ f ih =>
    intro listed a inv hfree hr hy H
    have hun := (mem_ready.1 hr).1
    refine ⟨List.ne_nil_of_mem hr, fun j hj => ?_⟩
    have hjn : j < n := Nat.lt_of_not_le fun h => late_waits hs hc hn inv _ i rfl hmi hin hun j h hj
    refine ⟨hjn, ?_⟩
    by_cases hji : j = i
    · subst hji; exact hy.qOp hi H
    · obtain ⟨hjun, oj, hoj, hall⟩ := mem_ready.1 hj
      have hnot : ∀ e ∈ oj.after, Region.binds .any e = true → e.on ≠ i := fun e he hb heq => by
        have h1 := hall e he hb
        rw [heq, getD_both hun] at h1
        cases h1
      have h2 := qOp_put hoj (hfree j oj hoj hji hjun hnot) (fun cs b => hsel i oi cs b hi) (fun cs b => hsel j oj cs b hoj) hy (H.2 j (ready_mono hj hji)).2
      refine qOp_mono (fun a' h3 => ih (listed.setIfInBounds j true) a' (inv.set hj hjn) (fun k ok hk hki hkun hno => hfree k ok hk hki ?_ hno) (ready_mono hr (Ne.symm hji)) h3.1 ?_) h2
      · by_cases hjk : j = k
        · subst hjk; exact hjun
        · rw [getD_set_ne true hjk] at hkun; exact hkun
      · rw [Array.setIfInBounds_comm _ _ hji]
        exact h3.2
theorem heads_lex {m n g : Nat} {Lq : Act → Prop} (hsel : Region.noSelect ops = true) (hs : sinkFrom ops m n = true) (hc : Region.chainB .any ops n = true) (hn : n < ops.size) :
    ∀ (l : List Oper) (k : Nat) (listed : Array Bool) (a : Act), (∀ j, j < l.length → l[j]? = ops[k + j]?) → m ≤ k → k + l.length = n → HeadInv .any ops n listed →
    Region.lexHead .any ops g l.length k listed = true → wpQuiet P ops C Lq l a →
    Heads P ops C n (fun listed' a' => Region.seqB .any ops g n listed' = true ∧ Lq a') l.length listed a
  | [], k, listed, a, _, _, hk, _, hB, h => by
    obtain rfl : k = n := by simpa using hk
    exact ⟨by simpa [Region.lexHead] using hB, h⟩
  | o :: l, k, listed, a, hl, hmk, hk, inv, hB, h => by
    have h0 : ops[k]? = some o := by simpa using (hl 0 (by simp)).symm
    simp only [List.length_cons, Region.lexHead, Bool.and_eq_true] at hB
    simp only [List.length_cons] at hk
    have hr' : k ∈ Region.ready .any ops listed := by simpa using hB.1.1
    obtain ⟨v, hy, hK⟩ := yieldsIn_of_qOp h0 (show qOp P ops C k (wpQuiet P ops C Lq l) a by unfold qOp; simp only [h0]; exact h)
    exact heads_first h0 (Region.noSelect_spec hsel) hs hc hn hmk (by omega) (fun listed' a' hL => seqB_ready hL.1) l.length listed a inv (Region.free_spec h0 hB.1.2) hr' hy
      (heads_lex hsel hs hc hn l (k + 1) _ _ (fun j hj => by have := hl (j + 1) (by simp; omega); simpa [Nat.add_assoc, Nat.add_comm 1 j] using this) (by omega) (by omega) (inv.set hr' (by omega)) hB.2 hK)

/-! ### a region whose first operations are quiet in a class of worlds, the others in one order -/
def quietTailB (ops : Array Oper) (n : Nat) : Bool :=
  Region.noSelect ops && decide (n < ops.size) && sinkFrom ops 0 n && Region.chainB .any ops n && Region.lexHead .any ops (ops.size - n) n 0 (Array.replicate ops.size false)
theorem any_quiet_tail {Q : Exit → Act → World → Prop} {a : Act} {w : World} {l : List Oper} (n : Nat) (hB : quietTailB l.toArray n = true) (hC : C { w with drawn := w.drawn + 1 })
    (h : wpQuiet P l.toArray C (fun a' => ∀ w', C w' → wpList P l.toArray Q (l.drop n) a' w') (l.take n) a) : wpAny P .any l.toArray Q l.toArray.size (Array.replicate l.toArray.size false) a { w with drawn := w.drawn + 1 } := by
  simp only [quietTailB, Bool.and_eq_true, decide_eq_true_eq] at hB
  obtain ⟨⟨⟨⟨hsel, hn⟩, hs⟩, hc⟩, hlex⟩ := hB
  have hn' : n < l.length := by simpa using hn
  have htl : (l.take n).length = n := by simp; omega
  have hdl : (l.drop n).length = l.toArray.size - n := by simp
  have inv0 : HeadInv .any l.toArray n (Array.replicate l.toArray.size false) :=
    ⟨by simp, fun j oj _ hl => (by rw [getD_replicate_false] at hl; cases hl), fun t _ ht => getD_in (by simpa using ht) (getD_replicate_false _ _)⟩
  have H := heads_lex (m := 0) (g := l.toArray.size - n) hsel hs hc hn (l.take n) 0 _ a (fun j hj => by
    have hj' : j < n := by rw [htl] at hj; exact hj
    simp [hj']) (Nat.le_refl _) (by simpa using htl) inv0 (by rw [htl]; exact hlex) h
  have K := heads_any (Q' := Q) (g := l.toArray.size - n) (fun listed a' w' hw' hL => by
    have := wpAny_of_seq (md := .any) (Q' := Q) (l.drop n) n listed a' w' (fun j => by simp [List.getElem?_drop]) (by rw [hdl]; exact hL.1) (hL.2 w' hw')
    rwa [hdl] at this) _ _ _ _ hC H
  rw [htl, show n + (l.toArray.size - n) = l.toArray.size by omega] at K
  exact K
/-! ### a first operation that only reads may come up anywhere ahead of the one that waits for it -/
theorem wp_monoQ {o : Oper} {a : Act} {w : World} {K : Act → World → Prop} {Q Q' : Exit → Act → World → Prop} (hp : ∀ ch a w, Q (.panic ch) a w → Q' (.panic ch) a w) (ho : LetsOut Q → LetsOut Q') (h : o.wp P a w K Q) : o.wp P a w K Q' := by
  unfold Oper.wp at *
  generalize (execOp a.eval o).run P w = r at *
  cases r with
  | ok n w' =>
    cases n <;> simp only [Oper.upon] at h ⊢ <;>
      first
        | exact h
        | exact Calls.mono h (fun e w'' he => by cases e <;> first | exact he | exact hp _ _ _ he | exact ho he)
  | halt x w' => cases x <;> simp only [Oper.upon] at h ⊢ <;> exact hp _ _ _ h
/-- whatever order is picked, what is numbered below c keeps S -/
def wpAnyG (P : Program) (ops : Array Oper) (Q : Exit → Act → World → Prop) (S : World → Prop) (c : Nat) : Nat → Array Bool → Act → World → Prop
  | 0, listed, a, w => Region.ready .any ops listed = [] ∧ Q .normal a w
  | f + 1, listed, a, w => (Region.ready .any ops listed = [] → Q .normal a w) ∧
    ∀ j ∈ Region.ready .any ops listed, wpOp P ops Q j (fun a' w' => (j < c → S w') ∧ wpAnyG P ops Q S c f (listed.setIfInBounds j true) a' w') a w
theorem wpAny_of_G {Q : Exit → Act → World → Prop} {S : World → Prop} {c : Nat} : ∀ (f : Nat) (listed : Array Bool) (a : Act) (w : World), wpAnyG P ops Q S c f listed a w → wpAny P .any ops Q f listed a w
  | 0, _, _, _, h => h
  | f + 1, _, _, _, h => ⟨h.1, fun i hi => wpOp_mono (fun a' w' h' => wpAny_of_G f _ a' w' h'.2) (h.2 i hi)⟩
/-- the c-th waits for i, and whoever stands behind it for the one ahead -/
theorem late_ready {i c : Nat} (h1 : Region.waitsFor .any ops c i = true) (h2 : ∀ t, c < t → t < ops.size → Region.waitsFor .any ops t (t - 1) = true) {listed : Array Bool} (inv : Shutd ops listed) (hun : listed.getD i true = false) :
    ∀ d, (c + d) ∉ Region.ready .any ops listed ∧ (c + d < ops.size → listed.getD (c + d) true = false) := by
  have step : ∀ t k, Region.waitsFor .any ops t k = true → listed.getD k true = false → t ∉ Region.ready .any ops listed ∧ (t < ops.size → listed.getD t true = false) := by
    intro t k hw hk
    obtain ⟨ot, hot, e, he, hb, hon⟩ := Region.waitsFor_spec hw
    refine ⟨fun hr => ?_, fun ht => ?_⟩
    · obtain ⟨_, o', ho', hall⟩ := mem_ready.1 hr
      have : o' = ot := Option.some.inj (ho'.symm.trans hot)
      subst this
      have h3 := hall e he hb
      rw [hon, getD_both hk] at h3
      cases h3
    · cases hl : listed.getD t false with
      | true =>
        have h3 := inv.closed t ot hot hl e he hb
        rw [hon, getD_both hk] at h3
        cases h3
      | false => exact getD_in (by rw [inv.size]; exact ht) hl
  intro d
  induction d with
  | zero => exact step c i h1 hun
  | succ d ih =>
    by_cases ht : c + (d + 1) < ops.size
    · exact step _ (c + d) (by have := h2 (c + (d + 1)) (by omega) ht; rwa [show c + (d + 1) - 1 = c + d by omega] at this) (ih.2 (by omega))
    · exact ⟨fun hr => ht (by obtain ⟨_, o', ho', _⟩ := mem_ready.1 hr; exact (Array.getElem?_eq_some_iff.1 ho').1), fun h => absurd h ht⟩
theorem float_first {Q : Exit → Act → World → Prop} {S : World → Prop} {i c : Nat} {oi : Oper} {v : Value} (hi : ops[i]? = some oi) (hsel : ∀ (j : Nat) (o : Oper) cs b, ops[j]? = some o → o.op ≠ .select cs b)
    (hQ : ∀ ch a w, Q (.panic ch) (a.put oi.dst v) w → Q (.panic ch) a w) (hw1 : Region.waitsFor .any ops c i = true) (hw2 : ∀ t, c < t → t < ops.size → Region.waitsFor .any ops t (t - 1) = true) :
    ∀ (fuel : Nat) (listed : Array Bool) (a : Act) (w : World), Shutd ops listed →
      (∀ j oj, ops[j]? = some oj → j ≠ i → listed.getD j true = false → (∀ e ∈ oj.after, Region.binds .any e = true → e.on ≠ i) → oi.apart ops oj = true) →
      i ∈ Region.ready .any ops listed → YieldsIf P ops S oi v a → S w →
      wpAnyG P ops Q S c fuel (listed.setIfInBounds i true) (a.put oi.dst v) w → wpAny P .any ops Q (fuel + 1) listed a w := by
  intro fuel
  induction fuel with
  | zero =>
    intro listed a w inv _ hr hy hS H
    refine ⟨fun h => (by rw [h] at hr; cases hr), fun j hj => ?_⟩
    by_cases hji : j = i
    · subst hji; exact hy.wpOp hi hS H
    · have := ready_mono hj hji
      rw [H.1] at this
      cases this
  | succ fuel ih =>
    intro listed a w inv hfree hr hy hS H
    refine ⟨fun h => (by rw [h] at hr; cases hr), fun j hj => ?_⟩
    by_cases hji : j = i
    · subst hji; exact hy.wpOp hi hS (wpAny_of_G _ _ _ _ H)
    · have h1 := H.2 j (ready_mono hj hji)
      have hun := (mem_ready.1 hr).1
      have hjc : j < c := Nat.lt_of_not_le fun hle => by
        have := (late_ready hw1 hw2 inv hun (j - c)).1
        rw [show c + (j - c) = j by omega] at this
        exact this hj
      obtain ⟨hjun, oj, hoj, hall⟩ := mem_ready.1 hj
      have hnot : ∀ e ∈ oj.after, Region.binds .any e = true → e.on ≠ i := fun e he hb heq => by
        have h1 := hall e he hb
        rw [heq, getD_both hun] at h1
        cases h1
      have h2 := wpOp_putIf hoj (hfree j oj hoj hji hjun hnot) (fun cs b => hsel i oi cs b hi) (fun cs b => hsel j oj cs b hoj) hQ hy h1
      have hfree' : ∀ k ok, ops[k]? = some ok → k ≠ i → (listed.setIfInBounds j true).getD k true = false →
          (∀ e ∈ ok.after, Region.binds .any e = true → e.on ≠ i) → oi.apart ops ok = true := fun k ok hk hki hun' hno => by
        refine hfree k ok hk hki ?_ hno
        by_cases hjk : j = k
        · subst hjk; exact hjun
        · rw [getD_set_ne true hjk] at hun'; exact hun'
      refine wpOp_mono (fun a' w' h3 => ih (listed.setIfInBounds j true) a' w' (inv.set hj) hfree' (ready_mono hr (Ne.symm hji)) h3.1 (h3.2.1 hjc) ?_) h2
      rw [Array.setIfInBounds_comm _ _ hji]
      exact h3.2.2
theorem heads_anyG {n g c : Nat} {S : World → Prop} {L : Array Bool → Act → Prop} {Q' : Exit → Act → World → Prop} (hCS : ∀ w, C w → S w) (hL : ∀ listed a w, C w → L listed a → wpAnyG P ops Q' S c g listed a w) :
    ∀ (f : Nat) (listed : Array Bool) (a : Act) (w : World), C w → Heads P ops C n L f listed a → wpAnyG P ops Q' S c (f + g) listed a w
  | 0, listed, a, w, hw, h => by rw [Nat.zero_add]; exact hL _ _ _ hw h
  | f + 1, listed, a, w, hw, h => by
    rw [show f + 1 + g = (f + g) + 1 by omega]
    exact ⟨fun h0 => absurd h0 h.1, fun i hi => wpOp_of_qOp hw (fun a' w' hw' h' => ⟨fun _ => hCS _ hw', heads_anyG hCS hL f _ a' w' hw' h'⟩) (h.2 i hi).2⟩
theorem wpAnyG_of_seq {Q' : Exit → Act → World → Prop} {S : World → Prop} {c : Nat} : ∀ (l : List Oper) (k : Nat) (listed : Array Bool) (a : Act) (w : World), c ≤ k → (∀ j, l[j]? = ops[k + j]?) →
    Region.seqB .any ops l.length k listed = true → wpList P ops Q' l a w → wpAnyG P ops Q' S c l.length listed a w
  | [], _, _, _, _, _, _, hB, h => ⟨by simpa [Region.seqB] using hB, h⟩
  | o :: l, k, listed, a, w, hck, hl, hB, h => by
    have h0 : ops[k]? = some o := by simpa using (hl 0).symm
    simp only [List.length_cons, Region.seqB, Bool.and_eq_true, decide_eq_true_eq] at hB
    refine ⟨fun h1 => (by rw [hB.1] at h1; cases h1), fun i hi => ?_⟩
    rw [hB.1] at hi
    have hik : i = k := by simpa using hi
    subst hik
    have hw : wpOp P ops Q' i (wpList P ops Q' l) a w := by unfold wpOp; simp only [h0]; exact h
    exact wpOp_mono (fun a' w' h' => ⟨fun h => absurd h (by omega), wpAnyG_of_seq l (i + 1) _ a' w' (by omega) (fun j => by have := hl (j + 1); simpa [Nat.add_assoc, Nat.add_comm 1 j] using this) hB.2 h'⟩) hw
/-- behind the first one of the tail: S holds, and the others follow -/
def Mid (P : Program) (ops : Array Oper) (S : World → Prop) (Q : Exit → Act → World → Prop) (l : List Oper) : Exit → Act → World → Prop
  | .normal, a, w => S w ∧ wpList P ops Q l a w
  | _, _, _ => False
def floatB (ops : Array Oper) (n : Nat) : Bool :=
  Region.noSelect ops && decide (n + 1 < ops.size) && decide (0 < n) && sinkFrom ops 1 n && Region.chainB .any ops n && Region.waitsFor .any ops (n + 1) 0 && (Region.ready .any ops (Array.replicate ops.size false)).contains 0 &&
  Region.free .any ops (Array.replicate ops.size false) 0 && Region.lexHead .any ops (ops.size - n) (n - 1) 1 ((Array.replicate ops.size false).setIfInBounds 0 true)
theorem any_float {Q : Exit → Act → World → Prop} {S : World → Prop} {a : Act} {w : World} {o0 : Oper} {l : List Oper} (n : Nat) (v : Value) (hB : floatB (o0 :: l).toArray n = true) (hC : C { w with drawn := w.drawn + 1 }) (hCS : ∀ w, C w → S w)
    (hQ : ∀ ch a w, ¬ Q (.panic ch) a w) (on : Oper) (hon : (o0 :: l)[n]? = some on) (hy : YieldsIf P (o0 :: l).toArray S o0 v a)
    (h : wpQuiet P (o0 :: l).toArray C (fun a' => ∀ w', C w' → wpList P (o0 :: l).toArray (Mid P (o0 :: l).toArray S Q ((o0 :: l).drop (n + 1))) [on] a' w') (l.take (n - 1)) (a.put o0.dst v)) :
    wpAny P .any (o0 :: l).toArray Q (o0 :: l).toArray.size (Array.replicate (o0 :: l).toArray.size false) a { w with drawn := w.drawn + 1 } := by
  simp only [floatB, Bool.and_eq_true, decide_eq_true_eq] at hB
  obtain ⟨⟨⟨⟨⟨⟨⟨⟨hsel, hn⟩, hn0⟩, hs⟩, hc⟩, hw1⟩, hr0⟩, hf0⟩, hlex⟩ := hB
  have hsz : (o0 :: l).toArray.size = l.length + 1 := by simp
  have hn' : n < l.length := by rw [hsz] at hn; omega
  have htl : (l.take (n - 1)).length = n - 1 := by simp; omega
  have i0 : Shutd (o0 :: l).toArray (Array.replicate (o0 :: l).toArray.size false) := ⟨by simp, fun j oj _ hl => (by rw [getD_replicate_false] at hl; cases hl)⟩
  have hr0' : 0 ∈ Region.ready .any (o0 :: l).toArray (Array.replicate (o0 :: l).toArray.size false) := by simpa using hr0
  have i1 := i0.set hr0'
  have inv1 : HeadInv .any (o0 :: l).toArray n ((Array.replicate (o0 :: l).toArray.size false).setIfInBounds 0 true) :=
    ⟨i1.size, i1.closed, fun t htn ht => by rw [getD_set_ne true (by omega)]; exact getD_in (by simpa using ht) (getD_replicate_false _ _)⟩
  have H := heads_lex (m := 1) (g := (o0 :: l).toArray.size - n) hsel hs hc (by omega) (l.take (n - 1)) 1 _ _ (fun j hj => by
    have hj' : j < n - 1 := by rw [htl] at hj; exact hj
    simp [hj', Nat.add_comm 1 j]) (Nat.le_refl _) (by rw [htl]; omega) inv1 (by rw [htl]; exact hlex) h
  have K := float_first (P := P) (ops := (o0 :: l).toArray) (Q := Q) (S := S) (i := 0) (c := n + 1) (oi := o0) (v := v) (by simp) (Region.noSelect_spec hsel) (fun ch a w h => absurd h (hQ _ _ _)) hw1 (fun t ht hts => by
      have h1 := List.all_eq_true.1 hc t (List.mem_range.2 hts)
      simp only [Bool.or_eq_true, decide_eq_true_eq] at h1
      rcases h1 with h1 | h1
      · omega
      · exact h1) (n - 1 + ((o0 :: l).toArray.size - n)) _ a { w with drawn := w.drawn + 1 } i0 (Region.free_spec (by simp) hf0) hr0' hy (hCS _ hC) (by
      have K1 := heads_anyG (Q' := Q) (S := S) (c := n + 1) (g := (o0 :: l).toArray.size - n) hCS (fun listed a' w' hw' hL => by
        obtain ⟨hB1, hL2⟩ := hL
        have hg : (o0 :: l).toArray.size - n = ((o0 :: l).toArray.size - (n + 1)) + 1 := by omega
        rw [hg] at hB1 ⊢
        simp only [Region.seqB, Bool.and_eq_true, decide_eq_true_eq] at hB1
        refine ⟨fun h1 => (by rw [hB1.1] at h1; cases h1), fun j hj => ?_⟩
        rw [hB1.1] at hj
        obtain rfl : j = n := by simpa using hj
        have hon' : (o0 :: l).toArray[j]? = some on := by simpa using hon
        have hdl : ((o0 :: l).drop (j + 1)).length = (o0 :: l).toArray.size - (j + 1) := by simp
        have fin : ∀ a'' w'', (S w'' ∧ wpList P (o0 :: l).toArray Q ((o0 :: l).drop (j + 1)) a'' w'') → (j < j + 1 → S w'') ∧ wpAnyG P (o0 :: l).toArray Q S (j + 1) ((o0 :: l).toArray.size - (j + 1)) (listed.setIfInBounds j true) a'' w'' := by
          intro a'' w'' hm
          refine ⟨fun _ => hm.1, ?_⟩
          have := wpAnyG_of_seq (P := P) (ops := (o0 :: l).toArray) (Q' := Q) (S := S) (c := j + 1) ((o0 :: l).drop (j + 1)) (j + 1) (listed.setIfInBounds j true) a'' w'' (Nat.le_refl _) (fun k => by rw [List.getElem?_drop]; simp) (by rw [hdl]; exact hB1.2) hm.2
          rwa [hdl] at this
        have hw := hL2 w' hw'
        unfold wpOp
        simp only [hon']
        simp only [wpList] at hw
        split
        · rename_i hwd
          simp only [hwd, if_true] at hw
          rcases hw with hw | ⟨_, _, _, hw⟩
          · refine .inl (wp_monoQ (fun ch a w h => h.elim) (fun ⟨_, _, h⟩ => h.elim) (Oper.wp_mono (fun a'' w'' hm => fin a'' w'' hm) hw))
          · exact hw.elim
        · rename_i hwd
          simp only [hwd] at hw
          exact fin _ _ hw) _ _ _ _ hC H
      rwa [htl] at K1)
  rwa [show n - 1 + ((o0 :: l).toArray.size - n) + 1 = (o0 :: l).toArray.size by omega] at K
/-! ### the same within a round of a loop over a function -/
def noDefer (ops : Array Oper) : Bool := ops.all fun o => match o.op with | .defer _ => false | _ => true
theorem opIn_of_op {o : Oper} {a : Act} {w : World} {K : Act → World → Prop} {Q : Exit → Act → World → Prop} {lp n : Nat} (hd : ∀ c, o.op ≠ .defer c) (h : o.wp P a w K Q) : o.wpIn (Fence.wide.inRound lp) n P a w K Q := by
  refine ⟨fun f _ => trivial, ?_⟩
  rw [show (Fence.wide.inRound lp).round = some lp from rfl, Oper.semAt_eq _ _ _ hd]
  unfold Oper.wp at h
  generalize (execOp a.eval o).run P w = r at *
  cases r with
  | ok x w' =>
    cases x <;> simp only [Oper.upon, Oper.uponIn] at h ⊢ <;>
      first
        | exact h
        | exact ⟨fun e => by simp [Fence.wide] at e, CallsIn.inRound lp (callsIn_wide.2 h)⟩
        | exact ⟨fun e => by simp [Fence.wide] at e, fun c cs _ => let ⟨v, w', r, s⟩ := h c cs; ⟨v, w', r, stepsIn_wide.2 s⟩⟩
  | halt x w' => cases x <;> simp only [Oper.upon, Oper.uponIn] at h ⊢ <;> exact h
theorem anyIn_of_any {Q : Exit → Act → World → Prop} {lp n : Nat} (hd : noDefer ops = true) (hl : ¬ LetsOut Q) : ∀ (f : Nat) (listed : Array Bool) (a : Act) (w : World), wpAny P .any ops Q f listed a w → wpAnyIn (Fence.wide.inRound lp) n P .any ops Q f listed a w
  | 0, _, _, _, h => h
  | f + 1, _, _, _, h => ⟨h.1, fun i hi => by
    have h2 := wpOp_mono (fun a' w' h' => anyIn_of_any (lp := lp) (n := n) hd hl f _ a' w' h') (h.2 i hi)
    unfold wpOp at h2
    unfold wpOpIn
    split
    · rename_i ho; simp only [ho] at h2; exact h2
    · rename_i o ho
      simp only [ho] at h2
      have hdo : ∀ c, o.op ≠ .defer c := fun c e => by
        have h3 := (Array.all_eq_true_iff_forall_mem.1 hd) o (Array.mem_of_getElem? ho)
        simp only [e] at h3
        cases h3
      split
      · rename_i hw
        simp only [hw, if_true] at h2
        rcases h2 with h2 | ⟨_, h2⟩
        · exact opIn_of_op hdo h2
        · exact absurd h2 hl
      · rename_i hw
        simp only [hw] at h2
        exact ⟨fun f _ => trivial, h2⟩⟩
theorem wpIn_region_quiet_tail {id lp m : Nat} {Q : Exit → Act → World → Prop} {a : Act} {w : World} {l : List Oper} (n : Nat) (hm : P.follows .mixedOrders = true) (hd : noDefer l.toArray = true) (hl : ¬ LetsOut Q) (hB : quietTailB l.toArray n = true) (hC : C { w with drawn := w.drawn + 1 })
    (h : wpQuiet P l.toArray C (fun a' => ∀ w', C w' → wpList P l.toArray Q (l.drop n) a' w') (l.take n) a) : (Code.region id l.toArray true).wpIn (Fence.wide.inRound lp) m P Q a w :=
  wpIn_region_any hm (anyIn_of_any hd hl _ _ _ _ (any_quiet_tail n hB hC h))
theorem wpIn_region_float {id lp m : Nat} {Q : Exit → Act → World → Prop} {S : World → Prop} {a : Act} {w : World} {o0 : Oper} {l : List Oper} (n : Nat) (v : Value) (hm : P.follows .mixedOrders = true) (hd : noDefer (o0 :: l).toArray = true) (hl : ¬ LetsOut Q) (hB : floatB (o0 :: l).toArray n = true) (hC : C { w with drawn := w.drawn + 1 }) (hCS : ∀ w, C w → S w)
    (hQ : ∀ ch a w, ¬ Q (.panic ch) a w) (on : Oper) (hon : (o0 :: l)[n]? = some on) (hy : YieldsIf P (o0 :: l).toArray S o0 v a)
    (h : wpQuiet P (o0 :: l).toArray C (fun a' => ∀ w', C w' → wpList P (o0 :: l).toArray (Mid P (o0 :: l).toArray S Q ((o0 :: l).drop (n + 1))) [on] a' w') (l.take (n - 1)) (a.put o0.dst v)) :
    (Code.region id (o0 :: l).toArray true).wpIn (Fence.wide.inRound lp) m P Q a w :=
  wpIn_region_any hm (anyIn_of_any hd hl _ _ _ _ (any_float n v hB hC hCS hQ on hon hy h))
end
section
variable {P : Program} {F : Fence} {n : Nat} {b : Frame} {a : Act} {k : List Item} {cs : List Frame} {w : World} {Q : Exit → Act → World → Prop}
end
section
variable {P : Program} {ops : Array Oper} {C : World → Prop} {Pre : Nat → World → Prop} {Le : Nat → World → World → Prop} {Φ : (Nat → Value) → Nat → World → Value → Prop}
end
end Go.Proofs.Ytkfkjapkcjidnaa.Tn
-- from Gi
namespace Go.Proofs.Ytkfkjapkcjidnaa.Tn
open Go.ChangeShapes Go.WideShapes Go.ChangeAt Go.RowKit Go.Proofs.Ytkfkjapkcjidnaa.Fx Go.Proofs.Ytkfkjapkcjidnaa.Rf
end Go.Proofs.Ytkfkjapkcjidnaa.Tn
-- from Gv
namespace Go.Proofs.Ytkfkjapkcjidnaa.Tn
open Go.ChangeShapes Go.WideShapes Go.ChangeAt Go.RowKit Go.Proofs.Ytkfkjapkcjidnaa.Fx Go.Proofs.Ytkfkjapkcjidnaa.Rf
end Go.Proofs.Ytkfkjapkcjidnaa.Tn
-- from Gw
namespace Go.Proofs.Ytkfkjapkcjidnaa.Tn
open Go.ChangeShapes Go.WideShapes Go.ChangeAt Go.RowKit Go.Proofs.Ytkfkjapkcjidnaa.Fx Go.Proofs.Ytkfkjapkcjidnaa.Rf
theorem row_in {R C i : Nat} (hi : i < R) : i * C + C ≤ R * C := by
  have := Nat.mul_le_mul_right C (show i + 1 ≤ R from hi)
  rw [Nat.add_mul, Nat.one_mul] at this
  exact this
end Go.Proofs.Ytkfkjapkcjidnaa.Tn
-- from Jd
namespace Go.Proofs.Ytkfkjapkcjidnaa.Tn
set_option maxRecDepth 100000
open Go.ChangeShapes Go.WideShapes Go.ChangeAt Go.RowKit Go.Proofs.Ytkfkjapkcjidnaa.Fx Go.Proofs.Ytkfkjapkcjidnaa.Rf
end Go.Proofs.Ytkfkjapkcjidnaa.Tn
-- from Je
namespace Go.Proofs.Ytkfkjapkcjidnaa.Tn
set_option maxRecDepth 100000
open Go.ChangeShapes Go.WideShapes Go.ChangeAt Go.RowKit Go.Proofs.Ytkfkjapkcjidnaa.Fx Go.Proofs.Ytkfkjapkcjidnaa.Rf
section
variable {α : Type} (EN : α → Value) (df : α)
end
section
variable {α : Type} {EN : α → Value} {df : α}
end
section
variable {α : Type} {EN : α → Value} {tN : TypeId} {w : World} {R : Nat → Int} {i n M : Nat} {hs : List α} {W : World}
end
end Go.Proofs.Ytkfkjapkcjidnaa.Tn
