import Derived.Test.YtdffbjjiojheoaaFz
import Derived.Laws.CopyOwn
import Derived.Laws.AppendOwnNone
import Derived.Laws.MakeOwn
import Derived.Laws.OwnMore
import Derived.Deep.MidRow
import Derived.StillTail
import Derived.StillTailTactics
import Derived.Deep.Quiet
import Derived.OrdersHeld
import Derived.OrdersIn
import Derived.RangeFuncNested
import Derived.Scope
-- from Ga
namespace Go.Proofs.Ytdffbjjiojheoaa.Tn
open Go.Proofs.Ytdffbjjiojheoaa.Fx
/-! ### vectors and matrices (mathematics) -/
def isW (n : Int) : Prop := -16777216 ≤ n ∧ n ≤ 16777216
instance (n : Int) : Decidable (isW n) := inferInstanceAs (Decidable (_ ∧ _))
/-- what is wrong with a vector, with a matrix -/
def chkV (l : List Int) : Int := if l.length < 1 ∨ 512 < l.length then 13 else if ∀ x ∈ l, isN x then 0 else 10
def sizeM (r c : Int) (n : Nat) : Prop := 1 ≤ r ∧ r ≤ 512 ∧ 1 ≤ c ∧ c ≤ 64 ∧ (n : Int) = r * c
instance (r c : Int) (n : Nat) : Decidable (sizeM r c n) := inferInstanceAs (Decidable (_ ∧ _))
def chkM (r c : Int) (l : List Int) : Int := if ¬ sizeM r c l.length then 13 else if ∀ x ∈ l, isW x then 0 else 10
/-- a number that is none -/
def over (v : Int) : Int := if isN v then 0 else 17
theorem in_of {p : Int → Prop} {l : List Int} (h : ∀ x ∈ l, p x) (i : Nat) (hi : i < l.length) : p (l.getD i 0) := by
  rw [List.getD_eq_getElem?_getD, List.getElem?_eq_getElem hi]
  exact h _ (List.getElem_mem _)
theorem not_in {p : Int → Prop} [DecidablePred p] {l : List Int} (h : ¬ ∀ x ∈ l, p x) : ∃ j, j < l.length ∧ ¬ p (l.getD j 0) ∧ ∀ i, i < j → p (l.getD i 0) := by
  induction l with
  | nil => exact absurd (fun x hx => by cases hx) h
  | cons a l ih =>
    by_cases ha : p a
    · obtain ⟨j, h1, h2, h3⟩ := ih (fun hl => h fun x hx => by
        rcases List.mem_cons.1 hx with rfl | hx
        · exact ha
        · exact hl x hx)
      refine ⟨j + 1, by simpa using h1, by simpa using h2, fun i hi => ?_⟩
      rcases i with _ | i
      · simpa using ha
      · simpa using h3 i (by omega)
    · exact ⟨0, by simp, by simpa using ha, fun i hi => by omega⟩
end Go.Proofs.Ytdffbjjiojheoaa.Tn
-- from Gb
namespace Go.Proofs.Ytdffbjjiojheoaa.Tn
open Go.Proofs.Ytdffbjjiojheoaa.Fx
end Go.Proofs.Ytdffbjjiojheoaa.Tn
-- from Gt
namespace Go.Proofs.Ytdffbjjiojheoaa.Tn
open Go.Proofs.Ytdffbjjiojheoaa.Fx
/-- p comes ahead of q -/
def ahead (l : List Int) (p q : Nat) : Prop := l.getD q 0 < l.getD p 0 ∨ (l.getD p 0 = l.getD q 0 ∧ p < q)
end Go.Proofs.Ytdffbjjiojheoaa.Tn
-- from Gm
namespace Go.Proofs.Ytdffbjjiojheoaa.Tn
open Go.ChangeShapes Go.WideShapes Go.ChangeAt Go.RowKit Go.Proofs.Ytdffbjjiojheoaa.Fx Go.Proofs.Ytdffbjjiojheoaa.Rf
/-- the values of xs lie at c from o on -/
def Lies (w : World) (c o : Nat) (xs : List Value) : Prop := ∀ i v, xs[i]? = some v → w.cell? ⟨c, o + i, none⟩ = some v
theorem add_plain (c o i : Nat) : (⟨c, o, none⟩ : Addr).add i = ⟨c, o + i, none⟩ := by unfold Addr.add; split <;> simp_all
theorem Lies.drop {w : World} {c o : Nat} {l : List Value} (h : Lies w c o l) (k : Nat) : Lies w c (o + k) (l.drop k) := by
  intro i v hv
  rw [List.getElem?_drop] at hv
  have := h _ v hv
  rwa [← Nat.add_assoc] at this
theorem Lies.take {w : World} {c o : Nat} {l : List Value} (h : Lies w c o l) (k : Nat) : Lies w c o (l.take k) := by
  intro i v hv
  rw [List.getElem?_take] at hv
  split at hv
  · exact h i v hv
  · cases hv
theorem Lies.lt {w : World} {c o : Nat} {l : List Value} (h : Lies w c o l) (h0 : 0 < l.length) : c < w.heap.size :=
  block_lt_of_cell (h 0 _ (List.getElem?_eq_getElem h0))
theorem Lies.src {w : World} {c o : Nat} {l : List Value} (h : Lies w c o l) : ∀ j v, l[j]? = some v → w.cell? ((⟨c, o, none⟩ : Addr).add j) = some v := by
  intro j v hv
  rw [add_plain]
  exact h j v hv

/-- a slice that reads as the values xs (nil: none) -/
structure Sl (w : World) (sp : Option Addr) (cap : Nat) (xs : List Value) : Prop where
  le : xs.length ≤ cap
  max : cap ≤ maxLen
  nul : sp = none → cap = 0
  lies : 0 < xs.length → ∃ c o, sp = some ⟨c, o, none⟩ ∧ Lies w c o xs
section
variable {w w' : World} {sp : Option Addr} {cap : Nat} {xs : List Value}
theorem Sl.nil (w : World) : Sl w none 0 [] := ⟨Nat.le_refl _, by unfold maxLen; omega, fun _ => rfl, fun h => absurd h (by simp)⟩
theorem Sl.kept (h : Sl w sp cap xs) (hk : ∀ a v, w.cell? a = some v → w'.cell? a = some v) : Sl w' sp cap xs :=
  ⟨h.le, h.max, h.nul, fun h0 => by
    obtain ⟨c, o, e, hl⟩ := h.lies h0
    exact ⟨c, o, e, fun i v hv => hk _ _ (hl i v hv)⟩⟩
theorem Sl.below (h : Sl w sp cap xs) {B : Nat} (hB : w.heap.size ≤ B) (hb : Below B w w') : Sl w' sp cap xs :=
  h.kept fun _ _ hc => (hb.cell (Nat.lt_of_lt_of_le (block_lt_of_cell hc) hB)).trans hc
theorem Sl.drewN (h : Sl w sp cap xs) (n : Nat) : Sl (w.drewN n) sp cap xs := h.kept fun _ _ hc => hc
theorem Sl.len (h : Sl w sp cap xs) : xs.length ≤ 9223372036854775807 := by have h1 := h.le; have h2 := h.max; unfold maxLen at h2; omega
end
/-- a slice that reads as numbers -/
def Nums (w : World) (sp : Option Addr) (cap : Nat) (l : List Int) : Prop := Sl w sp cap (l.map (Value.int .i64))
theorem Nums.at_ {w : World} {sp : Option Addr} {cap : Nat} {l : List Int} (h : Nums w sp cap l) (k : Nat) (hk : k < l.length) : ∃ c o, sp = some ⟨c, o, none⟩ ∧ w.cell? ⟨c, o + k, none⟩ = some (.int .i64 (l.getD k 0)) := by
  obtain ⟨c, o, rfl, hl⟩ := h.lies (by simp; omega)
  exact ⟨c, o, rfl, hl k _ (by simp [hk])⟩
theorem below_drewN {B : Nat} {a w : World} (h : Below B a w) (n : Nat) : Below B a (w.drewN n) := ⟨h.os, h.tape, h.output, h.size, h.block⟩
theorem Below.ofGrown {B : Nat} {w w' : World} {row : Option Nat} (hg : w.grownBy w' row) (hB : B ≤ w.heap.size) (hr : ∀ k, row = some k → B ≤ k) : Below B w w' :=
  ⟨hg.os, hg.tape, hg.output, hg.size, fun k hk => hg.block k (by omega) (fun e => by have := hr _ e.symm; omega)⟩
theorem info3 : (Try.prog.info? 3).map (fun i => (i.zero, i.size, i.bytes)) = some (some (.int .i64 0), 1, 8) := by kernel_rfl
theorem size3 : (Try.prog.info? 3).map (·.size) = some 1 := by kernel_rfl
theorem Sl.all1 {w : World} {base e n : Nat} {v : Value} {xs : List Value} (h : w.ownsRow base e 1 v n xs) : ∃ sp cap, v = .slice sp n cap ∧ xs.length = n ∧ Sl w sp cap xs ∧ (∀ c o, sp = some ⟨c, o, none⟩ → base ≤ c) := by
  have hl : xs.length = n := by have := h.1; simpa using this
  rcases h.2 with ⟨rfl, rfl⟩ | ⟨g, cap, cur, rfl, hbg, hg, hnc, hcm, _, htake⟩
  · obtain rfl : xs = [] := List.eq_nil_of_length_eq_zero hl
    exact ⟨none, 0, rfl, rfl, Sl.nil w, fun _ _ h => by cases h⟩
  · refine ⟨_, cap, rfl, hl, ⟨by omega, hcm, (fun h => by cases h), fun _ => ⟨g, 0, rfl, fun i v hv => ?_⟩⟩, fun c o h => by cases h; exact hbg⟩
    have := h.cells (g := g) rfl i v hv
    rwa [add_plain] at this
section
variable {w : World} {ops : Array Oper} {rest : List Oper} {o : Oper} {a : Act} {Q : Exit → Act → World → Prop}
/-- append of what lies in a slice to a row of the call's own -/
theorem wpList_append_sl (t e : TypeId) (by_ : Nat) (z : Value) (hu : Try.prog.underlying t = some (.slice e)) (hinf : (Try.prog.info? e).map (fun i => (i.zero, i.size, i.bytes)) = some (some z, 1, by_)) (hzc : z.cells.size = 1) (hby : by_ ≤ 100)
    (hgd : o.guard = none) (s x : Operand)
    (ho : o.op = .call { callee := .builtin .append, args := #[s, x], argTypes := #[t, t] }) (base : Nat) (v : Value) (n m : Nat) (xs ys : List Value) (hs : a.eval s = v) (hown : w.ownsRow base e 1 v n xs)
    (sp : Option Addr) (cap : Nat) (hx : a.eval x = .slice sp m cap) (hm : ys.length = m) (hb : Sl w sp cap ys) (h1 : ∀ v ∈ ys, v.oneCell' = true) (hn : n + m ≤ 1000000) (hbase : base ≤ w.heap.size)
    (h : ∀ v' w', w'.ownsRow base e 1 v' (n + m) (xs ++ ys) → w.grownBy w' v.ownBlock → wpList Try.prog ops Q rest (a.put o.dst v') w') : wpList Try.prog ops Q (o :: rest) a w := by
  subst hm
  obtain ⟨i0, hi, hz0, hz1, hz2⟩ := info_parts hinf
  rcases sp with _ | ad
  · obtain rfl := hb.nul rfl
    have h0 : ys = [] := List.eq_nil_of_length_eq_zero (by have := hb.le; omega)
    subst h0
    refine wpList_append_own_none hgd s x t ho base e i0 1 hu hi v n _ hs hown hx ?_
    exact h v w (by simpa using hown) ⟨rfl, rfl, rfl, Nat.le_refl _, fun _ _ _ => rfl⟩
  · have hcells : ∀ j u, ys[j]? = some u → w.cell? (ad.add j) = some u := by
      intro j u hu
      have hj : 0 < ys.length := by
        by_cases h0 : 0 < ys.length
        · exact h0
        · have : ys = [] := List.eq_nil_of_length_eq_zero (by omega)
          subst this
          simp at hu
      obtain ⟨c, o', e, hl⟩ := hb.lies hj
      cases e
      exact hl.src j u hu
    obtain ⟨v', w', hrun, hown', hg, _⟩ := run_append_own (P := Try.prog) w base t o.type e i0 z 1 by_ hu hi hz0 hz1 hz2 hzc (by decide) v n _ hown ad ys.length cap ys (by simp) hcells h1
      (by unfold maxLen; omega) (Nat.le_trans (Nat.mul_le_mul hn hby) (by decide)) hbase
    refine wpList_plain hgd fun K hK => ?_
    unfold Oper.wp
    simp [execOp, ho, resolve, invoke, builtin, hs, hx, hrun, Result.andThen]
    exact hK _ _ (h v' w' hown' hg)
end
theorem owns_below {w w' : World} {base e n : Nat} {v : Value} {xs : List Value} (h : w.ownsRow base e 1 v n xs) (hb : Below w.heap.size w w') : w'.ownsRow base e 1 v n xs :=
  h.kept (row := none) ⟨hb.os, hb.tape, hb.output, hb.size, fun k hk _ => hb.block k hk⟩ (by cases v.ownBlock <;> simp)

section
variable {w : World} {ops : Array Oper} {rest : List Oper} {o : Oper} {a : Act} {Q : Exit → Act → World → Prop}
end
theorem Sl.new (w : World) (l : List Value) (cs : Array Value) (t : TypeId) (fr : Nat × Nat) (hc : cs = l.toArray) (hl : l.length ≤ 1000000) : Sl (w.alloc (.cells cs t fr)) (some ⟨w.heap.size, 0, none⟩) l.length l := by
  subst hc
  refine ⟨by simp, by unfold maxLen; omega, (fun h => by cases h), fun _ => ⟨_, _, rfl, fun i v hv => ?_⟩⟩
  rw [cell_of_row _ _ _ _ _ _ (heap_alloc_new _ _), ← hv]
  simp
theorem one_ints (l : List Int) : ∀ v ∈ l.map (Value.int .i64), v.oneCell' = true := by
  intro v hv
  obtain ⟨x, _, rfl⟩ := List.mem_map.1 hv
  rfl
theorem Nums.below {w w' : World} {sp : Option Addr} {cap : Nat} {l : List Int} (h : Nums w sp cap l) (hb : Below w.heap.size w w') : Nums w' sp cap l := Sl.below h (Nat.le_refl _) hb
theorem Nums.len {w : World} {sp : Option Addr} {cap : Nat} {l : List Int} (h : Nums w sp cap l) : l.length ≤ 9223372036854775807 := by have := Sl.len h; simpa using this
theorem Nums.cap {w : World} {sp : Option Addr} {cap : Nat} {l : List Int} (h : Nums w sp cap l) : l.length ≤ cap ∧ cap ≤ 9223372036854775807 := by
  have h1 := h.le
  have h2 := h.max
  unfold maxLen at h2
  rw [List.length_map] at h1
  omega
/-- what the call owns is a slice of numbers -/
theorem own_nums {w : World} {base n : Nat} {v : Value} {l : List Int} (h : w.ownsRow base 3 1 v n (l.map (Value.int .i64))) : ∃ sp cap, v = .slice sp n cap ∧ l.length = n ∧ Nums w sp cap l := by
  obtain ⟨sp, cap, e, hl, hs, _⟩ := Sl.all1 h
  exact ⟨sp, cap, e, by simpa using hl, hs⟩
end Go.Proofs.Ytdffbjjiojheoaa.Tn
-- from Gc
namespace Go.Proofs.Ytdffbjjiojheoaa.Tn
open Go.ChangeShapes Go.WideShapes Go.ChangeAt Go.RowKit Go.Proofs.Ytdffbjjiojheoaa.Fx Go.Proofs.Ytdffbjjiojheoaa.Rf
end Go.Proofs.Ytdffbjjiojheoaa.Tn
-- from Gd
namespace Go.Proofs.Ytdffbjjiojheoaa.Tn
open Go.ChangeShapes Go.WideShapes Go.ChangeAt Go.RowKit Go.Proofs.Ytdffbjjiojheoaa.Fx Go.Proofs.Ytdffbjjiojheoaa.Rf
theorem mul_rc {r c : Int} (hr : 1 ≤ r ∧ r ≤ 512) (hc : 1 ≤ c ∧ c ≤ 64) : 1 ≤ r * c ∧ r * c ≤ 32768 := by
  have h1 : r * c ≤ 512 * 64 := Int.mul_le_mul hr.2 hc.2 (by omega) (by omega)
  have h2 : 1 * 1 ≤ r * c := Int.mul_le_mul hr.1 hc.1 (by omega) (by omega)
  omega
theorem of_get {p : Int → Prop} {l : List Int} (h : ∀ i, i < l.length → p (l.getD i 0)) : ∀ x ∈ l, p x := fun x hx => by
  obtain ⟨i, hi, rfl⟩ := List.mem_iff_getElem.1 hx
  have := h i hi
  rwa [List.getD_eq_getElem?_getD, List.getElem?_eq_getElem hi] at this
end Go.Proofs.Ytdffbjjiojheoaa.Tn
-- from Ge
namespace Go.Proofs.Ytdffbjjiojheoaa.Tn
open Go.ChangeShapes Go.WideShapes Go.ChangeAt Go.RowKit Go.Proofs.Ytdffbjjiojheoaa.Fx Go.Proofs.Ytdffbjjiojheoaa.Rf
section
variable {W : World} {ops : Array Oper} {rest : List Oper} {o : Oper} {a : Act} {Q : Exit → Act → World → Prop}
/-- append of one number to a row of the call's own -/
theorem wpList_push (hgd : o.guard = none) (s x : Operand) (ho : o.op = .call { callee := .builtin .append, args := #[s, x], argTypes := #[23, 23] }) (base : Nat) (v : Value) (n : Nat) (l : List Int) (y : Int) (hs : a.eval s = v) (hown : W.ownsRow base 3 1 v n (l.map (Value.int .i64)))
    (hx : a.eval x = .slice (some ⟨W.heap.size, 0, none⟩) 1 1) (hn : n ≤ 999999) (hbase : base ≤ W.heap.size)
    (h : ∀ v' w', w'.ownsRow base 3 1 v' (n + 1) ((l ++ [y]).map (Value.int .i64)) → Below base W w' → wpList Try.prog ops Q rest (a.put o.dst v') w') : wpList Try.prog ops Q (o :: rest) a (W.alloc (.cells #[.int .i64 y] 3)) := by
  have hb : Below W.heap.size W (W.alloc (.cells #[.int .i64 y] 3)) := (Below.refl _ _).alloc (Nat.le_refl _) _
  have hsl : Sl (W.alloc (.cells #[.int .i64 y] 3)) (some ⟨W.heap.size, 0, none⟩) 1 [.int .i64 y] := Sl.new W [.int .i64 y] #[.int .i64 y] 3 (0, 0) rfl (by simp)
  have ho' := owns_below hown hb
  refine wpList_append_sl 23 3 8 (.int .i64 0) Try.underlying23 info3 rfl (by decide) hgd s x ho base v n 1 (l.map (Value.int .i64)) [.int .i64 y] hs ho' (some ⟨W.heap.size, 0, none⟩) 1 hx rfl hsl (fun v hv => by simp at hv; subst hv; rfl) (by omega) (by simp; omega) ?_
  intro v' w' h1 h2
  refine h v' w' (by rw [List.map_append]; exact h1) ((hb.mono hbase).trans (Below.ofGrown h2 (by simp; omega) (fun k hk => (ho'.lt k hk).1)))
end
/-- a slice of numbers that is answered -/
def AnsN (w : World) (l : List Int) (e : Ending) (w' : World) : Prop := ∃ sp cap, e = .returned (.slice sp l.length cap) ∧ Nums w' sp cap l ∧ Below w.heap.size w w'
end Go.Proofs.Ytdffbjjiojheoaa.Tn
-- from Gf
namespace Go.Proofs.Ytdffbjjiojheoaa.Tn
open Go.ChangeShapes Go.WideShapes Go.ChangeAt Go.RowKit Go.Proofs.Ytdffbjjiojheoaa.Fx Go.Proofs.Ytdffbjjiojheoaa.Rf
end Go.Proofs.Ytdffbjjiojheoaa.Tn
-- from Gq
namespace Go.Proofs.Ytdffbjjiojheoaa.Tn
open Go.ChangeShapes Go.WideShapes Go.ChangeAt Go.RowKit Go.Proofs.Ytdffbjjiojheoaa.Fx Go.Proofs.Ytdffbjjiojheoaa.Rf
section
variable {P : Program} {ops : Array Oper} {C : World → Prop} {Q : Act → Prop} {a : Act} {o : Oper} {rest : List Oper}
end
theorem exec_call {P : Program} {a : Act} {o : Oper} {W : World} (f : FuncId) (xs : Array Operand) (ats : Array TypeId) (vs : Array Value) (ho : o.op = .call { callee := .value (.func f), args := xs, argTypes := ats }) (hx : xs.map a.eval = vs)
    (hf : (callFunc f vs).run P W = .ok (.enter f vs) W) : (execOp a.eval o).run P W = .ok (.enter f vs) W := by
  unfold execOp
  simp only [ho, resolve, hx, BigFrame.eval_func, Deferred.ofValue, Sem.run_bind, Sem.run_pure, Result.andThen_ok, invoke, Array.empty_append, Array.append_empty]
  exact hf
theorem exec_call1 {P : Program} {a : Act} {o : Oper} {W : World} (f : FuncId) (x : Operand) (ats : Array TypeId) (v : Value) (ho : o.op = .call { callee := .value (.func f), args := #[x], argTypes := ats }) (hx : a.eval x = v)
    (hf : (callFunc f #[v]).run P W = .ok (.enter f #[v]) W) : (execOp a.eval o).run P W = .ok (.enter f #[v]) W :=
  exec_call f #[x] ats #[v] ho (by simp [hx]) hf
theorem cf {P : Program} {f : FuncId} {fn : Func} (hf : P.funcs[f]? = some fn) (hn : (fn.name == "runtime.NumGoroutine") = false) (hb : fn.body.isNone = false) (vs : Array Value) (W : World) : (callFunc f vs).run P W = .ok (.enter f vs) W := by
  simp only [callFunc, Sem.run_bind, run_program, Result.andThen_ok, hf, hn, hb, Bool.false_eq_true, if_false, Sem.run_pure]
/-- whoever stands between m and n is waited for by one behind it, up to n -/
def sinkFrom (ops : Array Oper) (m n : Nat) : Bool := (List.range n).all fun i => decide (i < m) || (List.range (n + 1)).any fun j => decide (i < j) && Region.waitsFor .any ops j i
theorem late_waits {ops : Array Oper} {m n : Nat} {listed : Array Bool} (hs : sinkFrom ops m n = true) (hc : Region.chainB .any ops n = true) (hn : n < ops.size) (inv : HeadInv .any ops n listed) :
    ∀ (d i : Nat), n - i = d → m ≤ i → i < n → listed.getD i true = false → ∀ t, n ≤ t → t ∉ Region.ready .any ops listed := by
  intro d
  induction d using Nat.strongRecOn with
  | _ d ih =>
    intro i hd hm hi hun t ht hr
    obtain ⟨_, ot, hot, hall⟩ := mem_ready.1 hr
    have htlt : t < ops.size := (Array.getElem?_eq_some_iff.1 hot).1
    by_cases htn : t = n
    · subst htn
      have h1 := List.all_eq_true.1 hs i (List.mem_range.2 hi)
      simp only [Bool.or_eq_true, decide_eq_true_eq] at h1
      rcases h1 with h1 | h1
      · omega
      obtain ⟨j, hj, hj2⟩ := List.any_eq_true.1 h1
      simp only [Bool.and_eq_true, decide_eq_true_eq] at hj2
      obtain ⟨oj, hoj, e, he, hb, hon⟩ := Region.waitsFor_spec hj2.2
      have hjle : j ≤ t := by have := List.mem_range.1 hj; omega
      by_cases hjt : j = t
      · subst hjt
        have : oj = ot := Option.some.inj (hoj.symm.trans hot)
        subst this
        have h2 := hall e he hb
        rw [hon, getD_both hun] at h2
        cases h2
      · cases hl : listed.getD j false with
        | true =>
          have h2 := inv.closed j oj hoj hl e he hb
          rw [hon, getD_both hun] at h2
          cases h2
        | false =>
          have hjs : j < listed.size := by rw [inv.size]; omega
          exact ih (t - j) (by omega) j rfl (by omega) (by omega) (getD_in hjs hl) t (Nat.le_refl _) hr
    · have h1 := List.all_eq_true.1 hc t (List.mem_range.2 htlt)
      simp only [Bool.or_eq_true, decide_eq_true_eq] at h1
      rcases h1 with h1 | h1
      · omega
      · obtain ⟨o', ho', e, he, hb, hon⟩ := Region.waitsFor_spec h1
        have : o' = ot := Option.some.inj (ho'.symm.trans hot)
        subst this
        have h2 := hall e he hb
        rw [hon, getD_both (inv.tail (t - 1) (by omega) (by omega))] at h2
        cases h2
section
variable {P : Program} {ops : Array Oper} {C : World → Prop}
/-- what has come up, with all that it waited for -/
structure Shutd (ops : Array Oper) (listed : Array Bool) : Prop where
  size : listed.size = ops.size
  closed : ∀ j oj, ops[j]? = some oj → listed.getD j false = true → ∀ e ∈ oj.after, Region.binds .any e = true → listed.getD e.on false = true
theorem Shutd.set {listed : Array Bool} {i : Nat} (inv : Shutd ops listed) (hi : i ∈ Region.ready .any ops listed) : Shutd ops (listed.setIfInBounds i true) := by
  obtain ⟨_, oi, hoi, hall⟩ := mem_ready.1 hi
  refine ⟨by simp [inv.size], fun j oj hj hl e he hb => ?_⟩
  by_cases hij : i = j
  · subst hij
    have : oj = oi := Option.some.inj (hj.symm.trans hoi)
    subst this
    exact getD_set_true (hall e he hb)
  · rw [getD_set_ne false hij] at hl
    exact getD_set_true (inv.closed j oj hj hl e he hb)
end
section
variable {P : Program} {F : Fence} {n : Nat} {b : Frame} {a : Act} {k : List Item} {cs : List Frame} {w : World} {Q : Exit → Act → World → Prop}
end
/-! ### a region whose operations come up in whatever order, each told by what it yields -/
/-- what an operation yields -/
def Gives (P : Program) (o : Oper) (a : Act) (w : World) (G : Value → World → Prop) : Prop :=
  match (execOp a.eval o).run P w with
  | .ok (.value v) w' => G v w'
  | .ok .skip w' => G undef w'
  | .ok (.enter f args) w' => Calls P f args w' fun e w'' => ∃ v, e = .returned v ∧ G v w''
  | _ => False
theorem gives_val {P : Program} {o : Oper} {a : Act} {w : World} {G : Value → World → Prop} (v : Value) (w' : World) (h : (execOp a.eval o).run P w = .ok (.value v) w') (hG : G v w') : Gives P o a w G := by unfold Gives; rw [h]; exact hG
theorem gives_call {P : Program} {o : Oper} {a : Act} {w : World} {G : Value → World → Prop} (f : FuncId) (args : Array Value) (h : (execOp a.eval o).run P w = .ok (.enter f args) w) (hG : Calls P f args w fun e w'' => ∃ v, e = .returned v ∧ G v w'') : Gives P o a w G := by unfold Gives; rw [h]; exact hG
theorem wp_of_gives {P : Program} {o : Oper} {a : Act} {w : World} {G : Value → World → Prop} {K : Act → World → Prop} {Q : Exit → Act → World → Prop} (h : Gives P o a w G) (hk : ∀ v w', G v w' → K (a.put o.dst v) w') : o.wp P a w K Q := by
  unfold Gives at h
  unfold Oper.wp
  generalize (execOp a.eval o).run P w = r at *
  cases r with
  | ok x w' =>
    cases x <;> simp only [Oper.upon] at h ⊢
    case value v => exact hk _ _ h
    case skip => exact hk _ _ h
    case enter f args => exact h.mono fun e w'' ⟨v, e1, hg⟩ => by subst e1; exact hk _ _ hg
  | halt x w' => exact h.elim
section
variable {P : Program} {ops : Array Oper} {C : World → Prop} {Pre : Nat → World → Prop} {Le : Nat → World → World → Prop} {Φ : (Nat → Value) → Nat → World → Value → Prop}
/-- each one's word, told over the frame in which all those ahead of it have yielded -/
def specAll (P : Program) (ops : Array Oper) (C : World → Prop) (Pre : Nat → World → Prop) (Le : Nat → World → World → Prop) (Φ : (Nat → Value) → Nat → World → Value → Prop) (u : Nat → Value) : List Oper → Nat → Act → Prop
  | [], _, _ => True
  | o :: l, k, b => (∀ w, C w → Pre k w → (∀ e ∈ o.after.toList, Region.binds .any e = true → Φ u e.on w (u e.on)) → Region.wanted o (yielded ops b.tmps) = true ∧ Gives P o b w (fun v w' => C w' ∧ Le k w w' ∧ Φ u k w' v)) ∧ specAll P ops C Pre Le Φ u l (k + 1) (b.put o.dst (u k))
theorem spec_cons_at {u : Nat → Value} {o : Oper} {l : List Oper} {k : Nat} {b : Act} (h1 : ∀ w, C w → Pre k w → (∀ e ∈ o.after.toList, Region.binds .any e = true → Φ u e.on w (u e.on)) → Region.wanted o (yielded ops b.tmps) = true ∧ Gives P o b w (fun v w' => C w' ∧ Le k w w' ∧ Φ u k w' v)) (h2 : specAll P ops C Pre Le Φ u l (k + 1) (b.put o.dst (u k))) :
    specAll P ops C Pre Le Φ u (o :: l) k b := ⟨h1, h2⟩
theorem spec_cons {u : Nat → Value} {o : Oper} {l : List Oper} {k : Nat} {b : Act} (h1 : ∀ w, C w → (∀ e ∈ o.after.toList, Region.binds .any e = true → Φ u e.on w (u e.on)) → Region.wanted o (yielded ops b.tmps) = true ∧ Gives P o b w (fun v w' => C w' ∧ Le k w w' ∧ Φ u k w' v)) (h2 : specAll P ops C Pre Le Φ u l (k + 1) (b.put o.dst (u k))) :
    specAll P ops C Pre Le Φ u (o :: l) k b := ⟨fun w hC _ hd => h1 w hC hd, h2⟩
theorem spec_nil {u : Nat → Value} {k : Nat} {b : Act} : specAll P ops C Pre Le Φ u [] k b := trivial
def putAll (u : Nat → Value) : List Oper → Nat → Act → Act
  | [], _, a => a
  | o :: l, k, a => putAll u l (k + 1) (a.put o.dst (u k))
theorem specAll_at {u : Nat → Value} : ∀ (l : List Oper) (k : Nat) (b : Act) (i : Nat) (o : Oper), specAll P ops C Pre Le Φ u l k b → l[i]? = some o →
    ∀ w, C w → Pre (k + i) w → (∀ e ∈ o.after.toList, Region.binds .any e = true → Φ u e.on w (u e.on)) → Region.wanted o (yielded ops (putAll u (l.take i) k b).tmps) = true ∧ Gives P o (putAll u (l.take i) k b) w (fun v w' => C w' ∧ Le (k + i) w w' ∧ Φ u (k + i) w' v)
  | [], _, _, _, _, _, h => by simp at h
  | o :: l, k, b, 0, o', hs, h => by
    obtain rfl : o = o' := by simpa using h
    exact hs.1
  | o :: l, k, b, i + 1, o', hs, h => by
    have := specAll_at l (k + 1) _ i o' hs.2 (by simpa using h)
    rw [show k + (i + 1) = k + 1 + i by omega]
    exact this
theorem put_getD (a : Act) (dst : Option Tmp) (v : Value) (t : Tmp) : (a.put dst v).tmps.getD t undef = if dst = some t ∧ t < a.tmps.size then v else a.tmps.getD t undef := by
  cases dst with
  | none => simp [Act.put]
  | some d =>
    simp only [Act.put, Option.some.injEq]
    by_cases hd : d = t
    · subst hd
      by_cases hl : d < a.tmps.size
      · rw [if_pos ⟨rfl, hl⟩]; simp [Array.getD, hl]
      · rw [if_neg (fun h => hl h.2)]; simp [Array.getD, hl]
    · rw [if_neg (fun h => hd h.1)]
      simp [Array.getElem?_setIfInBounds_ne hd]
theorem put_size (a : Act) (dst : Option Tmp) (v : Value) : (a.put dst v).tmps.size = a.tmps.size := by cases dst <;> simp [Act.put]
theorem put_defers' (a : Act) (dst : Option Tmp) (v : Value) : (a.put dst v).defers = a.defers := by cases dst <;> simp [Act.put]
theorem putAll_size (u : Nat → Value) : ∀ (l : List Oper) (k : Nat) (a : Act), (putAll u l k a).tmps.size = a.tmps.size ∧ (putAll u l k a).defers = a.defers
  | [], _, _ => ⟨rfl, rfl⟩
  | o :: l, k, a => by
    have := putAll_size u l (k + 1) (a.put o.dst (u k))
    exact ⟨this.1.trans (put_size _ _ _), this.2.trans (put_defers' _ _ _)⟩
/-- a slot that nobody of l writes -/
theorem putAll_other (u : Nat → Value) (t : Tmp) : ∀ (l : List Oper) (k : Nat) (a : Act), (∀ o ∈ l, o.dst ≠ some t) → (putAll u l k a).tmps.getD t undef = a.tmps.getD t undef
  | [], _, _, _ => rfl
  | o :: l, k, a, h => by
    rw [putAll, putAll_other u t l (k + 1) _ (fun o ho => h o (by simp [ho])), put_getD, if_neg (fun hh => h o (by simp) hh.1)]
/-- a slot that the j-th one writes, and none behind it -/
theorem putAll_same (u : Nat → Value) (t : Tmp) : ∀ (l : List Oper) (k : Nat) (a : Act) (j : Nat) (o : Oper), l[j]? = some o → o.dst = some t → t < a.tmps.size → (∀ i oi, l[i]? = some oi → j < i → oi.dst ≠ some t) → (putAll u l k a).tmps.getD t undef = u (k + j)
  | [], _, _, _, _, h, _, _, _ => by simp at h
  | o :: l, k, a, 0, o', h, hd, ht, hn => by
    obtain rfl : o = o' := by simpa using h
    rw [putAll, putAll_other u t l (k + 1) _ (fun x hx => by
      obtain ⟨i, hi⟩ := List.getElem?_of_mem hx
      exact hn (i + 1) x (by simpa using hi) (by omega)), put_getD, if_pos ⟨hd, ht⟩]
    rfl
  | o :: l, k, a, j + 1, o', h, hd, ht, hn => by
    rw [putAll, putAll_same u t l (k + 1) _ j o' (by simpa using h) hd (by rw [put_size]; exact ht) (fun i oi hi hj => hn (i + 1) oi (by simpa using hi) (by omega)), show k + 1 + j = k + (j + 1) by omega]

/-- the region's own shape: no slot is written twice among the first n; whoever looks at a slot waits for who writes it, who stands ahead of it -/
def specB (ops : Array Oper) (n : Nat) : Bool :=
  Region.noSelect ops && decide (n < ops.size) && sinkFrom ops 0 n && Region.chainB .any ops n &&
  ((List.range n).all fun i => (List.range n).all fun j => decide (i = j) || match ops[i]?, ops[j]? with | some oi, some oj => !(oi.dst.isSome && oi.dst == oj.dst) | _, _ => false) &&
  ((List.range n).all fun i => match ops[i]? with
    | some oi => (oi.looksAt ops).all fun t => (List.range ops.size).all fun j => match ops[j]? with | some oj => oj.dst != some t || decide (n ≤ j) || (decide (j < i) && Region.waitsFor .any ops i j) | none => false
    | none => false) &&
  ((List.range n).all fun i => match ops[i]? with | some oi => oi.after.all fun e => !Region.binds .any e || decide (e.on < i) | none => false) &&
  Region.seqB .any ops (ops.size - n) n ((List.range n).foldl (fun l i => l.setIfInBounds i true) (Array.replicate ops.size false))
/-- how it stands when those listed have come up -/
structure SpecInv (P : Program) (ops : Array Oper) (C : World → Prop) (Pre : Nat → World → Prop) (Φ : (Nat → Value) → Nat → World → Value → Prop) (a0 : Act) (u : Nat → Value) (listed : Array Bool) (a : Act) (w : World) : Prop where
  world : C w
  size : a.tmps.size = a0.tmps.size
  defers : a.defers = a0.defers
  val : ∀ j oj d, ops[j]? = some oj → listed.getD j false = true → oj.dst = some d → d < a0.tmps.size → a.tmps.getD d undef = u j
  word : ∀ j, listed.getD j false = true → Φ u j w (u j)
  rest : ∀ t, (∀ j oj, ops[j]? = some oj → listed.getD j false = true → oj.dst ≠ some t) → a.tmps.getD t undef = a0.tmps.getD t undef
  pre : ∀ j, j < ops.size → listed.getD j true = false → Pre j w
/-- how many of the first k have not come up -/
def cntU (listed : Array Bool) : Nat → Nat
  | 0 => 0
  | k + 1 => cntU listed k + if listed.getD k true = true then 0 else 1
theorem cntU_far {listed : Array Bool} {i : Nat} : ∀ k, k ≤ i → cntU (listed.setIfInBounds i true) k = cntU listed k
  | 0, _ => rfl
  | k + 1, h => by rw [cntU, cntU, cntU_far k (by omega), getD_set_ne true (by omega)]
theorem cntU_set {listed : Array Bool} {i : Nat} (hun : listed.getD i true = false) : ∀ k, i < k → cntU listed k = cntU (listed.setIfInBounds i true) k + 1
  | 0, h => absurd h (by omega)
  | k + 1, h => by
    rw [cntU, cntU]
    by_cases hik : i = k
    · subst hik
      rw [cntU_far i (Nat.le_refl _), hun]
      have : (listed.setIfInBounds i true).getD i true = true := by
        rw [Array.getD_eq_getD_getElem?, Array.getElem?_setIfInBounds]
        simp
        split <;> rfl
      rw [this]
      simp
    · rw [cntU_set hun k (by omega), getD_set_ne true hik]
      omega
theorem cntU_zero {listed : Array Bool} : ∀ k, cntU listed k = 0 → ∀ j, j < k → listed.getD j true = true
  | 0, _, _, h => absurd h (by omega)
  | k + 1, h, j, hj => by
    rw [cntU] at h
    by_cases hk : listed.getD k true = true
    · by_cases hjk : j = k
      · subst hjk; exact hk
      · exact cntU_zero k (by omega) j (by omega)
    · rw [if_neg hk] at h; omega
theorem cntU_least {listed : Array Bool} : ∀ k, cntU listed k ≠ 0 → ∃ j, j < k ∧ listed.getD j true = false ∧ ∀ i, i < j → listed.getD i true = true
  | 0, h => absurd rfl h
  | k + 1, h => by
    by_cases hk : cntU listed k = 0
    · refine ⟨k, by omega, ?_, cntU_zero k hk⟩
      rw [cntU, hk] at h
      by_cases hh : listed.getD k true = true
      · rw [if_pos hh] at h; omega
      · simpa using hh
    · obtain ⟨j, h1, h2, h3⟩ := cntU_least k hk
      exact ⟨j, by omega, h2, h3⟩
theorem fold_get (N : Nat) : ∀ (n j : Nat), n ≤ N → (((List.range n).foldl (fun l i => l.setIfInBounds i true) (Array.replicate N false)).size = N ∧ ∀ d, j < N → ((List.range n).foldl (fun l i => l.setIfInBounds i true) (Array.replicate N false)).getD j d = decide (j < n))
  | 0, j, _ => ⟨by simp, fun d hj => by simp [hj]⟩
  | n + 1, j, h => by
    obtain ⟨h1, h2⟩ := fold_get N n j (by omega)
    rw [List.range_succ, List.foldl_append]
    refine ⟨by simp [h1], fun d hj => ?_⟩
    simp only [List.foldl_cons, List.foldl_nil]
    by_cases hjn : n = j
    · subst hjn
      rw [Array.getD_eq_getD_getElem?, Array.getElem?_setIfInBounds]
      simp [h1, hj]
    · rw [getD_set_ne d hjn, h2 d hj]
      congr 1
      apply propext
      omega
theorem get_of_getD {x y : Array Value} {t : Nat} (hs : x.size = y.size) (h : x.getD t undef = y.getD t undef) : (some t).bind (fun k => x[k]?) = (some t).bind (fun k => y[k]?) := by
  simp only [Option.bind_some]
  by_cases ht : t < x.size
  · have ht' : t < y.size := by omega
    simp only [Array.getD, ht, ht', dif_pos] at h
    rw [Array.getElem?_eq_getElem ht, Array.getElem?_eq_getElem ht']
    exact congrArg some h
  · rw [Array.getElem?_eq_none (by omega), Array.getElem?_eq_none (by omega)]
theorem getD_agree {listed : Array Bool} {N j : Nat} (hs : listed.size = N) (hj : j < N) (d e : Bool) : listed.getD j d = listed.getD j e := by simp [Array.getD, hs, hj]
theorem spec_any {Q : Exit → Act → World → Prop} {a0 : Act} {n : Nat} (hB : specB ops n = true) (hU : ∀ (u u' : Nat → Value) (j : Nat) w v, (∀ oj, ops[j]? = some oj → ∀ e ∈ oj.after, Region.binds .any e = true → u e.on = u' e.on) → Φ u j w v → Φ u' j w v) (hLe : ∀ u j k w w' v, j ≠ k → Le k w w' → Φ u j w v → Φ u j w' v) (hPre : ∀ j k w w', j ≠ k → Le k w w' → Pre j w → Pre j w') (Ψ : Nat → Value → Prop) (hΨ : ∀ u j w v, Φ u j w v → Ψ j v) (h : ∀ u, (∀ j, Ψ j (u j)) → specAll P ops C Pre Le Φ u (ops.toList.take n) 0 a0)
    (hend : ∀ u a w, (∀ j, Ψ j (u j)) → C w → (∀ j, j < n → Φ u j w (u j)) → a = putAll u (ops.toList.take n) 0 a0 → wpList P ops Q (ops.toList.drop n) a w) :
    ∀ (f : Nat) (listed : Array Bool) (a : Act) (w : World) (u : Nat → Value), (∀ j, Ψ j (u j)) → HeadInv .any ops n listed → cntU listed n = f → SpecInv P ops C Pre Φ a0 u listed a w → wpAny P .any ops Q (f + (ops.size - n)) listed a w := by
  simp only [specB, Bool.and_eq_true, decide_eq_true_eq] at hB
  obtain ⟨⟨⟨⟨⟨⟨⟨hsel, hn⟩, hs⟩, hc⟩, hdist⟩, hlook⟩, hdep⟩, hseq⟩ := hB
  have hdep' : ∀ i oi, i < n → ops[i]? = some oi → ∀ e ∈ oi.after, Region.binds .any e = true → e.on < i := fun i oi hi hoi e he hb => by
    have h1 := List.all_eq_true.1 hdep i (List.mem_range.2 hi)
    simp only [hoi] at h1
    have h2 := Array.all_eq_true_iff_forall_mem.1 h1 e he
    rw [hb] at h2
    simpa using h2
  have hdist' : ∀ i j oi oj d, i < n → j < n → i ≠ j → ops[i]? = some oi → ops[j]? = some oj → oi.dst = some d → oj.dst ≠ some d := fun i j oi oj d hi hj hij hoi hoj hd hd2 => by
    have h1 := List.all_eq_true.1 (List.all_eq_true.1 hdist i (List.mem_range.2 hi)) j (List.mem_range.2 hj)
    simp [hij, hoi, hoj, hd, hd2] at h1
  have hlook' : ∀ i j oi oj t, i < n → ops[i]? = some oi → ops[j]? = some oj → t ∈ oi.looksAt ops → oj.dst = some t → n ≤ j ∨ (j < i ∧ Region.waitsFor .any ops i j = true) := fun i j oi oj t hi hoi hoj ht hd => by
    have h1 := List.all_eq_true.1 hlook i (List.mem_range.2 hi)
    simp only [hoi] at h1
    have h2 := List.all_eq_true.1 (List.all_eq_true.1 h1 t ht) j (List.mem_range.2 (Array.getElem?_eq_some_iff.1 hoj).1)
    simp only [hoj, hd] at h2
    simpa using h2
  intro f
  induction f with
  | zero =>
    intro listed a w u hu inv hcnt hi
    have hall := cntU_zero n hcnt
    have hlist : listed = (List.range n).foldl (fun l i => l.setIfInBounds i true) (Array.replicate ops.size false) := by
      apply Array.ext
      · rw [inv.size, (fold_get ops.size n 0 (by omega)).1]
      · intro j h1 h2
        rw [inv.size] at h1
        have e1 : listed[j] = listed.getD j true := by simp [Array.getD, inv.size, h1]
        have e2 := (fold_get ops.size n j (by omega)).2 true h1
        have e3 : ((List.range n).foldl (fun l i => l.setIfInBounds i true) (Array.replicate ops.size false))[j] = ((List.range n).foldl (fun l i => l.setIfInBounds i true) (Array.replicate ops.size false)).getD j true := by simp [Array.getD, h2]
        rw [e1, e3, e2]
        by_cases hj : j < n
        · rw [hall j hj]; simp [hj]
        · rw [inv.tail j (by omega) h1]; simp [hj]
    have htake : ∀ j oj, ops[j]? = some oj → j < n → (ops.toList.take n)[j]? = some oj := fun j oj hoj hj => by
      rw [List.getElem?_take, if_pos hj, Array.getElem?_toList]; exact hoj
    have hput : a = putAll u (ops.toList.take n) 0 a0 := by
      obtain ⟨p1, p2⟩ := putAll_size u (ops.toList.take n) 0 a0
      have ht : a.tmps = (putAll u (ops.toList.take n) 0 a0).tmps := by
        apply Array.ext
        · rw [hi.size, p1]
        · intro t h1 h2
          have e1 : a.tmps[t] = a.tmps.getD t undef := by simp [Array.getD, h1]
          have e2 : (putAll u (ops.toList.take n) 0 a0).tmps[t] = (putAll u (ops.toList.take n) 0 a0).tmps.getD t undef := by simp [Array.getD, h2]
          rw [e1, e2]
          rw [hi.size] at h1
          by_cases hw : ∃ j oj, j < n ∧ ops[j]? = some oj ∧ oj.dst = some t
          · obtain ⟨j, oj, hj, hoj, hd⟩ := hw
            rw [hi.val j oj t hoj (by rw [getD_agree inv.size (by omega) false true]; exact hall j hj) hd h1, putAll_same u t _ 0 a0 j oj (htake j oj hoj hj) hd h1 (fun i oi hi2 hji => by
              rw [List.getElem?_take] at hi2
              split at hi2
              · rename_i hin
                rw [Array.getElem?_toList] at hi2
                exact hdist' j i oj oi t hj hin (by omega) hoj hi2 hd
              · cases hi2), Nat.zero_add]
          · rw [hi.rest t (fun j oj hoj hl hd => by
              by_cases hj : j < n
              · exact hw ⟨j, oj, hj, hoj, hd⟩
              · have := inv.tail j (by omega) (Array.getElem?_eq_some_iff.1 hoj).1
                rw [getD_both this] at hl
                cases hl), putAll_other u t _ 0 a0 (fun o ho hd => by
              obtain ⟨j, hj⟩ := List.getElem?_of_mem ho
              rw [List.getElem?_take] at hj
              split at hj
              · rename_i hjn
                rw [Array.getElem?_toList] at hj
                exact hw ⟨j, o, hjn, hj, hd⟩
              · cases hj)]
      have hdd : a.defers = (putAll u (ops.toList.take n) 0 a0).defers := by rw [hi.defers, p2]
      cases a
      cases hp : putAll u (ops.toList.take n) 0 a0
      rw [hp] at ht hdd
      simp only at ht hdd
      rw [ht, hdd]
    have hdl : (ops.toList.drop n).length = ops.size - n := by simp
    have := wpAny_of_seq (md := .any) (Q' := Q) (ops.toList.drop n) n listed a w (fun j => by rw [List.getElem?_drop, Array.getElem?_toList]) (by rw [hdl, hlist]; exact hseq)
      (hend u a w hu hi.world (fun j hj => hi.word j (by rw [getD_agree inv.size (by omega) false true]; exact hall j hj)) hput)
    rw [hdl] at this
    rw [Nat.zero_add]
    exact this
  | succ f ih =>
    intro listed a w u hu inv hcnt hi
    obtain ⟨m, hm, hmun, hmall⟩ := cntU_least n (by rw [hcnt]; omega)
    have hready : m ∈ Region.ready .any ops listed := by
      rw [mem_ready]
      obtain ⟨om, hom⟩ : ∃ om, ops[m]? = some om := ⟨_, Array.getElem?_eq_getElem (by omega)⟩
      refine ⟨hmun, om, hom, fun e he hb => ?_⟩
      have h1 := hdep' m om hm hom e he hb
      rw [getD_agree inv.size (by omega) false true]
      exact hmall _ h1
    rw [show f + 1 + (ops.size - n) = (f + (ops.size - n)) + 1 by omega]
    refine ⟨fun h0 => absurd h0 (List.ne_nil_of_mem hready), fun i hir => ?_⟩
    have hin : i < n := Nat.lt_of_not_le fun hge => late_waits hs hc hn inv _ m rfl (Nat.zero_le _) hm hmun i hge hir
    obtain ⟨hun, oi, hoi, hall⟩ := mem_ready.1 hir
    have htk : (ops.toList.take n)[i]? = some oi := by rw [List.getElem?_take, if_pos hin, Array.getElem?_toList]; exact hoi
    obtain ⟨hwant, hgives⟩ := specAll_at (ops.toList.take n) 0 a0 i oi (h u hu) htk w hi.world (by rw [Nat.zero_add]; exact hi.pre i (Array.getElem?_eq_some_iff.1 hoi).1 hun) (fun e he hb => hi.word _ (hall e (by simpa using he) hb))
    -- what it looks at reads the same in both frames
    have hagree : ∀ t ∈ oi.looksAt ops, a.tmps.getD t undef = (putAll u ((ops.toList.take n).take i) 0 a0).tmps.getD t undef := by
      intro t ht
      obtain ⟨p1, _⟩ := putAll_size u ((ops.toList.take n).take i) 0 a0
      by_cases hts : t < a0.tmps.size
      · by_cases hw : ∃ (j : Nat) (oj : Oper), j < n ∧ ops[j]? = some oj ∧ oj.dst = some t
        · obtain ⟨j, oj, hjn, hoj, hd⟩ := hw
          obtain ⟨hji, hwt⟩ := (hlook' i j oi oj t hin hoi hoj ht hd).resolve_left (by omega)
          obtain ⟨o2, ho2, e, he, hb, hon⟩ := Region.waitsFor_spec hwt
          obtain rfl : o2 = oi := Option.some.inj (ho2.symm.trans hoi)
          have hl := hall e he hb
          rw [hon] at hl
          rw [hi.val j oj t hoj hl hd hts, putAll_same u t _ 0 a0 j oj (by rw [List.getElem?_take, if_pos hji, List.getElem?_take, if_pos (by omega), Array.getElem?_toList]; exact hoj) hd hts (fun k ok hk hjk => by
            rw [List.getElem?_take] at hk
            split at hk
            · rw [List.getElem?_take] at hk
              split at hk
              · rename_i hkn
                rw [Array.getElem?_toList] at hk
                exact hdist' j k oj ok t (by omega) hkn (by omega) hoj hk hd
              · cases hk
            · cases hk), Nat.zero_add]
        · rw [hi.rest t (fun j oj hoj hl hd => hw ⟨j, oj, Nat.lt_of_not_le (fun hge => by rw [getD_both (inv.tail j hge (Array.getElem?_eq_some_iff.1 hoj).1)] at hl; cases hl), hoj, hd⟩), putAll_other u t _ 0 a0 (fun o ho hd => by
            obtain ⟨j, hj⟩ := List.getElem?_of_mem (List.mem_of_mem_take ho)
            rw [List.getElem?_take] at hj
            split at hj
            · rename_i hjn
              rw [Array.getElem?_toList] at hj
              exact hw ⟨j, o, hjn, hj, hd⟩
            · cases hj)]
      · simp [Array.getD, hi.size, p1, hts]
    have heval : ∀ x ∈ oi.op.operands, a.eval x = (putAll u ((ops.toList.take n).take i) 0 a0).eval x := by
      intro x hx
      cases x with
      | tmp t => exact hagree t (List.mem_append_left _ (List.mem_filterMap.2 ⟨.tmp t, by simpa using hx, rfl⟩))
      | _ => rfl
    have hexec : execOp a.eval oi = execOp (putAll u ((ops.toList.take n).take i) 0 a0).eval oi := execOp_congr oi (fun cs b => Region.noSelect_spec hsel i oi cs b hoi) heval
    have hwanted : Region.wanted oi (yielded ops a.tmps) = true := by
      rw [← hwant]
      unfold Region.wanted
      cases hg : oi.guard with
      | none => rfl
      | some gw =>
        obtain ⟨g, want⟩ := gw
        have hy : yielded ops a.tmps g = yielded ops (putAll u ((ops.toList.take n).take i) 0 a0).tmps g := by
          unfold yielded
          cases ht : (ops[g]?).bind (·.dst) with
          | none => rfl
          | some t =>
            have h1 := hagree t (by simp [Oper.looksAt, hg, ht])
            have h2 : a.tmps.size = (putAll u ((ops.toList.take n).take i) 0 a0).tmps.size := hi.size.trans (putAll_size u _ 0 a0).1.symm
            rw [get_of_getD h2 h1]
        simp only [hy]
    have hg2 : Gives P oi a w (fun v w' => C w' ∧ Le (0 + i) w w' ∧ Φ u (0 + i) w' v) := by
      unfold Gives
      rw [hexec]
      exact hgives
    unfold wpOp
    simp only [hoi, hwanted, if_true]
    refine .inl (wp_of_gives hg2 fun v w' ⟨hC', hLe', hΦ⟩ => ?_)
    rw [Nat.zero_add] at hΦ hLe'
    refine ih (listed.setIfInBounds i true) (a.put oi.dst v) w' (fun j => if j = i then v else u j) (fun j => by
      by_cases hji : j = i
      · subst hji; simp only [if_true]; exact hΨ _ _ _ _ hΦ
      · simp only [if_neg hji]; exact hu j) (inv.set hir hin) (by rw [cntU_set hun n hin] at hcnt; omega) ⟨hC', (put_size _ _ _).trans hi.size, (put_defers' _ _ _).trans hi.defers, ?_, ?_, ?_, fun j hjs hju => by
        by_cases hji : j = i
        · subst hji
          have hsz : j < listed.size := by rw [inv.size]; exact hjs
          rw [Array.getD_eq_getD_getElem?, Array.getElem?_setIfInBounds] at hju
          simp [hsz] at hju
        · exact hPre j i w w' hji hLe' (hi.pre j hjs (by rw [Array.getD_eq_getD_getElem?] at hju ⊢; rwa [Array.getElem?_setIfInBounds_ne (fun e => hji e.symm)] at hju))⟩
    · intro j oj d hoj hl hd hds
      by_cases hji : i = j
      · subst hji
        obtain rfl : oi = oj := Option.some.inj (hoi.symm.trans hoj)
        rw [put_getD, if_pos ⟨hd, by rw [hi.size]; exact hds⟩, if_pos rfl]
      · rw [getD_set_ne false hji] at hl
        have hjn : j < n := Nat.lt_of_not_le fun hge => by
          have := inv.tail j hge (Array.getElem?_eq_some_iff.1 hoj).1
          rw [getD_both this] at hl
          cases hl
        rw [put_getD, if_neg (fun h => hdist' j i oj oi d hjn hin (fun e => hji e.symm) hoj hoi hd h.1), if_neg (fun e => hji e.symm)]
        exact hi.val j oj d hoj hl hd hds
    · intro j hl
      by_cases hji : i = j
      · subst hji
        simp only [if_true]
        refine hU u _ i w' v (fun oj hoj e he hb => ?_) hΦ
        obtain rfl : oi = oj := Option.some.inj (hoi.symm.trans hoj)
        have := hdep' i oi hin hoi e he hb
        rw [if_neg (by omega)]
      · rw [getD_set_ne false hji] at hl
        simp only [if_neg (fun e : j = i => hji e.symm)]
        refine hU u _ j w' (u j) (fun oj hoj e he hb => ?_) (hLe _ _ _ _ _ _ (fun e => hji e.symm) hLe' (hi.word j hl))
        have h1 := inv.closed j oj hoj hl e he hb
        rw [if_neg (fun ee => by rw [ee, getD_both hun] at h1; cases h1)]
    · intro t ht
      rw [put_getD, if_neg (fun h => ht i oi hoi (by
        rw [Array.getD_eq_getD_getElem?, Array.getElem?_setIfInBounds]
        have : i < listed.size := by rw [inv.size]; omega
        simp [this]) h.1)]
      exact hi.rest t (fun j oj hoj hl => ht j oj hoj (getD_set_true hl))
/-- A region that draws its order: its first n operations are told by what they yield, the others follow in one order. -/
theorem any_spec {Q : Exit → Act → World → Prop} {a0 : Act} {w : World} {l : List Oper} (n : Nat) (Φ : (Nat → Value) → Nat → World → Value → Prop) (hB : specB l.toArray n = true) (hC : C { w with drawn := w.drawn + 1 }) (hU : ∀ (u u' : Nat → Value) (j : Nat) w v, (∀ oj, l.toArray[j]? = some oj → ∀ e ∈ oj.after, Region.binds .any e = true → u e.on = u' e.on) → Φ u j w v → Φ u' j w v) (hLe : ∀ u j k w w' v, j ≠ k → Le k w w' → Φ u j w v → Φ u j w' v) (hPre : ∀ j k w w', j ≠ k → Le k w w' → Pre j w → Pre j w') (hPre0 : ∀ j, Pre j { w with drawn := w.drawn + 1 }) (Ψ : Nat → Value → Prop) (hΨ : ∀ u j w v, Φ u j w v → Ψ j v) (u0 : Nat → Value) (hu0 : ∀ j, Ψ j (u0 j))
    (h : ∀ u, (∀ j, Ψ j (u j)) → specAll P l.toArray C Pre Le Φ u (l.take n) 0 a0) (hend : ∀ u w, (∀ j, Ψ j (u j)) → C w → (∀ j, j < n → Φ u j w (u j)) → wpList P l.toArray Q (l.drop n) (putAll u (l.take n) 0 a0) w) :
    wpAny P .any l.toArray Q l.toArray.size (Array.replicate l.toArray.size false) a0 { w with drawn := w.drawn + 1 } := by
  have hn : n < l.toArray.size := by
    simp only [specB, Bool.and_eq_true, decide_eq_true_eq] at hB
    exact hB.1.1.1.1.1.1.2
  have inv0 : HeadInv .any l.toArray n (Array.replicate l.toArray.size false) :=
    ⟨by simp, fun j oj _ hl => (by rw [getD_replicate_false] at hl; cases hl), fun t _ ht => getD_in (by simpa using ht) (getD_replicate_false _ _)⟩
  have hc : ∀ k, k ≤ l.toArray.size → cntU (Array.replicate l.toArray.size false) k = k := by
    intro k
    induction k with
    | zero => intro _; rfl
    | succ k ih =>
      intro hk
      have : (Array.replicate l.toArray.size false).getD k true = false := getD_in (by simp at hk ⊢; omega) (getD_replicate_false _ _)
      rw [cntU, ih (by omega), this]
      simp
  have K := spec_any (Q := Q) (a0 := a0) (n := n) hB hU hLe hPre Ψ hΨ (by simpa using h) (fun u a w hu hC hΦ ha => by subst ha; simpa using hend u w hu hC hΦ) n _ a0 { w with drawn := w.drawn + 1 } u0 hu0 inv0 (hc n (by omega))
    ⟨hC, rfl, rfl, (fun j oj d _ hl => by rw [getD_replicate_false] at hl; cases hl), (fun j hl => by rw [getD_replicate_false] at hl; cases hl), (fun t _ => rfl), fun j _ _ => hPre0 j⟩
  rwa [show n + (l.toArray.size - n) = l.toArray.size by omega] at K
theorem wp_region_spec_at {id : Nat} {Q : Exit → Act → World → Prop} {a0 : Act} {w : World} {l : List Oper} (n : Nat) (Φ : (Nat → Value) → Nat → World → Value → Prop) (hm : P.follows .mixedOrders = true) (hB : specB l.toArray n = true) (hC : C { w with drawn := w.drawn + 1 }) (hU : ∀ (u u' : Nat → Value) (j : Nat) w v, (∀ oj, l.toArray[j]? = some oj → ∀ e ∈ oj.after, Region.binds .any e = true → u e.on = u' e.on) → Φ u j w v → Φ u' j w v) (hLe : ∀ u j k w w' v, j ≠ k → Le k w w' → Φ u j w v → Φ u j w' v) (hPre : ∀ j k w w', j ≠ k → Le k w w' → Pre j w → Pre j w') (hPre0 : ∀ j, Pre j { w with drawn := w.drawn + 1 }) (Ψ : Nat → Value → Prop) (hΨ : ∀ u j w v, Φ u j w v → Ψ j v) (u0 : Nat → Value) (hu0 : ∀ j, Ψ j (u0 j))
    (h : ∀ u, (∀ j, Ψ j (u j)) → specAll P l.toArray C Pre Le Φ u (l.take n) 0 a0) (hend : ∀ u w, (∀ j, Ψ j (u j)) → C w → (∀ j, j < n → Φ u j w (u j)) → wpList P l.toArray Q (l.drop n) (putAll u (l.take n) 0 a0) w) : (Code.region id l.toArray true).wp P Q a0 w :=
  wp_region_any hm (any_spec n Φ hB hC hU hLe hPre hPre0 Ψ hΨ u0 hu0 h hend)
theorem wp_region_spec {Le : World → World → Prop} {id : Nat} {Q : Exit → Act → World → Prop} {a0 : Act} {w : World} {l : List Oper} (n : Nat) (Φ : (Nat → Value) → Nat → World → Value → Prop) (hm : P.follows .mixedOrders = true) (hB : specB l.toArray n = true) (hC : C { w with drawn := w.drawn + 1 }) (hU : ∀ (u u' : Nat → Value) (j : Nat) w v, (∀ oj, l.toArray[j]? = some oj → ∀ e ∈ oj.after, Region.binds .any e = true → u e.on = u' e.on) → Φ u j w v → Φ u' j w v) (hLe : ∀ u j w w' v, Le w w' → Φ u j w v → Φ u j w' v) (Ψ : Nat → Value → Prop) (hΨ : ∀ u j w v, Φ u j w v → Ψ j v) (u0 : Nat → Value) (hu0 : ∀ j, Ψ j (u0 j))
    (h : ∀ u, (∀ j, Ψ j (u j)) → specAll P l.toArray C (fun _ _ => True) (fun _ => Le) Φ u (l.take n) 0 a0) (hend : ∀ u w, (∀ j, Ψ j (u j)) → C w → (∀ j, j < n → Φ u j w (u j)) → wpList P l.toArray Q (l.drop n) (putAll u (l.take n) 0 a0) w) : (Code.region id l.toArray true).wp P Q a0 w :=
  wp_region_spec_at (Le := fun _ => Le) (Pre := fun _ _ => True) n Φ hm hB hC hU (fun u j _ w w' v _ => hLe u j w w' v) (fun _ _ _ _ _ _ h => h) (fun _ => trivial) Ψ hΨ u0 hu0 h hend
end
end Go.Proofs.Ytdffbjjiojheoaa.Tn
-- from Gi
namespace Go.Proofs.Ytdffbjjiojheoaa.Tn
open Go.ChangeShapes Go.WideShapes Go.ChangeAt Go.RowKit Go.Proofs.Ytdffbjjiojheoaa.Fx Go.Proofs.Ytdffbjjiojheoaa.Rf
def VecVal (w : World) (v : Value) (l : List Int) : Prop := ∃ sp cap, v = .slice sp l.length cap ∧ Nums w sp cap l
/-- a slice that reads as vectors -/
structure Vecs (w : World) (sp : Option Addr) (cap : Nat) (ls : List (List Int)) : Prop where
  ex : ∃ vs : List Value, vs.length = ls.length ∧ Sl w sp cap vs ∧ ∀ i v, vs[i]? = some v → VecVal w v (ls.getD i [])
theorem Vecs.below {w w' : World} {sp : Option Addr} {cap : Nat} {ls : List (List Int)} (h : Vecs w sp cap ls) (hb : Below w.heap.size w w') : Vecs w' sp cap ls := by
  obtain ⟨vs, h1, h2, h3⟩ := h.ex
  exact ⟨vs, h1, h2.below (Nat.le_refl _) hb, fun i v hv => by
    obtain ⟨s, c, e, hn⟩ := h3 i v hv
    exact ⟨s, c, e, hn.below hb⟩⟩
theorem Vecs.at_ {w : World} {sp : Option Addr} {cap : Nat} {ls : List (List Int)} (h : Vecs w sp cap ls) (k : Nat) (hk : k < ls.length) : ∃ c o s2 c2, sp = some ⟨c, o, none⟩ ∧ w.cell? ⟨c, o + k, none⟩ = some (.slice s2 (ls.getD k []).length c2) ∧ Nums w s2 c2 (ls.getD k []) := by
  obtain ⟨vs, h1, h2, h3⟩ := h.ex
  obtain ⟨c, o, rfl, hl⟩ := h2.lies (by omega)
  have hv : vs[k]? = some vs[k] := List.getElem?_eq_getElem (by omega)
  obtain ⟨s2, c2, e, hb⟩ := h3 k _ hv
  have := hl k _ hv
  rw [e] at this
  exact ⟨c, o, s2, c2, rfl, this, hb⟩
theorem Vecs.len {w : World} {sp : Option Addr} {cap : Nat} {ls : List (List Int)} (h : Vecs w sp cap ls) : ls.length ≤ 9223372036854775807 := by
  obtain ⟨vs, h1, h2, h3⟩ := h.ex
  rw [← h1]; exact h2.len
theorem Vecs.drewN {w : World} {sp : Option Addr} {cap : Nat} {ls : List (List Int)} (h : Vecs w sp cap ls) (n : Nat) : Vecs (w.drewN n) sp cap ls := by
  obtain ⟨vs, h1, h2, h3⟩ := h.ex
  exact ⟨vs, h1, h2.drewN n, fun i v hv => by
    obtain ⟨s, c, e, hn⟩ := h3 i v hv
    exact ⟨s, c, e, Sl.drewN hn n⟩⟩
theorem Nums.nil (w : World) : Nums w none 0 [] := Sl.nil w
theorem owns_drewN {w : World} {base e n : Nat} {v : Value} {xs : List Value} (h : w.ownsRow base e 1 v n xs) (m : Nat) : (w.drewN m).ownsRow base e 1 v n xs := owns_below h ⟨rfl, rfl, rfl, Nat.le_refl _, fun _ _ => rfl⟩
end Go.Proofs.Ytdffbjjiojheoaa.Tn
-- from Gh
namespace Go.Proofs.Ytdffbjjiojheoaa.Tn
open Go.ChangeShapes Go.WideShapes Go.ChangeAt Go.RowKit Go.Proofs.Ytdffbjjiojheoaa.Fx Go.Proofs.Ytdffbjjiojheoaa.Rf
section
variable {W : World} {ops : Array Oper} {rest : List Oper} {o : Oper} {a : Act} {Q : Exit → Act → World → Prop}
end
end Go.Proofs.Ytdffbjjiojheoaa.Tn
-- from Gu
namespace Go.Proofs.Ytdffbjjiojheoaa.Tn
open Go.ChangeShapes Go.WideShapes Go.ChangeAt Go.RowKit Go.Proofs.Ytdffbjjiojheoaa.Fx Go.Proofs.Ytdffbjjiojheoaa.Rf
end Go.Proofs.Ytdffbjjiojheoaa.Tn
-- from Gv
namespace Go.Proofs.Ytdffbjjiojheoaa.Tn
open Go.ChangeShapes Go.WideShapes Go.ChangeAt Go.RowKit Go.Proofs.Ytdffbjjiojheoaa.Fx Go.Proofs.Ytdffbjjiojheoaa.Rf
def firstE : List Int → Int
  | [] => 0
  | e :: es => if e ≠ 0 then e else firstE es
def matV (r c : Int) (sp : Option Addr) (n cap : Nat) : Value := .agg #[.int .i64 r, .int .i64 c, .slice sp n cap]
/-- a new block that holds numbers -/
theorem nums_new (w : World) (l : List Int) (cs : Array Value) (n : Nat) (hc : cs = (l.map (Value.int .i64)).toArray) (hn : l.length = n) (hl : n ≤ 1000000) : Nums (w.alloc (.cells cs 3)) (some ⟨w.heap.size, 0, none⟩) n l := by
  subst hn
  have h := Sl.new w (l.map (Value.int .i64)) cs 3 (0, 0) hc (by simpa using hl)
  rw [List.length_map] at h
  exact h
end Go.Proofs.Ytdffbjjiojheoaa.Tn
-- from Gw
namespace Go.Proofs.Ytdffbjjiojheoaa.Tn
open Go.ChangeShapes Go.WideShapes Go.ChangeAt Go.RowKit Go.Proofs.Ytdffbjjiojheoaa.Fx Go.Proofs.Ytdffbjjiojheoaa.Rf
/-! ### a matrix that lies in memory, and its rows -/
def matC (r c : Int) (sp : Option Addr) (n cap : Nat) : Array Value := #[.int .i64 r, .int .i64 c, .slice sp n cap]
/-- the law's own copy of a matrix, and what its numbers are -/
structure MatAt (w : World) (r c : Int) (sp : Option Addr) (n cap : Nat) (W : World) : Prop where
  below : Below w.heap.size w W
  row : W.heap[w.heap.size]? = some (.cells (matC r c sp n cap) 35 (0, 0))
theorem MatAt.made (w : World) (r c : Int) (sp : Option Addr) (n cap : Nat) (X : Array Value) (hX : X = matC r c sp n cap) : MatAt w r c sp n cap (w.alloc (.cells X 35)) := by
  subst hX
  exact ⟨(Below.refl _ _).alloc (Nat.le_refl _) _, heap_alloc_new _ _⟩
theorem MatAt.c0 {w W : World} {r c : Int} {sp : Option Addr} {n cap : Nat} (h : MatAt w r c sp n cap W) : W.cell? ⟨w.heap.size, 0, none⟩ = some (.int .i64 r) := by rw [cell_of_row _ _ _ _ _ _ h.row]; rfl
theorem MatAt.c1 {w W : World} {r c : Int} {sp : Option Addr} {n cap : Nat} (h : MatAt w r c sp n cap W) : W.cell? ⟨w.heap.size, 1, none⟩ = some (.int .i64 c) := by rw [cell_of_row _ _ _ _ _ _ h.row]; rfl
theorem MatAt.c2 {w W : World} {r c : Int} {sp : Option Addr} {n cap : Nat} (h : MatAt w r c sp n cap W) : W.cell? ⟨w.heap.size, 2, none⟩ = some (.slice sp n cap) := by rw [cell_of_row _ _ _ _ _ _ h.row]; rfl
end Go.Proofs.Ytdffbjjiojheoaa.Tn
