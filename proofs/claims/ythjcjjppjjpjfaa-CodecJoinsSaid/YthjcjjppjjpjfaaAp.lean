import Derived.Test.YthjcjjppjjpjfaaWo
import Derived.Test.YthjcjjppjjpjfaaNu
import Derived.Laws.MakeOwn
import Derived.Laws.OwnMore
namespace Go.Proofs.Ythjcjjppjjpjfaa
open Go.ChangeShapes Go.WideShapes Go.ChangeAt Go.RowKit

theorem Sl.all1 {w : World} {base e n : Nat} {v : Value} {xs : List Value} (h : w.ownsRow base e 1 v n xs) : ∃ sp cap, v = .slice sp n cap ∧ xs.length = n ∧ Sl w sp cap xs ∧ (∀ c o, sp = some ⟨c, o, none⟩ → base ≤ c) := by
  have hl : xs.length = n := by have := h.1; simpa using this
  rcases h.2 with ⟨rfl, rfl⟩ | ⟨g, cap, cur, rfl, hbg, hg, hnc, hcm, _, htake⟩
  · obtain rfl : xs = [] := List.eq_nil_of_length_eq_zero hl
    exact ⟨none, 0, rfl, rfl, Sl.nil w, fun _ _ h => by cases h⟩
  · refine ⟨_, cap, rfl, hl, ⟨by omega, hcm, (fun h => by cases h), fun _ => ⟨g, 0, rfl, fun i v hv => ?_⟩⟩, fun c o h => by cases h; exact hbg⟩
    have := h.cells (g := g) rfl i v hv
    rwa [add_plain] at this
section
variable {w : World} {ops : Array Oper} {rest : List Oper} {o : Oper} {a : Act} {Q : Exit → Act → World → Prop}
/-- append of what lies in a slice to a row of the call's own -/
theorem wpList_append_sl (t e : TypeId) (by_ : Nat) (z : Value) (hu : Try.prog.underlying t = some (.slice e)) (hinf : (Try.prog.info? e).map (fun i => (i.zero, i.size, i.bytes)) = some (some z, 1, by_)) (hzc : z.cells.size = 1) (hby : by_ ≤ 100)
    (hgd : o.guard = none) (s x : Operand)
    (ho : o.op = .call { callee := .builtin .append, args := #[s, x], argTypes := #[t, t] }) (base : Nat) (v : Value) (n m : Nat) (xs ys : List Value) (hs : a.eval s = v) (hown : w.ownsRow base e 1 v n xs)
    (sp : Option Addr) (cap : Nat) (hx : a.eval x = .slice sp m cap) (hm : ys.length = m) (hb : Sl w sp cap ys) (h1 : ∀ v ∈ ys, v.oneCell' = true) (hn : n + m ≤ 1000000) (hbase : base ≤ w.heap.size)
    (h : ∀ v' w', w'.ownsRow base e 1 v' (n + m) (xs ++ ys) → w.grownBy w' v.ownBlock → wpList Try.prog ops Q rest (a.put o.dst v') w') : wpList Try.prog ops Q (o :: rest) a w := by
  subst hm
  obtain ⟨i0, hi, hz0, hz1, hz2⟩ := info_parts hinf
  rcases sp with _ | ad
  · obtain rfl := hb.nul rfl
    have h0 : ys = [] := List.eq_nil_of_length_eq_zero (by have := hb.le; omega)
    subst h0
    refine wpList_append_own_none hgd s x t ho base e i0 1 hu hi v n _ hs hown hx ?_
    exact h v w (by simpa using hown) ⟨rfl, rfl, rfl, Nat.le_refl _, fun _ _ _ => rfl⟩
  · have hcells : ∀ j u, ys[j]? = some u → w.cell? (ad.add j) = some u := by
      intro j u hu
      have hj : 0 < ys.length := by
        by_cases h0 : 0 < ys.length
        · exact h0
        · have : ys = [] := List.eq_nil_of_length_eq_zero (by omega)
          subst this
          simp at hu
      obtain ⟨c, o', e, hl⟩ := hb.lies hj
      cases e
      exact hl.src j u hu
    obtain ⟨v', w', hrun, hown', hg, _⟩ := run_append_own (P := Try.prog) w base t o.type e i0 z 1 by_ hu hi hz0 hz1 hz2 hzc (by decide) v n _ hown ad ys.length cap ys (by simp) hcells h1
      (by unfold maxLen; omega) (Nat.le_trans (Nat.mul_le_mul hn hby) (by decide)) hbase
    refine wpList_plain hgd fun K hK => ?_
    unfold Oper.wp
    simp [execOp, ho, resolve, invoke, builtin, hs, hx, hrun, Result.andThen]
    exact hK _ _ (h v' w' hown' hg)
/-- make([]T, 0, c) -/
theorem wpList_make0 (t e : TypeId) (by_ : Nat) (z : Value) (hu : Try.prog.underlying t = some (.slice e)) (hinf : (Try.prog.info? e).map (fun i => (i.zero, i.size, i.bytes)) = some (some z, 1, by_)) (hby : by_ ≤ 100)
    (hgd : o.guard = none) (s x : Operand) (ho : o.op = .makeSlice t s x) (base c : Nat) (hs : a.eval s = .int .i64 0) (hx : a.eval x = .int .i64 (c : Int)) (hc : c ≤ 1000000) (hbase : base ≤ w.heap.size)
    (h : ∀ w', w'.ownsRow base e 1 (.slice (some ⟨w.heap.size, 0, none⟩) 0 c) 0 [] → w.grownBy w' none → wpList Try.prog ops Q rest (a.put o.dst (.slice (some ⟨w.heap.size, 0, none⟩) 0 c)) w') : wpList Try.prog ops Q (o :: rest) a w := by
  obtain ⟨i0, hi, hz0, hz1, hz2⟩ := info_parts hinf
  obtain ⟨w', hrun, hown, hg⟩ := run_makeSlice_owned (P := Try.prog) w base t e i0 z 1 hu hi hz0 hz1 .i64 .i64 c (by omega) (by rw [hz2]; exact Nat.le_trans (Nat.mul_le_mul hby hc) (by decide)) (by unfold maxLen; omega) hbase
  refine wpList_plain hgd fun K hK => ?_
  unfold Oper.wp
  simp [execOp, ho, hs, hx, hrun, Result.andThen]
  exact hK _ _ (h w' hown hg)
end
theorem owns_below {w w' : World} {base e n : Nat} {v : Value} {xs : List Value} (h : w.ownsRow base e 1 v n xs) (hb : Below w.heap.size w w') : w'.ownsRow base e 1 v n xs :=
  h.kept (row := none) ⟨hb.os, hb.tape, hb.output, hb.size, fun k hk _ => hb.block k hk⟩ (by cases v.ownBlock <;> simp)
end Go.Proofs.Ythjcjjppjjpjfaa
