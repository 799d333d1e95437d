import Derived.Test.YtpaffncdfldnmaaDoorZ3
import Derived.Laws.AppendOwnNone
namespace Go.Proofs.YtpaffncdfldnmaaDoor
open Go.ChangeShapes Go.WideShapes Go.ChangeAt Go.RowKit

theorem info5 : (Tryd.prog.info? 5).map (fun i => (i.zero, i.size, i.bytes)) = some (some (.int .u8 0), 1, 1) := by kernel_rfl
/-- append of bytes that came in to a row of the call's own -/
theorem wpList_append_bytes {w : World} {ops : Array Oper} {rest : List Oper} {o : Oper} {a : Act} {Q : Exit → Act → World → Prop} (hgd : o.guard = none) (s x : Operand)
    (ho : o.op = .call { callee := .builtin .append, args := #[s, x], argTypes := #[38, 38] }) (base : Nat) (v : Value) (n m : Nat) (xs b : List Int) (hs : a.eval s = v) (hown : w.ownsRow base 5 1 v n (xs.map (Value.int .u8)))
    (sp : Option Addr) (cap : Nat) (hx : a.eval x = .slice sp m cap) (hm : b.length = m) (hb : Bytes w sp cap b) (hz : sp = none → cap = 0) (hn : n + m ≤ 1000000) (hbase : base ≤ w.heap.size)
    (h : ∀ v' w', w'.ownsRow base 5 1 v' (n + m) ((xs ++ b).map (Value.int .u8)) → w.grownBy w' v.ownBlock → wpList Tryd.prog ops Q rest (a.put o.dst v') w') : wpList Tryd.prog ops Q (o :: rest) a w := by
  subst hm
  obtain ⟨i0, hi, hz0, hz1, hz2⟩ := info_parts info5
  rcases sp with _ | ad
  · obtain rfl := hz rfl
    have h0 : b = [] := List.eq_nil_of_length_eq_zero (by have := hb.le; omega)
    subst h0
    refine wpList_append_own_none hgd s x 38 ho base 5 i0 1 Tryd.underlying38 hi v n _ hs hown hx ?_
    exact h v w (by simpa using hown) ⟨rfl, rfl, rfl, Nat.le_refl _, fun _ _ _ => rfl⟩
  · have hcells : ∀ j u, (b.map (Value.int .u8))[j]? = some u → w.cell? (ad.add j) = some u := by
      intro j u hu
      have hj : 0 < b.length := by
        by_cases h0 : 0 < b.length
        · exact h0
        · have : b = [] := List.eq_nil_of_length_eq_zero (by omega)
          subst this
          simp at hu
      obtain ⟨c, o', e, hl⟩ := hb.lies hj
      cases e
      exact src_of hl j u hu
    obtain ⟨v', w', hrun, hown', hg, _⟩ := run_append_own (P := Tryd.prog) w base 38 o.type 5 i0 (.int .u8 0) 1 1 Tryd.underlying38 hi hz0 hz1 hz2 rfl (by decide) v n _ hown ad b.length cap (b.map (Value.int .u8)) (by simp) hcells (map_one b)
      (by unfold maxLen; omega) (by omega) hbase
    refine wpList_plain hgd fun K hK => ?_
    unfold Oper.wp
    simp [execOp, ho, resolve, invoke, builtin, hs, hx, hrun, Result.andThen]
    exact hK _ _ (h v' w' (by simpa using hown') hg)
/-- what the call owns is a slice of bytes -/
theorem own_bytes {w : World} {base n : Nat} {v : Value} {xs : List Int} (h : w.ownsRow base 5 1 v n (xs.map (Value.int .u8))) : ∃ sp cap, v = .slice sp n cap ∧ xs.length = n ∧ Bytes w sp cap xs ∧ (sp = none → cap = 0) ∧ (∀ c o, sp = some ⟨c, o, none⟩ → base ≤ c) := by
  have hl : xs.length = n := by have := h.1; simpa using this
  rcases h.2 with ⟨rfl, rfl⟩ | ⟨g, cap, cur, rfl, hbg, hg, hnc, hcm, _, htake⟩
  · obtain rfl : xs = [] := List.eq_nil_of_length_eq_zero hl
    exact ⟨none, 0, rfl, rfl, Bytes.nil w, fun _ => rfl, fun _ _ h => by cases h⟩
  · refine ⟨_, cap, rfl, hl, ⟨by omega, hcm, fun _ => ⟨g, 0, rfl, fun i hi => ?_⟩⟩, fun h => (by cases h), fun c o h => by cases h; exact hbg⟩
    have := h.cells (g := g) rfl i (.int .u8 (xs.getD i 0)) (by simp [hi])
    have hadd : (⟨g, 0, none⟩ : Addr).add i = ⟨g, 0 + i, none⟩ := by unfold Addr.add; split <;> simp_all
    rw [hadd] at this
    exact this
theorem Env.grown {w w' : World} {row : Option Nat} (h : Env w) (hg : w.grownBy w' row) (hr : ∀ k, row = some k → 2 ≤ k) : Env w' := by
  refine ⟨fun i hi => hg.cell (h.kc i hi) (fun e => by have := hr _ e.symm; simp only at this; omega), ?_⟩
  obtain ⟨t, fr, hs⟩ := h.start
  exact ⟨t, fr, (hg.block 0 (Array.getElem?_eq_some_iff.1 hs).1 (fun e => by have := hr _ e.symm; omega)).trans hs⟩
theorem Below.ofGrown {B : Nat} {w w' : World} {row : Option Nat} (hg : w.grownBy w' row) (hB : B ≤ w.heap.size) (hr : ∀ k, row = some k → B ≤ k) : Below B w w' :=
  ⟨hg.os, hg.tape, hg.output, hg.size, fun k hk => hg.block k (by omega) (fun e => by have := hr _ e.symm; omega)⟩
theorem HashAt.grown {w w' : World} {p : Nat} {l : List Int} {row : Option Nat} (h : HashAt w p l) (hg : w.grownBy w' row) (hr : some p ≠ row) : HashAt w' p l := by
  obtain ⟨T, h1, h2, h3⟩ := h
  exact ⟨T, h1, h2, (hg.block p (Array.getElem?_eq_some_iff.1 h3).1 hr).trans h3⟩
theorem HashAt.lt {w : World} {p : Nat} {l : List Int} (h : HashAt w p l) : p < w.heap.size := by
  obtain ⟨T, h1, h2, h3⟩ := h
  exact (Array.getElem?_eq_some_iff.1 h3).1
theorem neq_sum (l : List Int) (w : World) : (binOp .neq 23 (.agg (rowB (sum l))) (.agg (rowB (sum l)))).run Tryd.prog w = .ok (.bool false) w := by
  rw [run_neq_row (P := Tryd.prog) 23 5 32 .u8 Tryd.underlying23 Tryd.underlying5 size5 (sum l) (sum l) (sum_length l) (sum_length l) w]
  simp
end Go.Proofs.YtpaffncdfldnmaaDoor
