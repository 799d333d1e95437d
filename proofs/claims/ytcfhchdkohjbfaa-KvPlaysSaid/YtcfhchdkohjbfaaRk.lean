/- Pools of rows in pages: tools for the drawn regions of the document's Append and Share. -/
import Derived.Test.YtcfhchdkohjbfaaRi
import Derived.Test.YtcfhchdkohjbfaaRj
namespace Go.Proofs.Ytcfhchdkohjbfaa.Kv
set_option maxRecDepth 100000
open Go.ChangeShapes Go.WideShapes Go.ChangeAt Go.RowKit Go.Proofs.Ytcfhchdkohjbfaa.Tn
/-- in a drawn region the operation A appends, and the others turn nothing -/
def LeA (A : Nat) (row : Option Nat) (k : Nat) (w w' : World) : Prop := (k = A → w.grownBy w' row) ∧ (k ≠ A → Below w.heap.size w w')
theorem leA_b {A : Nat} {row : Option Nat} {k : Nat} {W1 W2 : World} (hk : k ≠ A) (hb : Below W1.heap.size W1 W2) : LeA A row k W1 W2 := ⟨fun h => absurd h hk, fun _ => hb⟩
theorem leA_g {A : Nat} {row : Option Nat} {W1 W2 : World} (hg : W1.grownBy W2 row) : LeA A row A W1 W2 := ⟨fun _ => hg, fun h => absurd rfl h⟩
/-- what the operations of such a region answer: B makes the row of one, A appends it, the others answer what vals tells -/
def apQ (A B lo : Nat) (d : Option Nat) (x : Value) (xs : List Value) (vals : Nat → Option Value) (j : Nat) (W : World) (v : Value) : Prop :=
  (j = B → I.OneV lo x W v) ∧ (j = A → ∃ b', Row W 3 v b' (xs ++ [x]) ∧ (b' = d ∨ ∃ q, b' = some q ∧ lo ≤ q)) ∧ ∀ z, vals j = some z → v = z
theorem apQ_later {A B : Nat} {d : Option Nat} {lo j i : Nat} {x v : Value} {xs : List Value} {vals : Nat → Option Value} {W1 W2 : World} (hlo : ∀ k, d = some k → k < lo) (hne : j ≠ i) (hle : LeA A d i W1 W2) (h : apQ A B lo d x xs vals j W1 v) : apQ A B lo d x xs vals j W2 v := by
  refine ⟨fun e => ?_, fun e => ?_, h.2.2⟩
  · by_cases hi : i = A
    · exact (h.1 e).grown (hle.1 hi) hlo
    · exact (h.1 e).later (hle.2 hi)
  · obtain ⟨b', h1, h2⟩ := h.2.1 e
    have hb := hle.2 (by omega)
    exact ⟨b', h1.kept fun c hc => hb.block c (h1.lt hc), h2⟩
theorem sizeRow : (Try.prog.info? 73).map (·.size) = some 3 := by kernel_rfl
theorem exec_at3 {a : Act} {o : Oper} {W : World} (x y : Operand) (ho : o.op = .indexAddr 30 x y) (c n cap i : Nat) (hx : a.eval x = .slice (some ⟨c, 0, none⟩) n cap) (hy : a.eval y = .int .i64 (i : Int)) (hi : i < n) : (execOp a.eval o).run Try.prog W = .ok (.value (.pointer (some ⟨c, i * 3, none⟩))) W := by
  have hadd := Tn.add_plain c 0 (i * 3)
  cases hq : Try.prog.info? 73 with
  | none => have := sizeRow; simp [hq] at this
  | some j =>
    have hj : j.size = 3 := by simpa [hq] using sizeRow
    unfold execOp
    simp [ho, hx, hy, Instr.indexAt, asIntOf, run_underlying Try.underlying30, sizeOf, typeInfo, hq, hj, hi, hadd]
/-- the law's own question whether another page is wanted -/
theorem roomD_same {D : Doc Int} {L : List Int} {P : List Nat} (h0 : 0 < L.length % D.size) (h1 : cnt D.rows (lastP P) = 1) : roomD D L P = some P := by
  unfold roomD
  rw [if_pos ⟨h0, h1⟩]
theorem roomD_more {D : Doc Int} {L : List Int} {P : List Nat} (h : ¬ (0 < L.length % D.size ∧ cnt D.rows (lastP P) = 1)) : roomD D L P = match freeAt D with
    | none => none
    | some a => some ((if 0 < L.length % D.size then P.take (P.length - 1) else P) ++ [a]) := by
  unfold roomD
  rw [if_neg h]
  cases freeAt D <;> rfl
end Go.Proofs.Ytcfhchdkohjbfaa.Kv
