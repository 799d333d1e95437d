import Derived.Test.YtpaffncdfldnmaaDoorV
import Derived.Laws.StructEq
namespace Go.Proofs.YtpaffncdfldnmaaDoor
open Go.RowKit

section
variable {P : Program}
theorem run_part_row (e : TypeId) (k : IntKind) (he : P.underlying e = some (.int k)) (cs : Array Value) (i : Nat) (v : Value) (hv : cs[i]? = some v) (w : World) : (part e cs i).run P w = .ok v w := by
  simp [part, isAgg, run_underlying he, hv]
theorem run_eq_rows (d : Nat) (e : TypeId) (k : IntKind) (he : P.underlying e = some (.int k)) (a b : List Int) (w : World) : ∀ (m s : Nat), s + m = a.length → s + m = b.length →
    (forIn (List.range' s m) ((none, ()) : Option Bool × Unit) fun i (_ : Option Bool × Unit) => do
      let x ← part e (rowB a) i
      let y ← part e (rowB b) i
      let r ← Op.equalIn (d + 1) e x y
      if (!r) = true then pure (ForInStep.done (some false, ())) else pure (ForInStep.yield (none, ()))).run P w = .ok (if a.drop s = b.drop s then (none, ()) else (some false, ())) w
  | 0, s, ha, hb => by
    rw [List.drop_of_length_le (by omega), List.drop_of_length_le (by omega)]
    simp
  | m + 1, s, ha, hb => by
    have h1 : s < a.length := by omega
    have h2 : s < b.length := by omega
    have p1 := run_part_row (P := P) e k he (rowB a) s _ (rowB_get a s h1) w
    have p2 := run_part_row (P := P) e k he (rowB b) s _ (rowB_get b s h2) w
    have p3 := run_equalIn_int (P := P) w d e .u8 k (a.getD s 0) (b.getD s 0) he
    have e1 : a.drop s = a.getD s 0 :: a.drop (s + 1) := by rw [List.drop_eq_getElem_cons h1]; simp [h1]
    have e2 : b.drop s = b.getD s 0 :: b.drop (s + 1) := by rw [List.drop_eq_getElem_cons h2]; simp [h2]
    rw [e1, e2, List.range'_succ, List.forIn_cons]
    simp only [Sem.run_bind, p1, p2, p3, Result.andThen_ok, List.cons.injEq]
    by_cases hx : a.getD s 0 = b.getD s 0
    · rw [hx]
      simp only [beq_self_eq_true, Bool.not_true, Bool.false_eq_true, if_false, Sem.run_pure, Result.andThen_ok, true_and]
      exact run_eq_rows d e k he a b w m (s + 1) (by omega) (by omega)
    · have hx' : (a.getD s 0 == b.getD s 0) = false := by simpa using hx
      rw [hx']
      simp only [Bool.not_false, if_true, Sem.run_pure, Result.andThen_ok]
      rw [if_neg (fun h => hx h.1)]
theorem run_equalIn_row (d : Nat) (t e : TypeId) (n : Nat) (k : IntKind) (ht : P.underlying t = some (.array n e)) (he : P.underlying e = some (.int k)) (hs : (P.info? e).map (·.size) = some 1)
    (a b : List Int) (ha : a.length = n) (hb : b.length = n) (w : World) :
    (Op.equalIn (d + 2) t (.agg (rowB a)) (.agg (rowB b))).run P w = .ok (a == b) w := by
  have hsz : (sizeOf e).run P w = .ok 1 w := by
    cases hq : P.info? e with
    | none => simp [hq] at hs
    | some j =>
      have hj : j.size = 1 := by simpa [hq] using hs
      simp [sizeOf, typeInfo, hq, hj]
  unfold Op.equalIn
  simp only [Sem.run_bind, run_underlying ht, Result.andThen_ok, hsz, Nat.mul_one]
  rw [Std.Legacy.Range.forIn_eq_forIn_range']
  subst ha
  have hr := run_eq_rows (P := P) d e k he a b w a.length 0 (by omega) (by omega)
  simp only [List.drop_zero] at hr
  simp only [Std.Legacy.Range.size, Nat.sub_zero, Nat.add_sub_cancel, Nat.div_one, hr, Result.andThen_ok]
  by_cases hab : a = b
  · subst hab; simp
  · have : (a == b) = false := by simpa using hab
    simp [hab]
theorem run_eql_row (t e : TypeId) (n : Nat) (k : IntKind) (ht : P.underlying t = some (.array n e)) (he : P.underlying e = some (.int k)) (hs : (P.info? e).map (·.size) = some 1)
    (a b : List Int) (ha : a.length = n) (hb : b.length = n) (w : World) : (binOp .eql t (.agg (rowB a)) (.agg (rowB b))).run P w = .ok (.bool (a == b)) w := by
  simp only [binOp]
  simp [Op.equal, Op.maxDepth, run_equalIn_row (P := P) 9998 t e n k ht he hs a b ha hb w]
theorem run_neq_row (t e : TypeId) (n : Nat) (k : IntKind) (ht : P.underlying t = some (.array n e)) (he : P.underlying e = some (.int k)) (hs : (P.info? e).map (·.size) = some 1)
    (a b : List Int) (ha : a.length = n) (hb : b.length = n) (w : World) : (binOp .neq t (.agg (rowB a)) (.agg (rowB b))).run P w = .ok (.bool (!(a == b))) w := by
  simp only [binOp]
  simp [Op.equal, Op.maxDepth, run_equalIn_row (P := P) 9998 t e n k ht he hs a b ha hb w]
end
end Go.Proofs.YtpaffncdfldnmaaDoor
