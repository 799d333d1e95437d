import Derived.Test.YtpaffncdfldnmaaDoorL
namespace Go.Proofs.YtpaffncdfldnmaaDoor
open Go.RowKit

/-! ### == of values whose cells are bytes alone -/
section
variable {P : Program}
/-- == at t of n bytes, at depth d -/
def EqB (P : Program) (d : Nat) (t : TypeId) (n : Nat) : Prop :=
  ∀ (a b : List Int), a.length = n → b.length = n → ∀ w, (Op.equalIn d t (.agg (rowB a)) (.agg (rowB b))).run P w = .ok (a == b) w
theorem rowB_cut (a : List Int) (i n : Nat) : (rowB a).extract i (i + n) = rowB ((a.drop i).take n) := by
  apply Array.ext'
  simp [rowB, List.map_take, List.map_drop]
theorem run_part_agg (t : TypeId) (d : TypeDesc) (n : Nat) (ht : P.underlying t = some d) (hd : (match d with | .struct _ | .array _ _ => true | _ => false) = true) (hs : (P.info? t).map (·.size) = some n) (a : List Int) (i : Nat) (w : World) :
    (part t (rowB a) i).run P w = .ok (.agg (rowB ((a.drop i).take n))) w := by
  cases hq : P.info? t with
  | none => simp [hq] at hs
  | some j =>
    have hj : j.size = n := by simpa [hq] using hs
    have hi : (isAgg t).run P w = .ok true w := by
      cases d <;> simp at hd <;> simp [isAgg, run_underlying ht]
    have hz : (sizeOf t).run P w = .ok n w := by simp [sizeOf, typeInfo, hq, hj]
    simp only [part, Sem.run_bind, hi, Result.andThen_ok, if_true, hz, Sem.run_pure, rowB_cut]
theorem EqB.row (d : Nat) (t e : TypeId) (n : Nat) (k : IntKind) (ht : P.underlying t = some (.array n e)) (he : P.underlying e = some (.int k)) (hs : (P.info? e).map (·.size) = some 1) : EqB P (d + 2) t n :=
  fun a b ha hb w => run_equalIn_row d t e n k ht he hs a b ha hb w
theorem run_eq_parts (d : Nat) (e : TypeId) (m : Nat) (hp : ∀ (a : List Int) (i : Nat) (w : World), (part e (rowB a) i).run P w = .ok (.agg (rowB ((a.drop i).take m))) w) (h : EqB P d e m) (a b : List Int) (w : World) : ∀ (c s : Nat), (s + c) * m = a.length → (s + c) * m = b.length →
    (forIn (List.range' s c) ((none, ()) : Option Bool × Unit) fun i (_ : Option Bool × Unit) => do
      let x ← part e (rowB a) (i * m)
      let y ← part e (rowB b) (i * m)
      let r ← Op.equalIn d e x y
      if (!r) = true then pure (ForInStep.done (some false, ())) else pure (ForInStep.yield (none, ()))).run P w = .ok (if a.drop (s * m) = b.drop (s * m) then (none, ()) else (some false, ())) w
  | 0, s, ha, hb => by
    rw [Nat.add_zero] at ha hb
    rw [List.drop_of_length_le (by omega), List.drop_of_length_le (by omega)]
    simp
  | c + 1, s, ha, hb => by
    have h1 : (s + 1) * m ≤ a.length := by rw [← ha]; exact Nat.mul_le_mul_right m (by omega)
    have h2 : (s + 1) * m ≤ b.length := by rw [← hb]; exact Nat.mul_le_mul_right m (by omega)
    have h1' : s * m + m ≤ a.length := by rw [← Nat.succ_mul]; exact h1
    have h2' : s * m + m ≤ b.length := by rw [← Nat.succ_mul]; exact h2
    have p3 := h ((a.drop (s * m)).take m) ((b.drop (s * m)).take m) (by simp; omega) (by simp; omega) w
    have ih := run_eq_parts d e m hp h a b w c (s + 1) (by rw [← ha]; congr 1; omega) (by rw [← hb]; congr 1; omega)
    have eA : a.drop ((s + 1) * m) = (a.drop (s * m)).drop m := by rw [List.drop_drop]; congr 1; rw [Nat.succ_mul]
    have eB : b.drop ((s + 1) * m) = (b.drop (s * m)).drop m := by rw [List.drop_drop]; congr 1; rw [Nat.succ_mul]
    have e3 : (a.drop (s * m) = b.drop (s * m)) ↔ ((a.drop (s * m)).take m = (b.drop (s * m)).take m ∧ a.drop ((s + 1) * m) = b.drop ((s + 1) * m)) := by
      rw [eA, eB]
      constructor
      · intro q; rw [q]; exact ⟨rfl, rfl⟩
      · rintro ⟨q1, q2⟩
        rw [← List.take_append_drop m (a.drop (s * m)), ← List.take_append_drop m (b.drop (s * m)), q1, q2]
    rw [List.range'_succ, List.forIn_cons]
    simp only [Sem.run_bind, hp, p3, Result.andThen_ok]
    by_cases hx : (a.drop (s * m)).take m = (b.drop (s * m)).take m
    · rw [hx]
      simp only [beq_self_eq_true, Bool.not_true, Bool.false_eq_true, if_false, Sem.run_pure, Result.andThen_ok]
      rw [ih]
      by_cases hy : a.drop ((s + 1) * m) = b.drop ((s + 1) * m)
      · rw [if_pos hy, if_pos (e3.2 ⟨hx, hy⟩)]
      · rw [if_neg hy, if_neg (fun q => hy (e3.1 q).2)]
    · have hx' : ((a.drop (s * m)).take m == (b.drop (s * m)).take m) = false := by simpa using hx
      rw [hx']
      simp only [Bool.not_false, if_true, Sem.run_pure, Result.andThen_ok]
      rw [if_neg (fun q => hx (e3.1 q).1)]
/-- an array of such -/
theorem EqB.arr (d : Nat) (t e : TypeId) (n m : Nat) (de : TypeDesc) (ht : P.underlying t = some (.array n e)) (he : P.underlying e = some de) (hde : (match de with | .struct _ | .array _ _ => true | _ => false) = true) (hs : (P.info? e).map (·.size) = some m) (h : EqB P d e m) : EqB P (d + 1) t (n * m) := by
  intro a b ha hb w
  have hsz : (sizeOf e).run P w = .ok m w := by
    cases hq : P.info? e with
    | none => simp [hq] at hs
    | some j =>
      have hj : j.size = m := by simpa [hq] using hs
      simp [sizeOf, typeInfo, hq, hj]
  unfold Op.equalIn
  simp only [Sem.run_bind, run_underlying ht, Result.andThen_ok, hsz]
  rw [Std.Legacy.Range.forIn_eq_forIn_range']
  have hr := run_eq_parts (P := P) d e m (run_part_agg e de m he hde hs) h a b w n 0 (by rw [Nat.zero_add]; exact ha.symm) (by rw [Nat.zero_add]; exact hb.symm)
  simp only [Nat.zero_mul, List.drop_zero] at hr
  simp only [Std.Legacy.Range.size, Nat.sub_zero, Nat.add_sub_cancel, Nat.div_one, hr, Result.andThen_ok]
  by_cases hab : a = b
  · subst hab; simp
  · simp [hab]
/-- a struct of two such -/
theorem EqB.two (d : Nat) (t e : TypeId) (fs : Array Field) (f g : Field) (n : Nat) (de : TypeDesc) (ht : P.underlying t = some (.struct fs)) (hfs : fs = #[f, g]) (hp : P.stoodInHeld t = false)
    (hf : f.type = e) (hg : g.type = e) (hfo : f.offset = 0) (hgo : g.offset = n) (hfn : f.name ≠ "_") (hgn : g.name ≠ "_")
    (he : P.underlying e = some de) (hde : (match de with | .struct _ | .array _ _ => true | _ => false) = true) (hs : (P.info? e).map (·.size) = some n) (h : EqB P d e n) : EqB P (d + 1) t (n + n) := by
  intro a b ha hb w
  have hfl : P.fieldsOf t = fs := by simp [Program.fieldsOf, ht]
  rw [run_equalIn_struct w d t (rowB a) (rowB b) (by rw [hfl]; exact ht) hp, hfl, hfs]
  have p := run_part_agg e de n he hde hs
  have q1 := h ((a.drop 0).take n) ((b.drop 0).take n) (by simp; omega) (by simp; omega) w
  have q2 := h ((a.drop n).take n) ((b.drop n).take n) (by simp; omega) (by simp; omega) w
  simp only [List.drop_zero] at q1
  have e1 : (a.drop n).take n = a.drop n := List.take_of_length_le (by simp; omega)
  have e2 : (b.drop n).take n = b.drop n := List.take_of_length_le (by simp; omega)
  rw [e1, e2] at q2
  have e3 : (a = b) ↔ (a.take n = b.take n ∧ a.drop n = b.drop n) := by
    constructor
    · rintro rfl; exact ⟨rfl, rfl⟩
    · rintro ⟨x, y⟩; rw [← List.take_append_drop n a, ← List.take_append_drop n b, x, y]
  by_cases h1 : a.take n = b.take n
  · have b1 : (a.take n == b.take n) = true := by simp [h1]
    rw [b1] at q1
    by_cases h2 : a.drop n = b.drop n
    · have := e3.2 ⟨h1, h2⟩
      subst this
      simp [Op.eqFields, hfn, hgn, hf, hg, hfo, hgo, p, q1, e1, q2]
    · have hne : a ≠ b := fun q => h2 (e3.1 q).2
      simp [Op.eqFields, hfn, hgn, hf, hg, hfo, hgo, p, q1, e1, e2, q2, h2, hne]
  · have hne : a ≠ b := fun q => h1 (e3.1 q).1
    simp [Op.eqFields, hfn, hf, hfo, p, q1, h1, hne]
theorem EqB.eql {t : TypeId} {n : Nat} (h : EqB P 10000 t n) (a b : List Int) (ha : a.length = n) (hb : b.length = n) (w : World) : (binOp .eql t (.agg (rowB a)) (.agg (rowB b))).run P w = .ok (.bool (a == b)) w := by
  rw [run_eql_struct, h a b ha hb w]; rfl
theorem EqB.neq {t : TypeId} {n : Nat} (h : EqB P 10000 t n) (a b : List Int) (ha : a.length = n) (hb : b.length = n) (w : World) : (binOp .neq t (.agg (rowB a)) (.agg (rowB b))).run P w = .ok (.bool (!(a == b))) w := by
  rw [run_neq_struct, h a b ha hb w]; rfl
end
end Go.Proofs.YtpaffncdfldnmaaDoor
