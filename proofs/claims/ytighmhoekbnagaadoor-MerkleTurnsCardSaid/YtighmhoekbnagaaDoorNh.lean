import Derived.Test.YtighmhoekbnagaaDoorNg
namespace Go.Proofs.YtighmhoekbnagaaDoor
open Go.ChangeShapes Go.WideShapes Go.ChangeAt Go.RowKit

/-! ### where a proof ends -/
theorem proofD_pf (i : Nat) (ls : List (List Int)) (H : Nat) (hH : ls.length ≤ 2 ^ H) : proofD i ls = pf nodeD H i (ls.map leafD) := by
  unfold proofD
  exact pf_any nodeD i (by simpa using two_pow_ge _) (by simpa using hH)
theorem proofD_split (i : Nat) (ls : List (List Int)) (K : Nat) (h1 : 2 ^ K < ls.length) (h2 : ls.length ≤ 2 ^ (K + 1)) :
    proofD i ls = if i < 2 ^ K then proofD i (ls.take (2 ^ K)) ++ [rootD (ls.drop (2 ^ K))] else proofD (i - 2 ^ K) (ls.drop (2 ^ K)) ++ [rootD (ls.take (2 ^ K))] := by
  have hp := pow_pos2 K
  have hl1 : (ls.take (2 ^ K)).length = 2 ^ K := by rw [List.length_take]; omega
  have hl2 : (ls.drop (2 ^ K)).length = ls.length - 2 ^ K := List.length_drop
  have h2' := h2
  rw [pow_succ2] at h2'
  rw [proofD_pf i ls (K + 1) h2, pf_succ, if_neg (by rw [List.length_map]; omega), ← List.map_take, ← List.map_drop, proofD_pf i (ls.take (2 ^ K)) K (by omega), proofD_pf (i - 2 ^ K) (ls.drop (2 ^ K)) K (by omega),
    rootD_rt (ls.take (2 ^ K)) (fun e => by rw [e] at hl1; simp at hl1; omega) K (by omega), rootD_rt (ls.drop (2 ^ K)) (fun e => by rw [e] at hl2; simp at hl2; omega) K (by omega)]
/-- digests but for the last -/
theorem Digs.init {w : World} {sp : Option Addr} {cap : Nat} {ds : List (List Int)} {r : List Int} (h : Digs w sp cap (ds ++ [r])) : Digs w sp cap ds := by
  have hle := h.le
  rw [List.length_append, List.length_singleton] at hle
  refine ⟨by omega, h.max, h.nul, fun d hd => h.all d (by simp [hd]), fun h0 => ?_⟩
  obtain ⟨c, o, e, hl⟩ := h.lies (by simp)
  refine ⟨c, o, e, fun i hi => ?_⟩
  have := hl i (by simp only [List.flatten_append, List.length_append]; omega)
  rw [this]
  simp only [List.flatten_append, List.getD_eq_getElem?_getD, List.getElem?_append_left hi]
/-- the last of them -/
theorem Digs.last {w : World} {sp : Option Addr} {cap : Nat} {ds : List (List Int)} {r : List Int} (h : Digs w sp cap (ds ++ [r])) : ∃ c o, sp = some ⟨c, o, none⟩ ∧ w.rangeAt c (o + 32 * ds.length) (r.map (Value.int .u8)) ∧ r.length = 32 := by
  obtain ⟨c, o, e, hr⟩ := h.at_ ds.length (by simp)
  have e2 : (ds ++ [r]).getD ds.length [] = r := by simp
  rw [e2] at hr
  exact ⟨c, o, e, hr, h.all r (by simp)⟩
/-- leaves that are few are mild -/
theorem few_mild {ls : List (List Int)} (h : few ls = true) : Mild ls := by
  obtain ⟨h1, h2⟩ := few_yes h
  exact ⟨by omega, fun l hl => Nat.le_trans (h1 l hl) (by omega)⟩
theorem wpList_val {P : Program} {w : World} {ops : Array Oper} {rest : List Oper} {o : Oper} {a : Act} {Q : Exit → Act → World → Prop} (hg : o.guard = none) (v : Value) (hr : (execOp a.eval o).run P w = .ok (.value v) w) (h : wpList P ops Q rest (a.put o.dst v) w) : wpList P ops Q (o :: rest) a w := by
  refine wpList_plain hg fun K hK => ?_
  unfold Oper.wp
  simp only [hr, Oper.upon]
  exact hK _ _ h
theorem run_headZ (t e : TypeId) (z : Nat) (hu : Tryd.prog.underlying t = some (.slice e)) (he : (Tryd.prog.info? e).map (·.size) = some z) (sp : Option Addr) (m cap k : Nat) (hk : k ≤ cap) (w : World) : (Instr.slice t (.slice sp m cap) none (some (.int .i64 (k : Int))) none).run Tryd.prog w = .ok (.slice sp k cap) w := by
  cases hq : Tryd.prog.info? e with
  | none => simp [hq] at he
  | some i =>
    have hi : i.size = z := by simpa [hq] using he
    have hadd : sp.map (fun x => x.add 0) = sp := by
      rcases sp with _ | ⟨b, o, s⟩
      · rfl
      · simp [Addr.add]
    simp only [Instr.slice, run_underlying hu, Instr.sliceBounds, Instr.sliceBound, asIntOf, sizeOf, typeInfo, Sem.run_bind, Result.andThen_ok, Sem.run_pure, Sem.run_ite]
    simp [hq, hi, hk, hadd]
theorem run_less1 (m : Nat) (h : m + 1 ≤ 9223372036854775807) (w : World) : (binOp .sub 3 (.int .i64 ((m + 1 : Nat) : Int)) (.int .i64 1)).run Tryd.prog w = .ok (.int .i64 (m : Int)) w := by
  have hwk : IntKind.i64.wrap (m : Int) = (m : Int) := IntWalk.i64_in _ (by omega)
  simp [go_sem, hwk]
theorem cfAwake (vs : Array Value) (W : World) : (callFunc 10 vs).run Tryd.prog W = .ok (.enter 10 vs) W := cf Tryd.func10 (by kernel_rfl) (by kernel_rfl) vs W
theorem cfFew (vs : Array Value) (W : World) : (callFunc 9 vs).run Tryd.prog W = .ok (.enter 9 vs) W := cf Tryd.func9 (by kernel_rfl) (by kernel_rfl) vs W
theorem cfDigests (vs : Array Value) (W : World) : (callFunc 18 vs).run Tryd.prog W = .ok (.enter 18 vs) W := cf Tryd.func18 (by kernel_rfl) (by kernel_rfl) vs W
end Go.Proofs.YtighmhoekbnagaaDoor
