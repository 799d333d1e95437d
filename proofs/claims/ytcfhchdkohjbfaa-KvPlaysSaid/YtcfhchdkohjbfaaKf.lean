/- Pools of rows in pages: the calls that all pools share (row.last). -/
import Derived.Test.YtcfhchdkohjbfaaKe
import Derived.Lib.SliceRun
import Derived.Laws.MakeOwn
namespace Go.Proofs.Ytcfhchdkohjbfaa.Kv
set_option maxRecDepth 100000
open Go.ChangeShapes Go.WideShapes Go.ChangeAt Go.RowKit Go.Proofs.Ytcfhchdkohjbfaa.Tn
open Go.ChangeMaps (setBlock heap_setBlock_same heap_setBlock_other)

theorem one_nats (l : List Nat) : ∀ v ∈ l.map natV, v.oneCell' = true := by
  intro v hv
  obtain ⟨x, _, rfl⟩ := List.mem_map.1 hv
  rfl
theorem Row.toSl {w : World} {e : TypeId} {v : Value} {b : Option Nat} {xs : List Value} (h : Row w e v b xs) : ∃ sp cap, v = .slice sp xs.length cap ∧ (sp = none → cap = 0) ∧ (xs.length ≤ cap ∧ cap ≤ maxLen ∧ (0 < xs.length → ∃ c, b = some c ∧ sp = some ⟨c, 0, none⟩ ∧ ∀ i x, xs[i]? = some x → w.cell? ⟨c, i, none⟩ = some x)) := by
  rcases h with ⟨_, rfl, sp, rfl⟩ | ⟨g, cap, cur, rfl, rfl, h2, h3, h4, h5, h6⟩
  · exact ⟨sp, 0, rfl, fun _ => rfl, Nat.le_refl _, by unfold maxLen; omega, fun h => absurd h (by simp)⟩
  · refine ⟨_, cap, rfl, (fun h => by cases h), h3, h4, fun _ => ⟨g, rfl, rfl, fun i x hx => ?_⟩⟩
    rw [cell_of_row _ _ _ _ _ _ h2]
    rw [← h6, List.getElem?_take] at hx
    split at hx
    · simpa using hx
    · cases hx
theorem Row.sl {w : World} {e : TypeId} {v : Value} {b : Option Nat} {xs : List Value} (h : Row w e v b xs) : ∃ sp cap, v = .slice sp xs.length cap ∧ Sl w sp cap xs := by
  obtain ⟨sp, cap, e1, h1, h2, h3, h4⟩ := h.toSl
  refine ⟨sp, cap, e1, ⟨h2, h3, h1, fun h0 => ?_⟩⟩
  obtain ⟨c, _, e2, h5⟩ := h4 h0
  exact ⟨c, 0, e2, fun i x hx => by rw [Nat.zero_add]; exact h5 i x hx⟩
set_option maxHeartbeats 1000000 in
/-- the last page of a row -/
theorem last_any (w : World) (rb : Nat) (n : Nat) (v : Value) (b : Option Nat) (P : List Nat) (hr : w.heap[rb]? = some (.cells #[.int .i64 (n : Int), v] tR (0, 0))) (hp : Row w 3 v b (P.map natV)) (h0 : 0 < P.length) : Calls Try.prog 44 #[.pointer (some ⟨rb, 0, none⟩)] w fun e w' => e = .returned (.int .i64 (lastP P : Int)) ∧ ∃ q, w' = w.drewN q := by
  have h1 : w.cell? ⟨rb, 1, none⟩ = some v := by rw [cell_of_row _ _ _ _ _ _ hr]; rfl
  obtain ⟨sp, cap, rfl, _, h2, h3, h4⟩ := hp.toSl
  rw [List.length_map] at h2 h4
  obtain ⟨c, rfl, rfl, h5⟩ := h4 h0
  have h6 : w.cell? ⟨c, P.length - 1, none⟩ = some (.int .i64 (lastP P : Int)) := h5 _ _ (by rw [List.getElem?_map, lastP_at h0]; rfl)
  clear hr hp h4 h5
  unfold maxLen at h3
  rw [List.length_map] at h1
  generalize P.length = N at *
  have hw : IntKind.i64.wrap ((N : Int) - 1) = ((N - 1 : Nat) : Int) := by rw [IntWalk.i64_in _ (by omega)]; omega
  have hN : ((N - 1 : Nat) : Int) < N := by omega
  have hN0 : (0 : Int) ≤ ((N - 1 : Nat) : Int) := by omega
  have hT : (((N - 1 : Nat) : Int)).toNat = N - 1 := by omega
  generalize N - 1 = M at *
  go_enter Try.func44, Try.ntmps44
  go_wp2
  go_quiet (fail)
  go_wp2
  go_ret
  exact ⟨rfl, nq, rfl⟩
theorem set_drewN (w : World) (q : Nat) : Below w.heap.size w (w.drewN q) := below_drewN (Below.refl _ _) q
section
variable {w : World} {ops : Array Oper} {rest : List Oper} {o : Oper} {a : Act} {Q : Exit → Act → World → Prop}
/-- append of one value to such a row -/
theorem exec_append_row (t e : TypeId) (by_ : Nat) (z : Value) (hu : Try.prog.underlying t = some (.slice e)) (hinf : (Try.prog.info? e).map (fun i => (i.zero, i.size, i.bytes)) = some (some z, 1, by_)) (hzc : z.cells.size = 1) (hby : by_ ≤ 100)
    (s x : Operand) (ho : o.op = .call { callee := .builtin .append, args := #[s, x], argTypes := #[t, t] }) (v : Value) (b : Option Nat) (xs : List Value) (hs : a.eval s = v) (hr : Row w e v b xs) (c : Nat) (y : Value) (hx : a.eval x = .slice (some ⟨c, 0, none⟩) 1 1) (hc : w.cell? ⟨c, 0, none⟩ = some y) (h1 : y.oneCell' = true) (hn : xs.length ≤ 1000000) :
    ∃ v' w' b', (execOp a.eval o).run Try.prog w = .ok (.value v') w' ∧ Row w' e v' b' (xs ++ [y]) ∧ w.grownBy w' b ∧ (b' = b ∨ ∃ g, b' = some g ∧ w.heap.size ≤ g) := by
  obtain ⟨v', w', b', hrun, h2, h3, h4⟩ := run_append_row w t o.type e by_ z hu hinf hzc hby v b xs hr c y hc h1 hn
  refine ⟨v', w', b', ?_, h2, h3, h4⟩
  simp [execOp, ho, resolve, invoke, builtin, hs, hx, hrun, Result.andThen]
theorem gives_append_row (t e : TypeId) (by_ : Nat) (z : Value) (hu : Try.prog.underlying t = some (.slice e)) (hinf : (Try.prog.info? e).map (fun i => (i.zero, i.size, i.bytes)) = some (some z, 1, by_)) (hzc : z.cells.size = 1) (hby : by_ ≤ 100)
    (s x : Operand) (ho : o.op = .call { callee := .builtin .append, args := #[s, x], argTypes := #[t, t] }) (v : Value) (b : Option Nat) (xs : List Value) (hs : a.eval s = v) (hr : Row w e v b xs) (c : Nat) (y : Value) (hx : a.eval x = .slice (some ⟨c, 0, none⟩) 1 1) (hc : w.cell? ⟨c, 0, none⟩ = some y) (h1 : y.oneCell' = true) (hn : xs.length ≤ 1000000) {G : Value → World → Prop}
    (h : ∀ v' w' b', Row w' e v' b' (xs ++ [y]) → w.grownBy w' b → (b' = b ∨ ∃ g, b' = some g ∧ w.heap.size ≤ g) → G v' w') : Gives Try.prog o a w G := by
  obtain ⟨v', w', b', hrun, h2, h3, h4⟩ := exec_append_row t e by_ z hu hinf hzc hby s x ho v b xs hs hr c y hx hc h1 hn
  exact Tn.gives_val v' w' hrun (h v' w' b' h2 h3 h4)
theorem wpList_append_row (t e : TypeId) (by_ : Nat) (z : Value) (hu : Try.prog.underlying t = some (.slice e)) (hinf : (Try.prog.info? e).map (fun i => (i.zero, i.size, i.bytes)) = some (some z, 1, by_)) (hzc : z.cells.size = 1) (hby : by_ ≤ 100)
    (hgd : o.guard = none) (s x : Operand) (ho : o.op = .call { callee := .builtin .append, args := #[s, x], argTypes := #[t, t] }) (v : Value) (b : Option Nat) (xs : List Value) (hs : a.eval s = v) (hr : Row w e v b xs) (c : Nat) (y : Value) (hx : a.eval x = .slice (some ⟨c, 0, none⟩) 1 1) (hc : w.cell? ⟨c, 0, none⟩ = some y) (h1 : y.oneCell' = true) (hn : xs.length ≤ 1000000)
    (h : ∀ sq cq w' b', Row w' e (.slice sq (xs.length + 1) cq) b' (xs ++ [y]) → w.grownBy w' b → (b' = b ∨ ∃ g, b' = some g ∧ w.heap.size ≤ g) → wpList Try.prog ops Q rest (a.put o.dst (.slice sq (xs.length + 1) cq)) w') : wpList Try.prog ops Q (o :: rest) a w := by
  obtain ⟨v', w', b', hrun, h2, h3, h4⟩ := exec_append_row t e by_ z hu hinf hzc hby s x ho v b xs hs hr c y hx hc h1 hn
  obtain ⟨sq, cq, rfl, _⟩ := h2.slice
  rw [List.length_append, List.length_singleton] at h2 hrun
  refine wpList_plain hgd fun K hK => ?_
  unfold Oper.wp
  rw [hrun]
  exact hK _ _ (h sq cq w' b' h2 h3 h4)
/-- the same in a region whose order is drawn -/
theorem step_append_row (t e : TypeId) (by_ : Nat) (z : Value) (hu : Try.prog.underlying t = some (.slice e)) (hinf : (Try.prog.info? e).map (fun i => (i.zero, i.size, i.bytes)) = some (some z, 1, by_)) (hzc : z.cells.size = 1) (hby : by_ ≤ 100) {K : Act → World → Prop} {E : Prop}
    (hgd : o.guard = none) (s x : Operand) (ho : o.op = .call { callee := .builtin .append, args := #[s, x], argTypes := #[t, t] }) (v : Value) (b : Option Nat) (xs : List Value) (hs : a.eval s = v) (hr : Row w e v b xs) (c : Nat) (y : Value) (hx : a.eval x = .slice (some ⟨c, 0, none⟩) 1 1) (hc : w.cell? ⟨c, 0, none⟩ = some y) (h1 : y.oneCell' = true) (hn : xs.length ≤ 1000000)
    (h : ∀ sq cq w' b', Row w' e (.slice sq (xs.length + 1) cq) b' (xs ++ [y]) → w.grownBy w' b → (b' = b ∨ ∃ g, b' = some g ∧ w.heap.size ≤ g) → K (a.put o.dst (.slice sq (xs.length + 1) cq)) w') : if Region.wanted o (yielded ops a.tmps) = true then o.wp Try.prog a w K Q else E := by
  obtain ⟨v', w', b', hrun, h2, h3, h4⟩ := exec_append_row t e by_ z hu hinf hzc hby s x ho v b xs hs hr c y hx hc h1 hn
  obtain ⟨sq, cq, rfl, _⟩ := h2.slice
  rw [List.length_append, List.length_singleton] at h2 hrun
  have hw : Region.wanted o (yielded ops a.tmps) = true := by simp [Region.wanted, hgd]
  rw [if_pos hw]
  unfold Oper.wp
  rw [hrun]
  exact h sq cq w' b' h2 h3 h4
/-- make([]T, n) -/
theorem wpList_makeN (t e : TypeId) (by_ : Nat) (z : Value) (hu : Try.prog.underlying t = some (.slice e)) (hinf : (Try.prog.info? e).map (fun i => (i.zero, i.size, i.bytes)) = some (some z, 1, by_)) (hby : by_ ≤ 100)
    (hgd : o.guard = none) (s x : Operand) (ho : o.op = .makeSlice t s x) (c : Nat) (hs : a.eval s = .int .i64 (c : Int)) (hx : a.eval x = .int .i64 (c : Int)) (hc : c ≤ 1000000)
    (h : wpList Try.prog ops Q rest (a.put o.dst (.slice (some ⟨w.heap.size, 0, none⟩) c c)) (w.alloc (.cells (madeCells z.cells c) e))) : wpList Try.prog ops Q (o :: rest) a w := by
  obtain ⟨i0, hi, hz0, hz1, hz2⟩ := info_parts hinf
  have hb : (i0.bytes : Int) * (c : Int) ≤ 281474976710656 := by
    have h1 : i0.bytes * c ≤ 100 * 1000000 := Nat.mul_le_mul (by omega) hc
    have h2 : ((i0.bytes * c : Nat) : Int) ≤ 100000000 := by omega
    rw [Int.natCast_mul] at h2
    omega
  have hrun := run_makeSlice (P := Try.prog) w t e i0 z hu hi hz0 .i64 .i64 (c : Int) (c : Int) (by omega) (by omega) (by rw [hz1]; simp; omega) hb (by omega)
  rw [hz1] at hrun
  simp only [Int.toNat_natCast, Nat.mul_one] at hrun
  refine wpList_plain hgd fun K hK => ?_
  unfold Oper.wp
  simp [execOp, ho, hs, hx, hrun, Result.andThen]
  exact hK _ _ h
end
end Go.Proofs.Ytcfhchdkohjbfaa.Kv
