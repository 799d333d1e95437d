import Derived.Test.YtllaecliaojmjaaDoorDa
namespace Go.Proofs.YtllaecliaojmjaaDoor.Bp
set_option maxRecDepth 100000
open Go.ChangeShapes Go.WideShapes Go.ChangeAt Go.RowKit Go.Proofs.YtllaecliaojmjaaDoor.Tn

/-! ### merge, in place -/
theorem run_head1 (sp : Option Addr) (m cap k : Nat) (hk : k ≤ cap) (w : World) : (Instr.slice 26 (.slice sp m cap) none (some (.int .i64 (k : Int))) none).run Tryd.prog w = .ok (.slice sp k cap) w := by
  have he : (Tryd.prog.info? 3).map (·.size) = some 1 := by kernel_rfl
  cases hq : Tryd.prog.info? 3 with
  | none => simp [hq] at he
  | some i =>
    have hi : i.size = 1 := by simpa [hq] using he
    have hadd : sp.map (fun x => x.add 0) = sp := by
      rcases sp with _ | ⟨b, o, s⟩
      · rfl
      · simp [Addr.add]
    simp only [Instr.slice, run_underlying Tryd.underlying26, Instr.sliceBounds, Instr.sliceBound, asIntOf, sizeOf, typeInfo, Sem.run_bind, Result.andThen_ok, Sem.run_pure, Sem.run_ite]
    simp [hq, hi, hk, hadd]
theorem run_cut1 (c m cap k : Nat) (hk : k ≤ m) (hm : m ≤ cap) (w : World) : ∃ sp, (Instr.slice 26 (.slice (some ⟨c, 0, none⟩) m cap) (some (.int .i64 (k : Int))) none none).run Tryd.prog w = .ok (.slice sp (m - k) (cap - k)) w ∧ (k < m → sp = some ⟨c, k, none⟩) := by
  refine ⟨if cap = k then some ⟨c, 0, none⟩ else some ⟨c, k, none⟩, ?_, fun h => by rw [if_neg (by omega)]⟩
  have he : (Tryd.prog.info? 3).map (·.size) = some 1 := by kernel_rfl
  cases hq : Tryd.prog.info? 3 with
  | none => simp [hq] at he
  | some i =>
    have hi : i.size = 1 := by simpa [hq] using he
    simp only [Instr.slice, run_underlying Tryd.underlying26, Instr.sliceBounds, Instr.sliceBound, asIntOf, sizeOf, typeInfo, Sem.run_bind, Result.andThen_ok, Sem.run_pure, Sem.run_ite]
    by_cases hc : cap = k
    · simp [hq, hi, hk, hc]
    · simp [hq, hi, hk, hc, Addr.add]
      try omega
/-- a row that is merged: L of cap things in block c, told by block rb -/
structure Mb (rb c L cap : Nat) (K : List Int) (W : World) : Prop where
  box : W.heap[rb]? = some (.cells #[.slice (some ⟨c, 0, none⟩) L cap] 72 (0, 0))
  row : Rw c K W
  len : K.length = cap
  le : L ≤ cap
  ne : rb ≠ c
section
variable {rb c L cap : Nat} {K : List Int} {W W' : World}
theorem Mb.later (h : Mb rb c L cap K W) (hb : Below W.heap.size W W') : Mb rb c L cap K W' := ⟨(hb.block _ (Array.getElem?_eq_some_iff.1 h.box).1).trans h.box, h.row.later hb, h.len, h.le, h.ne⟩
theorem Mb.c0 (h : Mb rb c L cap K W) : W.cell? ⟨rb, 0, none⟩ = some (.slice (some ⟨c, 0, none⟩) L cap) := by rw [cell_of_row _ _ _ _ _ _ h.box]; rfl
theorem Mb.store (h : Mb rb c L cap K W) (k : Nat) (v : Int) : Mb rb c L cap (K.set k v) (W.setCell ⟨c, k, none⟩ (.int .i64 v)) :=
  ⟨by rw [heap_setCell_other _ _ _ _ (fun e => h.ne (by simpa using e))]; exact h.box, h.row.store k v, by rw [List.length_set]; exact h.len, h.le, h.ne⟩
theorem Mb.cut (h : Mb rb c L cap K W) {n : Nat} (hn : n ≤ L) : Mb rb c n cap K (W.setCell ⟨rb, 0, none⟩ (.slice (some ⟨c, 0, none⟩) n cap)) :=
  ⟨by rw [heap_setCell_same _ _ _ _ _ _ h.box]; rfl, by
    unfold Rw
    rw [heap_setCell_other _ _ _ _ (fun e => h.ne (by simpa using e.symm))]
    exact h.row, h.len, Nat.le_trans hn h.le, h.ne⟩
end
/-- while tokens are merged in place: n are written, k are read -/
structure Mi (p : Int × Int) (t : Int) (L : Nat) (K : List Int) (n k : Nat) (K' : List Int) : Prop where
  nk : n ≤ k
  kL : k ≤ L
  len : K'.length = K.length
  back : ∀ j, k ≤ j → K'.getD j 0 = K.getD j 0
  rest : K'.take n ++ merg p t ((K.take L).drop k) = merg p t (K.take L)
section
variable {p : Int × Int} {t : Int} {L : Nat} {K : List Int} {n k : Nat} {K' : List Int}
theorem Mi.start : Mi p t L K 0 0 K := ⟨Nat.le_refl _, Nat.zero_le _, rfl, fun _ _ => rfl, by simp⟩
theorem take_set {l : List Int} {n : Nat} (h : n < l.length) (v : Int) : (l.set n v).take (n + 1) = l.take n ++ [v] := by
  rw [take_at (by simpa using h)]
  rw [List.take_set_of_le (Nat.le_refl _)]
  simp [h]
theorem getD_take {l : List Int} {j L : Nat} (h : j < L) : (l.take L).getD j 0 = l.getD j 0 := by
  rw [List.getD_eq_getElem?_getD, List.getElem?_take, if_pos h, ← List.getD_eq_getElem?_getD]
theorem getD_set {l : List Int} {j n : Nat} (h : n ≠ j) (v : Int) : (l.set n v).getD j 0 = l.getD j 0 := by
  rw [List.getD_eq_getElem?_getD, List.getElem?_set_ne h, ← List.getD_eq_getElem?_getD]
theorem Mi.yes (h : Mi p t L K n k K') (hL : L ≤ K.length) (hk : k + 1 < L) (h1 : K.getD k 0 = p.1) (h2 : K.getD (k + 1) 0 = p.2) : Mi p t L K (n + 1) (k + 2) (K'.set n t) := by
  have hnk := h.nk
  have hl := h.len
  have hlt : (K.take L).length = L := by rw [List.length_take]; omega
  refine ⟨by omega, by omega, by rw [List.length_set, hl], fun j hj => ?_, ?_⟩
  · rw [getD_set (by omega)]
    exact h.back j (by omega)
  · rw [take_set (by omega), List.append_assoc, List.singleton_append, ← merg_yes (by rw [hlt]; exact hk) (by rw [getD_take (by omega)]; exact h1) (by rw [getD_take (by omega)]; exact h2)]
    exact h.rest
theorem Mi.no (h : Mi p t L K n k K') (hL : L ≤ K.length) (hk : k < L) (hno : ¬ (k + 1 < L ∧ K.getD k 0 = p.1 ∧ K.getD (k + 1) 0 = p.2)) : Mi p t L K (n + 1) (k + 1) (K'.set n (K.getD k 0)) := by
  have hnk := h.nk
  have hl := h.len
  have hlt : (K.take L).length = L := by rw [List.length_take]; omega
  refine ⟨by omega, by omega, by rw [List.length_set, hl], fun j hj => ?_, ?_⟩
  · rw [getD_set (by omega)]
    exact h.back j (by omega)
  · have hm := merg_no (p := p) (t := t) (l := K.take L) (k := k) (by rw [hlt]; exact hk) (by
      rintro ⟨q1, q2, q3⟩
      rw [hlt] at q1
      exact hno ⟨q1, by rw [← q2, getD_take (by omega)], by rw [← q3, getD_take (by omega)]⟩)
    rw [getD_take hk] at hm
    rw [take_set (by omega), List.append_assoc, List.singleton_append, ← hm]
    exact h.rest
theorem Mi.stop (h : Mi p t L K n L K') (hL : L ≤ K.length) : K'.take n = merg p t (K.take L) := by
  have := h.rest
  rw [List.drop_of_length_le (by rw [List.length_take]; omega)] at this
  simpa [merg] using this
theorem Mi.count (h : Mi p t L K n L K') (hL : L ≤ K.length) : n = (merg p t (K.take L)).length := by
  rw [← h.stop hL, List.length_take]
  have := h.len
  have := h.nk
  omega
end
end Go.Proofs.YtllaecliaojmjaaDoor.Bp
