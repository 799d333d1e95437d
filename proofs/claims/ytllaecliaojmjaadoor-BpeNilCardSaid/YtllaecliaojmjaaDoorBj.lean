import Derived.Test.YtllaecliaojmjaaDoorBz
namespace Go.Proofs.YtllaecliaojmjaaDoor.Bp
set_option maxRecDepth 100000
open Go.ChangeShapes Go.WideShapes Go.ChangeAt Go.RowKit Go.Proofs.YtllaecliaojmjaaDoor.Tn

/-! ### the document's New: tools of its second loop -/
/-- a pair of the document's in a block of its own -/
structure P2 (b : Nat) (x y : Int) (W : World) : Prop where
  row : W.heap[b]? = some (.cells #[.int .i64 x, .int .i64 y] 47 (0, 0))
section
variable {W W' : World} {b : Nat} {x y : Int}
theorem P2.later (h : P2 b x y W) (hb : Below W.heap.size W W') : P2 b x y W' := ⟨(hb.block _ (Array.getElem?_eq_some_iff.1 h.row).1).trans h.row⟩
theorem P2.lt (h : P2 b x y W) : b < W.heap.size := (Array.getElem?_eq_some_iff.1 h.row).1
theorem P2.cells (h : P2 b x y W) : W.cell? ⟨b, 0, none⟩ = some (.int .i64 x) ∧ W.cell? ⟨b, 1, none⟩ = some (.int .i64 y) := by
  constructor
  · rw [cell_of_row _ _ _ _ _ _ h.row]; rfl
  · rw [cell_of_row _ _ _ _ _ _ h.row]; rfl
end
theorem size_3 (W : World) : (sizeOf 3).run Tryd.prog W = .ok 1 W := by kernel_rfl
theorem eq_arr2 (a b c d : Int) (W : World) : (Op.equalIn 10000 47 (.agg #[.int .i64 a, .int .i64 b]) (.agg #[.int .i64 c, .int .i64 d])).run Tryd.prog W = .ok (decide ((a, b) = (c, d))) W := by
  show (Op.equalIn (9999 + 1) 47 (.agg #[.int .i64 a, .int .i64 b]) (.agg #[.int .i64 c, .int .i64 d])).run Tryd.prog W = _
  have e1 := eq_int 9998 a c W
  have e2 := eq_int 9998 b d W
  unfold Op.equalIn
  simp only [Sem.run_bind, run_underlying Tryd.underlying47, Result.andThen_ok, size_3]
  rw [Std.Legacy.Range.forIn_eq_forIn_range']
  by_cases h1 : a = c
  · subst h1
    by_cases h2 : b = d
    · subst h2
      simp [Std.Legacy.Range.size, List.range', part3_0, part3_1, e1, e2]
    · have h2' : (b == d) = false := by simpa using h2
      rw [h2'] at e2
      simp [Std.Legacy.Range.size, List.range', part3_0, part3_1, e1, e2, h2]
  · have h1' : (a == c) = false := by simpa using h1
    rw [h1'] at e1
    simp [Std.Legacy.Range.size, List.range', part3_0, e1, h1]
theorem ptake_get {ps : List (Int × Int)} {j k : Nat} (h : j < k) : (ps.take k).getD j (0, 0) = ps.getD j (0, 0) := by
  rw [List.getD_eq_getElem?_getD, List.getElem?_take, if_pos h, ← List.getD_eq_getElem?_getD]
theorem ptake_mem {ps : List (Int × Int)} {j k : Nat} (hj : j < ps.length) (h : j < k) : (ps.take k).getD j (0, 0) ∈ ps.take k := by
  have hl : j < (ps.take k).length := by rw [List.length_take]; omega
  rw [List.getD_eq_getElem?_getD, List.getElem?_eq_getElem hl]
  exact List.getElem_mem hl
theorem ptake_notin {ps : List (Int × Int)} {k : Nat} {p : Int × Int} (hk : k ≤ ps.length) (h : ∀ z, z < k → ps.getD z (0, 0) ≠ p) : p ∉ ps.take k := fun hm => by
  obtain ⟨j, hj, e⟩ := List.mem_iff_getElem.1 hm
  have hjk : j < k := by rw [List.length_take] at hj; omega
  apply h j hjk
  rw [← ptake_get hjk, List.getD_eq_getElem?_getD, List.getElem?_eq_getElem hj]
  exact e
theorem prs_of_own {W : World} {base n : Nat} {v : Value} {ps : List (Int × Int)} (h : W.ownsRow base 47 2 v n (pcs ps)) : ∃ sq cq, v = .slice sq n cq ∧ ps.length = n ∧ Prs W sq cq ps := by
  have hl := pcs_length ps
  obtain ⟨h0, ⟨rfl, rfl⟩ | ⟨g, cap, cur, rfl, hb, hg, hle, hmx, hsz, htk⟩⟩ := h
  · have : ps.length = 0 := by omega
    exact ⟨none, 0, rfl, this, by omega, by unfold maxLen; omega, fun _ => rfl, fun h => by omega⟩
  · refine ⟨_, cap, rfl, by omega, by omega, hmx, fun e => by (cases e), fun _ => ⟨g, 0, rfl, fun k hk => ?_⟩⟩
    have hat := pcs_at ps k hk
    have hcell : ∀ j, j < n * 2 → W.cell? ⟨g, j, none⟩ = (pcs ps)[j]? := fun j hj => by
      rw [cell_of_row _ _ _ _ _ _ hg, ← htk, List.getElem?_take, if_pos hj, Array.getElem?_toList]
    intro j u hu
    rcases j with _ | _ | j
    · rw [Nat.zero_add, Nat.add_zero, hcell _ (by omega), hat.1]
      simpa using hu
    · rw [Nat.zero_add, Nat.zero_add, hcell _ (by omega), hat.2]
      simpa using hu
    · simp at hu
end Go.Proofs.YtllaecliaojmjaaDoor.Bp
