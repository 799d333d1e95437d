import Derived.Test.YtllaecliaojmjaaDoorBq
namespace Go.Proofs.YtllaecliaojmjaaDoor.Bp
set_option maxRecDepth 100000
open Go.ChangeShapes Go.WideShapes Go.ChangeAt Go.RowKit Go.Proofs.YtllaecliaojmjaaDoor.Tn
open Go.ChangeMaps (setBlock heap_setBlock_same heap_setBlock_other)

/-! ### a coder of the package, in memory -/
/-- the place of a byte, from 1 on; 0: it has none -/
def plc (al : List Int) (x : Nat) : Int := if (x : Int) ∈ al then (al.idxOf (x : Int) : Int) + 1 else 0
def plcs (al : List Int) : List Value := (List.range 256).map fun i => .int .i64 (plc al i)
theorem plcs_length (al : List Int) : (plcs al).length = 256 := by simp [plcs]
theorem plcs_at (al : List Int) {x : Nat} (hx : x < 256) : (plcs al)[x]? = some (.int .i64 (plc al x)) := by simp [plcs, hx]
/-- the cells of a coder -/
def crow (sv : Value) (al : List Int) (m : Nat) : Array Value := (sv :: (plcs al ++ [.map (some m)])).toArray
theorem crow_size (sv : Value) (al : List Int) (m : Nat) : (crow sv al m).size = 258 := by simp [crow, plcs_length]
theorem crow_at (sv : Value) (al : List Int) (m : Nat) {x : Nat} (hx : x < 256) : (crow sv al m)[1 + x]? = some (.int .i64 (plc al x)) := by
  have h := plcs_at al hx
  unfold crow
  rw [List.getElem?_toArray, Nat.add_comm, List.getElem?_cons_succ, List.getElem?_append_left (by rw [plcs_length]; exact hx)]
  exact h
theorem crow_map (sv : Value) (al : List Int) (m : Nat) : (crow sv al m)[257]? = some (.map (some m)) := by
  unfold crow
  rw [List.getElem?_toArray, List.getElem?_cons_succ, List.getElem?_append_right (by rw [plcs_length]; omega), plcs_length]
  rfl
theorem crow_zero (sv : Value) (al : List Int) (m : Nat) : (crow sv al m)[0]? = some sv := rfl
/-- a coder in block g, its map in block m -/
structure Cr (g m : Nat) (al : List Int) (ps : List (Int × Int)) (sv : Value) (W : World) : Prop where
  row : W.heap[g]? = some (.cells (crow sv al m) 57 (0, 0))
  mp : Mp al.length ps m W
section
variable {W W' : World} {g m : Nat} {al : List Int} {ps : List (Int × Int)} {sv : Value}
theorem Cr.later (h : Cr g m al ps sv W) (hb : Below W.heap.size W W') : Cr g m al ps sv W' := ⟨(hb.block _ (Array.getElem?_eq_some_iff.1 h.row).1).trans h.row, h.mp.later hb⟩
theorem Cr.c0 (h : Cr g m al ps sv W) : W.cell? ⟨g, 0, none⟩ = some sv := by rw [cell_of_row _ _ _ _ _ _ h.row]; exact crow_zero _ _ _
theorem Cr.c1 (h : Cr g m al ps sv W) {x : Nat} (hx : x < 256) : W.cell? ⟨g, 1 + x, none⟩ = some (.int .i64 (plc al x)) := by rw [cell_of_row _ _ _ _ _ _ h.row]; exact crow_at _ _ _ hx
theorem Cr.c2 (h : Cr g m al ps sv W) : W.cell? ⟨g, 257, none⟩ = some (.map (some m)) := by rw [cell_of_row _ _ _ _ _ _ h.row]; exact crow_map _ _ _
end
set_option maxHeartbeats 4000000 in
theorem isToken_any (w : World) (g m : Nat) (al : List Int) (ps : List (Int × Int)) (sp : Option Addr) (M c : Nat) (t : Int) (h : Cr g m al ps (.slice sp M c) w) (_hM : M ≤ maxLen) :
    Calls Tryd.prog 20 #[.pointer (some ⟨g, 0, none⟩), .int .i64 t] w fun e w' => e = .returned (.bool (decide (0 ≤ t ∧ t < (M : Int)))) ∧ w' = w := by
  have c0 := h.c0
  clear h
  by_cases h0 : 0 ≤ t
  · have d0 : decide (0 ≤ t) = true := by simpa using h0
    have e1 : decide (0 ≤ t ∧ t < (M : Int)) = decide (t < (M : Int)) := by simp [h0]
    rw [e1]
    by_cases h1 : t < (M : Int)
    · have d1 : decide (t < (M : Int)) = true := by simpa using h1
      rw [d1]
      clear h0 h1
      go_enter Tryd.func20, Tryd.ntmps20
      go_wp2
      go_ret
      exact ⟨rfl, rfl⟩
    · have d1 : decide (t < (M : Int)) = false := by simpa using h1
      rw [d1]
      clear h0 h1
      go_enter Tryd.func20, Tryd.ntmps20
      go_wp2
      go_ret
      exact ⟨rfl, rfl⟩
  · have d0 : decide (0 ≤ t) = false := by simpa using h0
    have e1 : decide (0 ≤ t ∧ t < (M : Int)) = false := by simp [h0]
    rw [e1]
    clear h0
    go_enter Tryd.func20, Tryd.ntmps20
    go_wp2
    go_ret
    exact ⟨rfl, rfl⟩
set_option maxHeartbeats 4000000 in
theorem many_any (w : World) (g m : Nat) (al : List Int) (ps : List (Int × Int)) (sp : Option Addr) (M c : Nat) (h : Cr g m al ps (.slice sp M c) w) (_hM : M ≤ maxLen) :
    Calls Tryd.prog 15 #[.pointer (some ⟨g, 0, none⟩)] w fun e w' => e = .returned (.int .i64 (M : Int)) ∧ w' = w := by
  have c0 := h.c0
  clear h
  go_enter Tryd.func15, Tryd.ntmps15
  go_wp2
  go_ret
  exact ⟨rfl, rfl⟩
set_option maxHeartbeats 4000000 in
theorem nilMany_any (w : World) : Calls Tryd.prog 15 #[.pointer none] w fun e w' => e = .returned (.int .i64 0) ∧ w' = w := by
  go_enter Tryd.func15, Tryd.ntmps15
  go_wp2
  go_ret
  exact ⟨rfl, rfl⟩
end Go.Proofs.YtllaecliaojmjaaDoor.Bp
