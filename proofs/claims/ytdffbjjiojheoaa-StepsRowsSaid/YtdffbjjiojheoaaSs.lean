/- Steps: the matrix that a part is a row of. -/
import Derived.Test.YtdffbjjiojheoaaSl
import Derived.Test.YtdffbjjiojheoaaTr
namespace Go.Proofs.Ytdffbjjiojheoaa.St
set_option maxRecDepth 100000
open Go.ChangeShapes Go.WideShapes Go.ChangeAt Go.RowKit Go.Shelf Go.Proofs.Ytdffbjjiojheoaa.Tn Go.Proofs.Ytdffbjjiojheoaa.Wg
theorem oneRow_any (w : World) (sp : Option Addr) (n cap : Nat) : Calls Try.prog 70 #[.slice sp n cap] w fun e w' => e = .returned (.agg #[.int .i64 1, .int .i64 (n : Int), .slice sp n cap]) ∧ Below w.heap.size w w' := by
  go_enter Try.func70, Try.ntmps70
  go_wp2
  exact bodyPost_ret (v := .agg #[.int .i64 1, .int .i64 (n : Int), .slice sp n cap]) (Mk.results_cellM Try.results70 _ _ w.heap.size 35 _ (0, 0) _ rfl (heap_alloc_new _ _) Try.underlying35 rfl Mk.size_matM) rfl ⟨rfl, (Below.refl _ _).alloc (Nat.le_refl _) _⟩
/-- the boxes: a struct, and the matrix that is answered -/
structure LmI (w : World) (cs ms : Array Value) (T : TypeId) (W : World) : Prop where
  below : Below w.heap.size w W
  row : W.heap[w.heap.size]? = some (.cells cs T (0, 0))
  mb : W.heap[w.heap.size + 1]? = some (.cells ms 35 (0, 0))
theorem LmI.later {w W W' : World} {cs ms : Array Value} {T : TypeId} (h : LmI w cs ms T W) (hb : Below W.heap.size W W') : LmI w cs ms T W' :=
  ⟨h.below.trans (hb.mono h.below.size), (hb.block _ (Array.getElem?_eq_some_iff.1 h.row).1).trans h.row, (hb.block _ (Array.getElem?_eq_some_iff.1 h.mb).1).trans h.mb⟩
theorem LmI.put {w W : World} {cs ms : Array Value} {T : TypeId} (h : LmI w cs ms T W) (ns : Array Value) : LmI w cs ns T (W.setRow (w.heap.size + 1) ns) :=
  ⟨Mk.below_setRowM h.below (by omega) _, (setRow_other _ _ _ _ (by omega)).trans h.row, setRow_heap _ _ _ _ _ _ h.mb⟩
theorem LmI.made (w : World) (cs ms : Array Value) (T : TypeId) : LmI w cs ms T ((w.alloc (.cells cs T)).alloc (.cells ms 35)) := by
  obtain ⟨O1, hO1⟩ : ∃ O, (Obj.cells cs T (0, 0)) = O := ⟨_, rfl⟩
  obtain ⟨O2, hO2⟩ : ∃ O, (Obj.cells ms 35 (0, 0)) = O := ⟨_, rfl⟩
  rw [hO1, hO2]
  have e1 : (w.alloc O1).heap.size = w.heap.size + 1 := by simp
  refine ⟨((Below.refl _ _).alloc (Nat.le_refl _) _).alloc (by simp) _, ?_, ?_⟩
  · rw [hO1, heap_alloc_old _ _ (by omega)]; exact heap_alloc_new _ _
  · rw [hO2, ← e1]; exact heap_alloc_new _ _
theorem mat_one (r c : Int) (sp : Option Addr) (n cap : Nat) : (#[.int .i64 r, .int .i64 c, .slice sp n cap] : Array Value).all (·.oneCell') = true := by kernel_rfl
theorem range3 {W : World} {g o : Nat} {x y z : Value} (h0 : W.cell? ⟨g, o, none⟩ = some x) (h1 : W.cell? ⟨g, o + 1, none⟩ = some y) (h2 : W.cell? ⟨g, o + 2, none⟩ = some z) : W.rangeAt g o [x, y, z] := by
  intro i u hu
  rcases i with _ | _ | _ | i
  · rw [Nat.add_zero, h0]; simpa using hu
  · rw [h1]; simpa using hu
  · rw [h2]; simpa using hu
  · simp at hu
theorem lay2_any (w : World) (cs : Array Value) (sp : Option Addr) (n cap : Nat) (h0 : cs[0]? = some (.slice sp n cap)) : Calls Try.prog 71 #[.agg cs, .int .i64 2] w fun e w' => e = .returned (.agg #[.int .i64 1, .int .i64 (n : Int), .slice sp n cap]) ∧ Below w.heap.size w w' := by
  have HM := Lib.hid (LmI.made w cs #[.int .i64 0, .int .i64 0, .slice none 0 0] 83)
  have HO := Lib.hid (fun W => oneRow_any W sp n cap)
  go_enter Try.func71, Try.ntmps71
  go_upto_region 1 with fail
  refine Mk.genM (Q := fun w => Code.wp _ _ _ _ w) _ (LmI w cs #[.int .i64 0, .int .i64 0, .slice none 0 0] 83) HM.out ?_
  clear HM
  intro w1 k1
  have HI := Lib.hid k1
  clear k1
  have c0 : w1.cell? ⟨w.heap.size, 0, none⟩ = some (.slice sp n cap) := by rw [cell_of_row _ _ _ _ _ _ HI.out.row]; exact h0
  clear h0
  go_wp2_with (first
    | (go_at_call 70; refine (HO.out _).mono ?_; rintro e w2 ⟨rfl, hb2⟩; have HI2 := Lib.hid (HI.out.later hb2); clear hb2)
    | (refine wpList_store_row rfl 35 (.tmp 4) (.tmp 10) rfl (w.heap.size + 1) #[.int .i64 1, .int .i64 (n : Int), .slice sp n cap] rfl rfl 35 _ HI2.out.mb Mk.size_matM rfl (mat_one _ _ _ _ _) ?_))
  exact bodyPost_ret (v := .agg #[.int .i64 1, .int .i64 (n : Int), .slice sp n cap]) (Mk.results_cellM Try.results71 _ _ (w.heap.size + 1) 35 _ (0, 0) _ rfl (HI2.out.put _).mb Try.underlying35 rfl Mk.size_matM) rfl ⟨rfl, (HI2.out.put _).below⟩
theorem lay3_any (w : World) (cs : Array Value) (sp : Option Addr) (n cap : Nat) (R C : Int) (h0 : cs[1]? = some (.int .i64 R)) (h1 : cs[2]? = some (.int .i64 C)) (h2 : cs[3]? = some (.slice sp n cap)) : Calls Try.prog 71 #[.agg cs, .int .i64 3] w fun e w' => e = .returned (.agg #[.int .i64 R, .int .i64 C, .slice sp n cap]) ∧ Below w.heap.size w w' := by
  have HM := Lib.hid (LmI.made w cs #[.int .i64 0, .int .i64 0, .slice none 0 0] 83)
  have HO := Lib.hid (fun W => oneRow_any W sp n cap)
  go_enter Try.func71, Try.ntmps71
  go_upto_region 1 with fail
  refine Mk.genM (Q := fun w => Code.wp _ _ _ _ w) _ (LmI w cs #[.int .i64 0, .int .i64 0, .slice none 0 0] 83) HM.out ?_
  clear HM
  intro w1 k1
  have HI := Lib.hid k1
  clear k1
  have c0 : w1.cell? ⟨w.heap.size, 1, none⟩ = some (.int .i64 R) := by rw [cell_of_row _ _ _ _ _ _ HI.out.row]; exact h0
  have c1 : w1.cell? ⟨w.heap.size, 2, none⟩ = some (.int .i64 C) := by rw [cell_of_row _ _ _ _ _ _ HI.out.row]; exact h1
  have c2 : w1.cell? ⟨w.heap.size, 3, none⟩ = some (.slice sp n cap) := by rw [cell_of_row _ _ _ _ _ _ HI.out.row]; exact h2
  have HG := Lib.hid (range3 c0 c1 c2)
  clear h0 h1 h2 c0 c1 c2
  go_wp2_with (first
    | (refine wpList_load_mid rfl 35 (.tmp 13) rfl w.heap.size 1 rfl [.int .i64 R, .int .i64 C, .slice sp n cap] _ HG.out Try.underlying35 rfl Mk.size_matM ?_)
    | (refine wpList_store_row rfl 35 (.tmp 4) (.tmp 14) rfl (w.heap.size + 1) #[.int .i64 R, .int .i64 C, .slice sp n cap] rfl rfl 35 _ HI.out.mb Mk.size_matM rfl (mat_one _ _ _ _ _) ?_))
  try simp only [Act.put, List.setIfInBounds_toArray, List.set_cons_succ, List.set_cons_zero]
  exact bodyPost_ret (v := .agg #[.int .i64 R, .int .i64 C, .slice sp n cap]) (Mk.results_cellM Try.results71 _ _ (w.heap.size + 1) 35 _ (0, 0) _ rfl (HI.out.put _).mb Try.underlying35 rfl Mk.size_matM) rfl ⟨rfl, (HI.out.put _).below⟩
theorem lay4_any (w : World) (cs : Array Value) (sp : Option Addr) (n cap : Nat) (R C : Int) (h0 : cs[4]? = some (.int .i64 R)) (h1 : cs[5]? = some (.int .i64 C)) (h2 : cs[6]? = some (.slice sp n cap)) : Calls Try.prog 71 #[.agg cs, .int .i64 4] w fun e w' => e = .returned (.agg #[.int .i64 R, .int .i64 C, .slice sp n cap]) ∧ Below w.heap.size w w' := by
  have HM := Lib.hid (LmI.made w cs #[.int .i64 0, .int .i64 0, .slice none 0 0] 83)
  have HO := Lib.hid (fun W => oneRow_any W sp n cap)
  go_enter Try.func71, Try.ntmps71
  go_upto_region 1 with fail
  refine Mk.genM (Q := fun w => Code.wp _ _ _ _ w) _ (LmI w cs #[.int .i64 0, .int .i64 0, .slice none 0 0] 83) HM.out ?_
  clear HM
  intro w1 k1
  have HI := Lib.hid k1
  clear k1
  have c0 : w1.cell? ⟨w.heap.size, 4, none⟩ = some (.int .i64 R) := by rw [cell_of_row _ _ _ _ _ _ HI.out.row]; exact h0
  have c1 : w1.cell? ⟨w.heap.size, 5, none⟩ = some (.int .i64 C) := by rw [cell_of_row _ _ _ _ _ _ HI.out.row]; exact h1
  have c2 : w1.cell? ⟨w.heap.size, 6, none⟩ = some (.slice sp n cap) := by rw [cell_of_row _ _ _ _ _ _ HI.out.row]; exact h2
  have HG := Lib.hid (range3 c0 c1 c2)
  clear h0 h1 h2 c0 c1 c2
  go_wp2_with (first
    | (refine wpList_load_mid rfl 35 (.tmp 17) rfl w.heap.size 4 rfl [.int .i64 R, .int .i64 C, .slice sp n cap] _ HG.out Try.underlying35 rfl Mk.size_matM ?_)
    | (refine wpList_store_row rfl 35 (.tmp 4) (.tmp 18) rfl (w.heap.size + 1) #[.int .i64 R, .int .i64 C, .slice sp n cap] rfl rfl 35 _ HI.out.mb Mk.size_matM rfl (mat_one _ _ _ _ _) ?_))
  try simp only [Act.put, List.setIfInBounds_toArray, List.set_cons_succ, List.set_cons_zero]
  exact bodyPost_ret (v := .agg #[.int .i64 R, .int .i64 C, .slice sp n cap]) (Mk.results_cellM Try.results71 _ _ (w.heap.size + 1) 35 _ (0, 0) _ rfl (HI.out.put _).mb Try.underlying35 rfl Mk.size_matM) rfl ⟨rfl, (HI.out.put _).below⟩
theorem lay5_any (w : World) (cs : Array Value) (sp : Option Addr) (n cap : Nat) (R C : Int) (h0 : cs[7]? = some (.int .i64 R)) (h1 : cs[8]? = some (.int .i64 C)) (h2 : cs[9]? = some (.slice sp n cap)) : Calls Try.prog 71 #[.agg cs, .int .i64 5] w fun e w' => e = .returned (.agg #[.int .i64 R, .int .i64 C, .slice sp n cap]) ∧ Below w.heap.size w w' := by
  have HM := Lib.hid (LmI.made w cs #[.int .i64 0, .int .i64 0, .slice none 0 0] 83)
  have HO := Lib.hid (fun W => oneRow_any W sp n cap)
  go_enter Try.func71, Try.ntmps71
  go_upto_region 1 with fail
  refine Mk.genM (Q := fun w => Code.wp _ _ _ _ w) _ (LmI w cs #[.int .i64 0, .int .i64 0, .slice none 0 0] 83) HM.out ?_
  clear HM
  intro w1 k1
  have HI := Lib.hid k1
  clear k1
  have c0 : w1.cell? ⟨w.heap.size, 7, none⟩ = some (.int .i64 R) := by rw [cell_of_row _ _ _ _ _ _ HI.out.row]; exact h0
  have c1 : w1.cell? ⟨w.heap.size, 8, none⟩ = some (.int .i64 C) := by rw [cell_of_row _ _ _ _ _ _ HI.out.row]; exact h1
  have c2 : w1.cell? ⟨w.heap.size, 9, none⟩ = some (.slice sp n cap) := by rw [cell_of_row _ _ _ _ _ _ HI.out.row]; exact h2
  have HG := Lib.hid (range3 c0 c1 c2)
  clear h0 h1 h2 c0 c1 c2
  go_wp2_with (first
    | (refine wpList_load_mid rfl 35 (.tmp 21) rfl w.heap.size 7 rfl [.int .i64 R, .int .i64 C, .slice sp n cap] _ HG.out Try.underlying35 rfl Mk.size_matM ?_)
    | (refine wpList_store_row rfl 35 (.tmp 4) (.tmp 22) rfl (w.heap.size + 1) #[.int .i64 R, .int .i64 C, .slice sp n cap] rfl rfl 35 _ HI.out.mb Mk.size_matM rfl (mat_one _ _ _ _ _) ?_))
  try simp only [Act.put, List.setIfInBounds_toArray, List.set_cons_succ, List.set_cons_zero]
  exact bodyPost_ret (v := .agg #[.int .i64 R, .int .i64 C, .slice sp n cap]) (Mk.results_cellM Try.results71 _ _ (w.heap.size + 1) 35 _ (0, 0) _ rfl (HI.out.put _).mb Try.underlying35 rfl Mk.size_matM) rfl ⟨rfl, (HI.out.put _).below⟩
theorem lay6_any (w : World) (cs : Array Value) (sp : Option Addr) (n cap : Nat) (R C : Int) (h0 : cs[10]? = some (.int .i64 R)) (h1 : cs[11]? = some (.int .i64 C)) (h2 : cs[12]? = some (.slice sp n cap)) : Calls Try.prog 71 #[.agg cs, .int .i64 6] w fun e w' => e = .returned (.agg #[.int .i64 R, .int .i64 C, .slice sp n cap]) ∧ Below w.heap.size w w' := by
  have HM := Lib.hid (LmI.made w cs #[.int .i64 0, .int .i64 0, .slice none 0 0] 83)
  have HO := Lib.hid (fun W => oneRow_any W sp n cap)
  go_enter Try.func71, Try.ntmps71
  go_upto_region 1 with fail
  refine Mk.genM (Q := fun w => Code.wp _ _ _ _ w) _ (LmI w cs #[.int .i64 0, .int .i64 0, .slice none 0 0] 83) HM.out ?_
  clear HM
  intro w1 k1
  have HI := Lib.hid k1
  clear k1
  have c0 : w1.cell? ⟨w.heap.size, 10, none⟩ = some (.int .i64 R) := by rw [cell_of_row _ _ _ _ _ _ HI.out.row]; exact h0
  have c1 : w1.cell? ⟨w.heap.size, 11, none⟩ = some (.int .i64 C) := by rw [cell_of_row _ _ _ _ _ _ HI.out.row]; exact h1
  have c2 : w1.cell? ⟨w.heap.size, 12, none⟩ = some (.slice sp n cap) := by rw [cell_of_row _ _ _ _ _ _ HI.out.row]; exact h2
  have HG := Lib.hid (range3 c0 c1 c2)
  clear h0 h1 h2 c0 c1 c2
  go_wp2_with (first
    | (refine wpList_load_mid rfl 35 (.tmp 25) rfl w.heap.size 10 rfl [.int .i64 R, .int .i64 C, .slice sp n cap] _ HG.out Try.underlying35 rfl Mk.size_matM ?_)
    | (refine wpList_store_row rfl 35 (.tmp 4) (.tmp 26) rfl (w.heap.size + 1) #[.int .i64 R, .int .i64 C, .slice sp n cap] rfl rfl 35 _ HI.out.mb Mk.size_matM rfl (mat_one _ _ _ _ _) ?_))
  try simp only [Act.put, List.setIfInBounds_toArray, List.set_cons_succ, List.set_cons_zero]
  exact bodyPost_ret (v := .agg #[.int .i64 R, .int .i64 C, .slice sp n cap]) (Mk.results_cellM Try.results71 _ _ (w.heap.size + 1) 35 _ (0, 0) _ rfl (HI.out.put _).mb Try.underlying35 rfl Mk.size_matM) rfl ⟨rfl, (HI.out.put _).below⟩
theorem lay7_any (w : World) (cs : Array Value) (sp : Option Addr) (n cap : Nat) (h0 : cs[13]? = some (.slice sp n cap)) : Calls Try.prog 71 #[.agg cs, .int .i64 7] w fun e w' => e = .returned (.agg #[.int .i64 1, .int .i64 (n : Int), .slice sp n cap]) ∧ Below w.heap.size w w' := by
  have HM := Lib.hid (LmI.made w cs #[.int .i64 0, .int .i64 0, .slice none 0 0] 83)
  have HO := Lib.hid (fun W => oneRow_any W sp n cap)
  go_enter Try.func71, Try.ntmps71
  go_upto_region 1 with fail
  refine Mk.genM (Q := fun w => Code.wp _ _ _ _ w) _ (LmI w cs #[.int .i64 0, .int .i64 0, .slice none 0 0] 83) HM.out ?_
  clear HM
  intro w1 k1
  have HI := Lib.hid k1
  clear k1
  have c0 : w1.cell? ⟨w.heap.size, 13, none⟩ = some (.slice sp n cap) := by rw [cell_of_row _ _ _ _ _ _ HI.out.row]; exact h0
  clear h0
  go_wp2_with (first
    | (go_at_call 70; refine (HO.out _).mono ?_; rintro e w2 ⟨rfl, hb2⟩; have HI2 := Lib.hid (HI.out.later hb2); clear hb2)
    | (refine wpList_store_row rfl 35 (.tmp 4) (.tmp 31) rfl (w.heap.size + 1) #[.int .i64 1, .int .i64 (n : Int), .slice sp n cap] rfl rfl 35 _ HI2.out.mb Mk.size_matM rfl (mat_one _ _ _ _ _) ?_))
  exact bodyPost_ret (v := .agg #[.int .i64 1, .int .i64 (n : Int), .slice sp n cap]) (Mk.results_cellM Try.results71 _ _ (w.heap.size + 1) 35 _ (0, 0) _ rfl (HI2.out.put _).mb Try.underlying35 rfl Mk.size_matM) rfl ⟨rfl, (HI2.out.put _).below⟩
theorem lay8_any (w : World) (cs : Array Value) (sp : Option Addr) (n cap : Nat) (R C : Int) (h0 : cs[14]? = some (.int .i64 R)) (h1 : cs[15]? = some (.int .i64 C)) (h2 : cs[16]? = some (.slice sp n cap)) : Calls Try.prog 71 #[.agg cs, .int .i64 8] w fun e w' => e = .returned (.agg #[.int .i64 R, .int .i64 C, .slice sp n cap]) ∧ Below w.heap.size w w' := by
  have HM := Lib.hid (LmI.made w cs #[.int .i64 0, .int .i64 0, .slice none 0 0] 83)
  have HO := Lib.hid (fun W => oneRow_any W sp n cap)
  go_enter Try.func71, Try.ntmps71
  go_upto_region 1 with fail
  refine Mk.genM (Q := fun w => Code.wp _ _ _ _ w) _ (LmI w cs #[.int .i64 0, .int .i64 0, .slice none 0 0] 83) HM.out ?_
  clear HM
  intro w1 k1
  have HI := Lib.hid k1
  clear k1
  have c0 : w1.cell? ⟨w.heap.size, 14, none⟩ = some (.int .i64 R) := by rw [cell_of_row _ _ _ _ _ _ HI.out.row]; exact h0
  have c1 : w1.cell? ⟨w.heap.size, 15, none⟩ = some (.int .i64 C) := by rw [cell_of_row _ _ _ _ _ _ HI.out.row]; exact h1
  have c2 : w1.cell? ⟨w.heap.size, 16, none⟩ = some (.slice sp n cap) := by rw [cell_of_row _ _ _ _ _ _ HI.out.row]; exact h2
  have HG := Lib.hid (range3 c0 c1 c2)
  clear h0 h1 h2 c0 c1 c2
  go_wp2_with (first
    | (refine wpList_load_mid rfl 35 (.tmp 34) rfl w.heap.size 14 rfl [.int .i64 R, .int .i64 C, .slice sp n cap] _ HG.out Try.underlying35 rfl Mk.size_matM ?_)
    | (refine wpList_store_row rfl 35 (.tmp 4) (.tmp 35) rfl (w.heap.size + 1) #[.int .i64 R, .int .i64 C, .slice sp n cap] rfl rfl 35 _ HI.out.mb Mk.size_matM rfl (mat_one _ _ _ _ _) ?_))
  try simp only [Act.put, List.setIfInBounds_toArray, List.set_cons_succ, List.set_cons_zero]
  exact bodyPost_ret (v := .agg #[.int .i64 R, .int .i64 C, .slice sp n cap]) (Mk.results_cellM Try.results71 _ _ (w.heap.size + 1) 35 _ (0, 0) _ rfl (HI.out.put _).mb Try.underlying35 rfl Mk.size_matM) rfl ⟨rfl, (HI.out.put _).below⟩
theorem lay9_any (w : World) (cs : Array Value) (sp : Option Addr) (n cap : Nat) (R C : Int) (h0 : cs[17]? = some (.int .i64 R)) (h1 : cs[18]? = some (.int .i64 C)) (h2 : cs[19]? = some (.slice sp n cap)) : Calls Try.prog 71 #[.agg cs, .int .i64 9] w fun e w' => e = .returned (.agg #[.int .i64 R, .int .i64 C, .slice sp n cap]) ∧ Below w.heap.size w w' := by
  have HM := Lib.hid (LmI.made w cs #[.int .i64 0, .int .i64 0, .slice none 0 0] 83)
  have HO := Lib.hid (fun W => oneRow_any W sp n cap)
  go_enter Try.func71, Try.ntmps71
  go_upto_region 1 with fail
  refine Mk.genM (Q := fun w => Code.wp _ _ _ _ w) _ (LmI w cs #[.int .i64 0, .int .i64 0, .slice none 0 0] 83) HM.out ?_
  clear HM
  intro w1 k1
  have HI := Lib.hid k1
  clear k1
  have c0 : w1.cell? ⟨w.heap.size, 17, none⟩ = some (.int .i64 R) := by rw [cell_of_row _ _ _ _ _ _ HI.out.row]; exact h0
  have c1 : w1.cell? ⟨w.heap.size, 18, none⟩ = some (.int .i64 C) := by rw [cell_of_row _ _ _ _ _ _ HI.out.row]; exact h1
  have c2 : w1.cell? ⟨w.heap.size, 19, none⟩ = some (.slice sp n cap) := by rw [cell_of_row _ _ _ _ _ _ HI.out.row]; exact h2
  have HG := Lib.hid (range3 c0 c1 c2)
  clear h0 h1 h2 c0 c1 c2
  go_wp2_with (first
    | (refine wpList_load_mid rfl 35 (.tmp 38) rfl w.heap.size 17 rfl [.int .i64 R, .int .i64 C, .slice sp n cap] _ HG.out Try.underlying35 rfl Mk.size_matM ?_)
    | (refine wpList_store_row rfl 35 (.tmp 4) (.tmp 39) rfl (w.heap.size + 1) #[.int .i64 R, .int .i64 C, .slice sp n cap] rfl rfl 35 _ HI.out.mb Mk.size_matM rfl (mat_one _ _ _ _ _) ?_))
  try simp only [Act.put, List.setIfInBounds_toArray, List.set_cons_succ, List.set_cons_zero]
  exact bodyPost_ret (v := .agg #[.int .i64 R, .int .i64 C, .slice sp n cap]) (Mk.results_cellM Try.results71 _ _ (w.heap.size + 1) 35 _ (0, 0) _ rfl (HI.out.put _).mb Try.underlying35 rfl Mk.size_matM) rfl ⟨rfl, (HI.out.put _).below⟩
theorem lay10_any (w : World) (cs : Array Value) (sp : Option Addr) (n cap : Nat) (R C : Int) (h0 : cs[20]? = some (.int .i64 R)) (h1 : cs[21]? = some (.int .i64 C)) (h2 : cs[22]? = some (.slice sp n cap)) : Calls Try.prog 71 #[.agg cs, .int .i64 10] w fun e w' => e = .returned (.agg #[.int .i64 R, .int .i64 C, .slice sp n cap]) ∧ Below w.heap.size w w' := by
  have HM := Lib.hid (LmI.made w cs #[.int .i64 0, .int .i64 0, .slice none 0 0] 83)
  have HO := Lib.hid (fun W => oneRow_any W sp n cap)
  go_enter Try.func71, Try.ntmps71
  go_upto_region 1 with fail
  refine Mk.genM (Q := fun w => Code.wp _ _ _ _ w) _ (LmI w cs #[.int .i64 0, .int .i64 0, .slice none 0 0] 83) HM.out ?_
  clear HM
  intro w1 k1
  have HI := Lib.hid k1
  clear k1
  have c0 : w1.cell? ⟨w.heap.size, 20, none⟩ = some (.int .i64 R) := by rw [cell_of_row _ _ _ _ _ _ HI.out.row]; exact h0
  have c1 : w1.cell? ⟨w.heap.size, 21, none⟩ = some (.int .i64 C) := by rw [cell_of_row _ _ _ _ _ _ HI.out.row]; exact h1
  have c2 : w1.cell? ⟨w.heap.size, 22, none⟩ = some (.slice sp n cap) := by rw [cell_of_row _ _ _ _ _ _ HI.out.row]; exact h2
  have HG := Lib.hid (range3 c0 c1 c2)
  clear h0 h1 h2 c0 c1 c2
  go_wp2_with (first
    | (refine wpList_load_mid rfl 35 (.tmp 40) rfl w.heap.size 20 rfl [.int .i64 R, .int .i64 C, .slice sp n cap] _ HG.out Try.underlying35 rfl Mk.size_matM ?_)
    | (refine wpList_store_row rfl 35 (.tmp 4) (.tmp 41) rfl (w.heap.size + 1) #[.int .i64 R, .int .i64 C, .slice sp n cap] rfl rfl 35 _ HI.out.mb Mk.size_matM rfl (mat_one _ _ _ _ _) ?_))
  try simp only [Act.put, List.setIfInBounds_toArray, List.set_cons_succ, List.set_cons_zero]
  exact bodyPost_ret (v := .agg #[.int .i64 R, .int .i64 C, .slice sp n cap]) (Mk.results_cellM Try.results71 _ _ (w.heap.size + 1) 35 _ (0, 0) _ rfl (HI.out.put _).mb Try.underlying35 rfl Mk.size_matM) rfl ⟨rfl, (HI.out.put _).below⟩
end Go.Proofs.Ytdffbjjiojheoaa.St
