import Derived.Test.YtmlkgbfaamdapaaDoorSh
namespace Go.Proofs.YtmlkgbfaamdapaaDoor
open Go.ChangeShapes Go.WideShapes Go.ChangeAt Go.RowKit

/-- a row of whole numbers -/
def rowN (l : List Int) : Array Value := (l.map (Value.int .i64)).toArray
theorem rowN_size (l : List Int) : (rowN l).size = l.length := by simp [rowN]
theorem rowN_get (l : List Int) (i : Nat) (h : i < l.length) : (rowN l)[i]? = some (.int .i64 (l.getD i 0)) := by
  simp [rowN, h, List.getD]
theorem rowN_set (l : List Int) (i : Nat) (x : Int) : (rowN l).setIfInBounds i (.int .i64 x) = rowN (l.set i x) := by
  apply Array.ext'
  simp [rowN]
theorem rowN_one (l : List Int) : (rowN l).all (·.oneCell') = true := by
  simp [rowN, Value.oneCell']
theorem size60 : (Tryd.prog.info? 60).map (·.size) = some 64 := by kernel_rfl
theorem size48 : (Tryd.prog.info? 48).map (·.size) = some 8 := by kernel_rfl
/-- n noughts -/
theorem zero60 (w : World) : (zeroValue 60).run Tryd.prog w = .ok (.agg (rowN (zs 64))) w := by kernel_rfl
theorem zero48 (w : World) : (zeroValue 48).run Tryd.prog w = .ok (.agg (rowN (zs 8))) w := by kernel_rfl
theorem wpList_built {w : World} {ops : Array Oper} {rest : List Oper} {o : Oper} {a : Act} {Q : Exit → Act → World → Prop} (hg : o.guard = none) (t : TypeId) (parts : Array (Nat × Operand)) (ho : o.op = .build t parts) (cs : Array Value)
    (hb : Tryd.prog.built t (parts.map fun (i, x) => (i, a.eval x)).toList = some cs)
    (h : wpList Tryd.prog ops Q rest (a.put o.dst (.agg cs)) w) : wpList Tryd.prog ops Q (o :: rest) a w :=
  wpList_build hg t parts ho (by rw [hb]; rfl) (by rw [hb]; exact h)
theorem kcZ : (Tryd.prog.info? 60).map (·.size) = some (rowN kc).size := by rw [rowN_size]; exact size60
theorem kcY : (rowN (zs 64)).size = (rowN kc).size := by rw [rowN_size, rowN_size]; rfl
set_option maxRecDepth 100000 in
set_option maxHeartbeats 2000000 in
theorem constants_any (w : World) : Calls Tryd.prog 29 #[] w fun e w' => e = .returned (.agg (rowN kc)) ∧ Below w.heap.size w w' := by
  have hz60 := zero60
  have HZ := Lib.hid kcZ
  have HY := Lib.hid kcY
  have HX := Lib.hid (rowN_one kc)
  go_enter Tryd.func29, Tryd.ntmps29
  go_upto_region 1 with fail
  clear hz60
  go_wp2_with (first
    | (refine wpList_built rfl 60 _ rfl (rowN kc) (by kernel_rfl) ?_)
    | (refine wpList_store_row rfl 60 (.tmp 0) (.tmp 1) rfl w.heap.size (rowN kc) rfl rfl 60 _ (heap_alloc_new _ _) HZ.out HY.out HX.out ?_))
  exact bodyPost_ret (v := .agg (rowN kc)) (results_cell_row Tryd.results29 _ _ w.heap.size 60 (rowN kc) (0, 0) _ rfl (setRow_heap _ _ _ _ _ _ (heap_alloc_new _ _)) Tryd.underlying60 rfl HZ.out) rfl ⟨rfl, below_setRow ((Below.refl _ _).alloc (Nat.le_refl _) _) (Nat.le_refl _) _⟩
end Go.Proofs.YtmlkgbfaamdapaaDoor
