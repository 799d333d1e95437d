import Derived.Test.YtmlkgbfaamdapaaDoorG
import Derived.Deep.DeepCutAuto
import Derived.Lib.SlBytesConst
namespace Go.Proofs.YtmlkgbfaamdapaaDoor
open Go.ChangeShapes Go.WideShapes Go.ChangeAt Go.RowKit

theorem Bytes.nil (w : World) : Bytes w none 0 [] := ⟨Nat.le_refl _, by unfold maxLen; omega, fun h => absurd h (by simp)⟩
/-- a digest in a new block -/
theorem Fl.made {w w1 : World} (hb : Below w.heap.size w w1) (X : Array Value) (l : List Int) (t : TypeId) : Fl w w1.heap.size t l ((w1.alloc (.cells X t)).setRow w1.heap.size (rowB l)) :=
  ⟨below_setRow (hb.alloc hb.size _) hb.size _, hb.size, setRow_heap _ _ _ _ _ _ (heap_alloc_new _ _)⟩
theorem row_sum (l : List Int) : (Tryd.prog.info? 25).map (·.size) = some (rowB (sum l)).size := by rw [rowB_size, sum_length]; exact size25
theorem row_zero (l : List Int) : 32 = (rowB (sum l)).size := by rw [rowB_size, sum_length]

theorem at_nil : (sum []).getD 0 0 = 227 ∧ (sum []).getD 1 0 = 176 ∧ (sum []).getD 2 0 = 196 ∧ (sum []).getD 3 0 = 66 := by decide +kernel
theorem at_abc : (sum [97, 98, 99]).getD 0 0 = 186 ∧ (sum [97, 98, 99]).getD 1 0 = 120 ∧ (sum [97, 98, 99]).getD 2 0 = 22 ∧ (sum [97, 98, 99]).getD 3 0 = 191 := by decide +kernel

theorem Fl.at {w wr : World} {g : Nat} {t : TypeId} {l : List Int} (h : Fl w g t l wr) (i : Nat) (x : Int) (hi : i < l.length) (hx : l.getD i 0 = x) : wr.cell? ⟨g, i, none⟩ = some (.int .u8 x) := by
  rw [← hx]; exact h.cell i hi
theorem Fl.later {w wr w' : World} {g : Nat} {t : TypeId} {l : List Int} (h : Fl w g t l wr) (hb : Below wr.heap.size wr w') : Fl w g t l w' :=
  ⟨h.below.trans (hb.mono h.below.size), h.ge, (hb.block g (Array.getElem?_eq_some_iff.1 h.row).1).trans h.row⟩

theorem Bytes.abc (w : World) (fr : Nat × Nat) : Bytes (w.alloc (.cells #[.int .u8 97, .int .u8 98, .int .u8 99] 5 fr)) (some ⟨w.heap.size, 0, none⟩) 3 [97, 98, 99] := by
  refine ⟨Nat.le_refl _, by unfold maxLen; omega, fun _ => ⟨_, _, rfl, fun i hi => ?_⟩⟩
  rw [Nat.zero_add, cell_of_row _ _ _ _ _ _ (heap_alloc_new _ _)]
  exact rowB_get [97, 98, 99] i hi

set_option maxRecDepth 100000 in
set_option maxHeartbeats 2000000 in
theorem awake_any (w : World) (he : Env w) : Calls Tryd.prog 8 #[] w fun e w' => e = .returned (.bool true) ∧ Below w.heap.size w w' := by
  have HE := Lib.hid he
  clear he
  have HZ := Lib.hid (row_sum [])
  have HY := Lib.hid (row_zero [])
  have HX := Lib.hid (rowB_one (sum []))
  have hl1 := Lib.hid (sum_length [])
  have ha := Lib.hid at_nil
  have HZ2 := Lib.hid (row_sum [97, 98, 99])
  have HY2 := Lib.hid (row_zero [97, 98, 99])
  have HX2 := Lib.hid (rowB_one (sum [97, 98, 99]))
  have hl2 := Lib.hid (sum_length [97, 98, 99])
  have hb := Lib.hid at_abc
  have kb := fun (w : World) (C : Array Value) (n c : Nat) => Lib.run_convert_bytes_const (P := Tryd.prog) w 22 5 C n c Tryd.underlying22 Tryd.underlying5
  go_enter Tryd.func8, Tryd.ntmps8
  go_wp2_with fail
  refine (sum_any w none 0 0 [] rfl (Bytes.nil _) HE.out (by omega)).mono ?_
  rintro e w1 ⟨rfl, hb1⟩
  obtain ⟨F1, hF⟩ : ∃ F, sum [] = F := ⟨_, rfl⟩
  rw [hF] at HZ HY HX hl1 ha ⊢
  clear hF
  go_upto_region 2 with (refine wpList_store_row rfl 25 (.tmp 1) (.tmp 3) rfl w1.heap.size (rowB F1) rfl rfl 25 _ (heap_alloc_new _ _) HZ.out HY.out HX.out ?_)
  simp only [Act.put]
  refine gen_world (Q := fun w => Code.wp _ _ _ _ w) _ (Fl w w1.heap.size 25 F1) (Fl.made hb1 _ F1 25) ?_
  intro w2 hf1
  generalize w1.heap.size = g1 at hf1 ⊢
  have HF1 := Lib.hid hf1
  clear hf1 hb1
  go_wp2_with fail
  clear kb
  have hb2 : Below w2.heap.size w2 (w2.alloc (.cells #[.int .u8 97, .int .u8 98, .int .u8 99] 5 (3, 4))) := (Below.refl _ _).alloc (Nat.le_refl _) _
  have HE2 := Lib.hid ((HE.out.below HF1.out.below).below hb2)
  refine (sum_any _ _ 3 3 [97, 98, 99] rfl (Bytes.abc w2 _) HE2.out (by omega)).mono ?_
  rintro e w3 ⟨rfl, hb3⟩
  have HF3 := Lib.hid (HF1.out.later (hb2.trans (hb3.mono (by simp))))
  clear HF1 HE2 hb2 hb3
  obtain ⟨F2, hF⟩ : ∃ F, sum [97, 98, 99] = F := ⟨_, rfl⟩
  rw [hF] at HZ2 HY2 HX2 hl2 hb ⊢
  clear hF
  go_upto_region 3 with (refine wpList_store_row rfl 25 (.tmp 2) (.tmp 6) rfl w3.heap.size (rowB F2) rfl rfl 25 _ (heap_alloc_new _ _) HZ2.out HY2.out HX2.out ?_)
  simp only [Act.put]
  refine gen_world (Q := fun w => Code.wp _ _ _ _ w) _ (fun W => Fl w g1 25 F1 W ∧ Fl w w3.heap.size 25 F2 W) ⟨?_, Fl.made HF3.out.below _ F2 25⟩ ?_
  · exact HF3.out.later (below_setRow ((Below.refl _ _).alloc (Nat.le_refl _) _) (Nat.le_refl _) _)
  rintro w4 ⟨hf1, hf2⟩
  generalize w3.heap.size = g2 at hf2 ⊢
  have a0 := hf1.at 0 227 (by rw [hl1.out]; omega) ha.out.1
  have a1 := hf1.at 1 176 (by rw [hl1.out]; omega) ha.out.2.1
  have a2 := hf1.at 2 196 (by rw [hl1.out]; omega) ha.out.2.2.1
  have a3 := hf1.at 3 66 (by rw [hl1.out]; omega) ha.out.2.2.2
  have b0 := hf2.at 0 186 (by rw [hl2.out]; omega) hb.out.1
  have b1 := hf2.at 1 120 (by rw [hl2.out]; omega) hb.out.2.1
  have b2 := hf2.at 2 22 (by rw [hl2.out]; omega) hb.out.2.2.1
  have b3 := hf2.at 3 191 (by rw [hl2.out]; omega) hb.out.2.2.2
  have HB4 := Lib.hid hf1.below
  clear hf1 hf2
  go_wp2
  go_ret
  exact ⟨rfl, HB4.out⟩
end Go.Proofs.YtmlkgbfaamdapaaDoor
