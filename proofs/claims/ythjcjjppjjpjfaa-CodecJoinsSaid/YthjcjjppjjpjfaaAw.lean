import Derived.Test.YthjcjjppjjpjfaaNm
import Derived.Lib.SlBytesConst
namespace Go.Proofs.Ythjcjjppjjpjfaa
open Go.ChangeShapes Go.WideShapes Go.ChangeAt Go.RowKit

/-- a new block that holds bytes -/
theorem Bytes.new (w : World) (l : List Int) (cs : Array Value) (t : TypeId) (fr : Nat × Nat) (hc : cs = rowB l) (hr : Ythjcjjppjjpjfaa.rng l) (hl : l.length ≤ 1000000) : Bytes (w.alloc (.cells cs t fr)) (some ⟨w.heap.size, 0, none⟩) l.length l := by
  subst hc
  refine ⟨⟨by simp, by unfold maxLen; omega, (fun h => by cases h), fun _ => ⟨_, _, rfl, fun i v hv => ?_⟩⟩, hr⟩
  rw [cell_of_row _ _ _ _ _ _ (heap_alloc_new _ _), ← hv]
  simp [rowB]
theorem Sl.new (w : World) (l : List Value) (cs : Array Value) (t : TypeId) (fr : Nat × Nat) (hc : cs = l.toArray) (hl : l.length ≤ 1000000) : Sl (w.alloc (.cells cs t fr)) (some ⟨w.heap.size, 0, none⟩) l.length l := by
  subst hc
  refine ⟨by simp, by unfold maxLen; omega, (fun h => by cases h), fun _ => ⟨_, _, rfl, fun i v hv => ?_⟩⟩
  rw [cell_of_row _ _ _ _ _ _ (heap_alloc_new _ _), ← hv]
  simp
theorem size_alloc' (w : World) (o : Obj) : (w.alloc o).heap.size = w.heap.size + 1 := by simp
theorem join_ex : join [[97], []] = [0, 0, 0, 1, 97, 0, 0, 0, 0] := by decide +kernel
theorem nums_ex : nums [258] = [0, 0, 0, 0, 0, 0, 1, 2] := by decide +kernel
set_option maxRecDepth 100000 in
set_option maxHeartbeats 4000000 in
theorem awake_any (w : World) : Calls Try.prog 9 #[] w fun e w' => e = .returned (.bool true) ∧ Below w.heap.size w w' := by
  have kb := fun (w : World) (C : Array Value) (n c : Nat) => Lib.run_convert_bytes_const (P := Try.prog) w 23 5 C n c Try.underlying23 Try.underlying5
  go_enter Try.func9, Try.ntmps9
  go_wp2_with fail
  clear kb
  refine gen_world (Q := fun w => Calls _ _ _ w _) _ (fun W => Below w.heap.size w W ∧ Pieces W (some ⟨w.heap.size + 1, 0, none⟩) 2 [[97], []]) ⟨((Below.refl _ _).alloc (Nat.le_refl _) _).alloc (by simp) _, ?_⟩ ?_
  · have hb1 := Bytes.new w [97] #[.int .u8 97] 5 (1, 2) rfl (by unfold Ythjcjjppjjpjfaa.rng; decide) (by decide)
    have hs := Sl.new (w.alloc (.cells #[.int .u8 97] 5 (1, 2))) [.slice (some ⟨w.heap.size, 0, none⟩) 1 1, .slice none 0 0] #[.slice (some ⟨w.heap.size, 0, none⟩) 1 1, .slice none 0 0] 23 (0, 0) rfl (by simp)
    rw [size_alloc'] at hs
    refine ⟨_, rfl, hs, fun i v hv => ?_⟩
    rcases i with _ | _ | i
    · simp at hv
      subst hv
      exact ⟨_, _, rfl, hb1.below ((Below.refl _ _).alloc (Nat.le_refl _) _)⟩
    · simp at hv
      subst hv
      exact ⟨_, _, rfl, Sl.nil _, fun x hx => by cases hx⟩
    · simp at hv
  rintro W ⟨hbW, hP⟩
  refine (join_any W _ 2 2 [[97], []] rfl hP (by decide +kernel)).mono ?_
  rintro e w1 ⟨s1, c1, rfl, hb1, hw1⟩
  rw [join_ex] at hb1 ⊢
  have HW1 := Lib.hid (hbW.trans (hw1.mono hbW.size))
  have HB1 := Lib.hid hb1
  clear hbW hP hw1 hb1
  go_wp2_with fail
  have hba : Below w1.heap.size w1 (w1.alloc (.cells (rowB [0, 0, 0, 1, 97, 0, 0, 0, 0]) 5)) := (Below.refl _ _).alloc (Nat.le_refl _) _
  refine (bytes_any (w1.alloc (.cells (rowB [0, 0, 0, 1, 97, 0, 0, 0, 0]) 5)) s1 _ 9 9 c1 9 [0, 0, 0, 1, 97, 0, 0, 0, 0] [0, 0, 0, 1, 97, 0, 0, 0, 0] rfl rfl (HB1.out.below hba) (Bytes.new w1 [0, 0, 0, 1, 97, 0, 0, 0, 0] _ 5 (0, 0) rfl (by unfold Ythjcjjppjjpjfaa.rng; decide) (by decide))).mono ?_
  rintro e w2 ht
  obtain ⟨rfl, hb2⟩ := ht.below
  have HW2 := Lib.hid (HW1.out.trans ((hba.trans (hb2.mono (by simp))).mono HW1.out.size))
  rw [decide_eq_true rfl]
  clear ht hb2 hba
  go_wp2_with fail
  have hba : Below w2.heap.size w2 (w2.alloc (.cells #[.int .i64 258] 3)) := (Below.refl _ _).alloc (Nat.le_refl _) _
  refine (numbers_any (w2.alloc (.cells #[.int .i64 258] 3)) _ 1 1 [258] rfl (Sl.new w2 [.int .i64 258] _ 3 (0, 0) rfl (by decide)) (by decide)).mono ?_
  rintro e w3 ⟨s3, c3, rfl, hb3, hw3⟩
  rw [nums_ex] at hb3
  have HW3 := Lib.hid (HW2.out.trans ((hba.trans (hw3.mono (by simp))).mono HW2.out.size))
  have HB3 := Lib.hid hb3
  clear hba hw3 hb3
  rw [show 8 * 1 = 8 from rfl]
  go_wp2_with fail
  have hba : Below w3.heap.size w3 (w3.alloc (.cells (rowB [0, 0, 0, 0, 0, 0, 1, 2]) 5)) := (Below.refl _ _).alloc (Nat.le_refl _) _
  refine (bytes_any (w3.alloc (.cells (rowB [0, 0, 0, 0, 0, 0, 1, 2]) 5)) s3 _ 8 8 c3 8 [0, 0, 0, 0, 0, 0, 1, 2] [0, 0, 0, 0, 0, 0, 1, 2] rfl rfl (HB3.out.below hba) (Bytes.new w3 [0, 0, 0, 0, 0, 0, 1, 2] _ 5 (0, 0) rfl (by unfold Ythjcjjppjjpjfaa.rng; decide) (by decide))).mono ?_
  rintro e w4 ht
  obtain ⟨rfl, hb4⟩ := ht.below
  have HW4 := Lib.hid (HW3.out.trans ((hba.trans (hb4.mono (by simp))).mono HW3.out.size))
  rw [decide_eq_true rfl]
  clear ht hb4 hba
  go_wp2
  go_ret
  exact ⟨rfl, HW4.out⟩
end Go.Proofs.Ythjcjjppjjpjfaa
