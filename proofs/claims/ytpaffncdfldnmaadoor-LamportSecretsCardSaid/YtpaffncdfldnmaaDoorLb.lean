import Derived.Test.YtpaffncdfldnmaaDoorLa
import Derived.Test.YtpaffncdfldnmaaDoorMa
import Derived.Test.YtpaffncdfldnmaaDoorCb
namespace Go.Proofs.YtpaffncdfldnmaaDoor
open Go.ChangeShapes Go.WideShapes Go.ChangeAt Go.RowKit

theorem and_one_all : ∀ y : Fin 256, bits .and .i64 ((y.val : Nat) : Int) 1 = ((y.val % 2 : Nat) : Int) := by decide +kernel
theorem and_one (y : Nat) (h : y < 256) : bits .and .i64 ((y : Nat) : Int) 1 = ((y % 2 : Nat) : Int) := and_one_all ⟨y, h⟩
set_option maxRecDepth 100000 in
set_option maxHeartbeats 2000000 in
theorem bitAt_any (w : World) (m : List Int) (i : Nat) (hm : m.length = 32) (hr : ∀ x ∈ m, 0 ≤ x ∧ x < 256) (hi : i < 256) :
    Calls Tryd.prog 22 #[.agg (rowB m), .int .i64 (i : Int)] w fun e w' => e = .returned (.int .i64 (bitD m i : Int)) ∧ Below w.heap.size w w' := by
  have hx : 0 ≤ m.getD (i / 8) 0 ∧ m.getD (i / 8) 0 < 256 := hr _ (by
    have h1 : i / 8 < m.length := by omega
    simp [h1])
  have hc : (w.alloc (.cells (rowB m) 23)).cell? ⟨w.heap.size, i / 8, none⟩ = some (.int .u8 (m.getD (i / 8) 0)) := by
    rw [cell_of_row _ _ _ _ _ _ (heap_alloc_new _ _), rowB_get _ _ (by omega)]
  have hB : bitD m i = (m.getD (i / 8) 0).toNat / 2 ^ (7 - i % 8) % 2 := rfl
  obtain ⟨x, hX⟩ : ∃ x, m.getD (i / 8) 0 = x := ⟨_, rfl⟩
  rw [hX] at hx hc hB
  clear hX
  obtain ⟨x, rfl⟩ := Int.eq_ofNat_of_zero_le hx.1
  have hx2 : x < 256 := by omega
  rw [Int.toNat_natCast] at hB
  obtain ⟨q, hq⟩ : ∃ q, i / 8 = q := ⟨_, rfl⟩
  have hq32 : q < 32 := by omega
  have e1 : Int.tdiv (i : Int) 8 = (q : Int) := by rw [Int.tdiv_eq_ediv_of_nonneg (by omega)]; omega
  have e1' : (i : Int) / 8 = (q : Int) := by omega
  obtain ⟨k, hk⟩ : ∃ k, i % 8 = k := ⟨_, rfl⟩
  have hk8 : k < 8 := by omega
  have e2 : Int.tmod (i : Int) 8 = (k : Int) := by rw [Int.tmod_eq_emod_of_nonneg (by omega)]; omega
  have e2' : (i : Int) % 8 = (k : Int) := by omega
  have e3 : (7 : Int) - (k : Int) = ((7 - k : Nat) : Int) := by omega
  rw [hq] at hc
  rw [hk] at hB
  obtain ⟨j, hj⟩ : ∃ j, 7 - k = j := ⟨_, rfl⟩
  rw [hj] at e3 hB
  have hj8 : j < 8 := by omega
  have e4 : (x : Int) / 2 ^ j = ((x / 2 ^ j : Nat) : Int) := by simp
  have hy : x / 2 ^ j ≤ x := Nat.div_le_self _ _
  obtain ⟨y, hY⟩ : ∃ y, x / 2 ^ j = y := ⟨_, rfl⟩
  rw [hY] at e4 hy hB
  have e5 := and_one y (by omega)
  rw [← hB] at e5
  have HB := Lib.hid hB
  clear hB hY hj hk hq hm hr hx
  go_enter Tryd.func22, Tryd.ntmps22
  go_wp2
  go_ret
  exact ⟨rfl, (Below.refl _ _).alloc (Nat.le_refl _) _⟩
/-- a digest's block as a slice of bytes -/
theorem Dg.byt {W : World} {g : Nat} {d : List Int} (h : Dg W g d) (hd : d.length = 32) : Byt W (some ⟨g, 0, none⟩) 32 d := by
  refine ⟨⟨by omega, by unfold maxLen; omega, fun _ => ⟨g, 0, rfl, fun i hi => ?_⟩⟩, fun h => by cases h⟩
  rw [cell_of_row _ _ _ _ _ _ h, Nat.zero_add, rowB_get _ _ hi]
theorem Dg.lt {W : World} {g : Nat} {d : List Int} (h : Dg W g d) : g < W.heap.size := (Array.getElem?_eq_some_iff.1 h).1
/-- a digest's block, and behind it the answer's -/
structure Hd (w : World) (d : List Int) (W : World) : Prop where
  below : Below w.heap.size w W
  d : Dg W w.heap.size d
  res : W.heap[w.heap.size + 1]? = some (.cells (rowB (zs 32)) 23 (0, 0))
theorem Hd.made (w : World) (d : List Int) (X : Array Value) (hX : X = rowB (zs 32)) : Hd w d ((w.alloc (.cells (rowB d) 23)).alloc (.cells X 23)) := by
  subst hX
  exact ⟨((Below.refl _ _).alloc (Nat.le_refl _) _).alloc (by simp) _, heap_alloc2_old _ _ _, heap_alloc2_new _ _ _⟩
theorem Hd.later {w W W' : World} {d : List Int} (h : Hd w d W) (hb : Below W.heap.size W W') : Hd w d W' :=
  ⟨h.below.trans (hb.mono h.below.size), h.d.below hb, (hb.block _ (Array.getElem?_eq_some_iff.1 h.res).1).trans h.res⟩
set_option maxRecDepth 100000 in
set_option maxHeartbeats 2000000 in
theorem hidden_any (w : World) (d : List Int) (hd : d.length = 32) (he : Env w) :
    Calls Tryd.prog 21 #[.agg (rowB d)] w fun e w' => e = .returned (.agg (rowB (sum d))) ∧ Below w.heap.size w w' := by
  have HD := Lib.hid hd
  have HE := Lib.hid he
  have r1 := run_digest w.heap.size
  clear hd he
  go_enter Tryd.func21, Tryd.ntmps21
  go_wp2_with fail
  refine gen_world (Q := fun w => Calls _ _ _ w _) _ (Hd w d) (Hd.made w d _ (by kernel_rfl)) ?_
  intro w1 h1
  have H1 := Lib.hid h1
  clear h1 r1
  refine (sum_any w1 (some ⟨w.heap.size, 0, none⟩) 32 32 d HD.out (H1.out.d.byt HD.out).by_ (HE.out.below H1.out.below) (by omega)).mono ?_
  rintro e w2 ⟨rfl, hb2⟩
  have H2 := Lib.hid (H1.out.later hb2)
  clear hb2
  have HZ := Lib.hid (row_sum d)
  have HY := Lib.hid (show (rowB (zs 32)).size = (rowB (sum d)).size by rw [← row_zero]; rfl)
  have HX := Lib.hid (rowB_one (sum d))
  obtain ⟨F, hF⟩ : ∃ F, sum d = F := ⟨_, rfl⟩
  rw [hF] at HZ HY HX ⊢
  have HF := Lib.hid hF
  clear hF
  go_wp2_with (refine wpList_store_row rfl 23 (.tmp 2) (.tmp 4) rfl (w.heap.size + 1) (rowB F) rfl rfl 23 _ H2.out.res HZ.out HY.out HX.out ?_)
  exact bodyPost_ret (v := .agg (rowB F)) (results_cell_row Tryd.results21 _ _ (w.heap.size + 1) 23 (rowB F) (0, 0) _ rfl (setRow_heap _ _ _ _ _ _ H2.out.res) Tryd.underlying23 rfl HZ.out) rfl ⟨by rw [HF.out], below_setRow H2.out.below (by omega) _⟩
end Go.Proofs.YtpaffncdfldnmaaDoor
