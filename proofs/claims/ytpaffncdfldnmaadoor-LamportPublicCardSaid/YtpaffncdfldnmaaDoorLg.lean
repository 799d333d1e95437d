import Derived.Test.YtpaffncdfldnmaaDoorLf
import Derived.Test.YtpaffncdfldnmaaDoorSs
namespace Go.Proofs.YtpaffncdfldnmaaDoor
open Go.ChangeShapes Go.WideShapes Go.ChangeAt Go.RowKit

/-! ### the public key -/
set_option maxRecDepth 100000 in
set_option maxHeartbeats 4000000 in
theorem pubC_any (w : World) (g : Nat) (s : List Int) (p b : Nat) (hs : s.length = 32) (hr : Cd.rng s) (hg : Dg w g s) (he : Env w) :
    Calls Tryd.prog 20 #[.int .i64 (p : Int), .int .i64 (b : Int), .pointer (some ⟨g, 0, none⟩)] w fun e w' => e = .returned (.agg (rowB (pubF s p b))) ∧ Below w.heap.size w w' := by
  have HL := Lib.hid hs
  have HR : Hid (Cd.rng s) := hr
  have HE := Lib.hid he
  have HG := Lib.hid hg
  have HZs := Lib.hid (row_dig hs)
  clear hs hr he hg
  go_enter Tryd.func20, Tryd.ntmps20
  go_upto_region 1 with fail
  refine gen_world (Q := fun w => Code.wp _ _ _ _ w) _ (Res w) (Res.new w _ (by kernel_rfl)) ?_
  intro w1 h1
  have H1 := Lib.hid h1
  have HG1 := Lib.hid (HG.out.below h1.below)
  clear h1
  go_wp2_with (first
    | (refine wpList_load_row rfl 23 (.tmp 2) rfl g rfl 23 (rowB s) (0, 0) _ HG1.out Tryd.underlying23 rfl HZs.out ?_)
    | (go_at_call 14; refine (secretOf_any w1 s p b HL.out HR.out (HE.out.below H1.out.below)).mono ?_; rintro e w2 ⟨rfl, hb2⟩; have H2 := Lib.hid (H1.out.later hb2); clear hb2))
  refine (hidden_any _ (secD s p b) (secD_length s p b) (HE.out.below H2.out.below)).mono ?_
  rintro e w3 ⟨rfl, hb3⟩
  have H3 := Lib.hid (H2.out.later hb3)
  clear hb3
  have hF0 : sum (secD s p b) = pubF s p b := rfl
  rw [hF0]
  clear hF0
  have HZ := Lib.hid (row_dig (pubF_length s p b))
  have HY := Lib.hid (show (rowB (zs 32)).size = (rowB (pubF s p b)).size by rw [← row_dig0 (pubF_length s p b)]; rfl)
  have HX := Lib.hid (rowB_one (pubF s p b))
  obtain ⟨F, hF⟩ : ∃ F, pubF s p b = F := ⟨_, rfl⟩
  rw [hF] at HZ HY HX ⊢
  have HF := Lib.hid hF
  clear hF
  go_wp2_with (refine wpList_store_row rfl 23 (.tmp 5) (.tmp 10) rfl w.heap.size (rowB F) rfl rfl 23 _ H3.out.res HZ.out HY.out HX.out ?_)
  exact bodyPost_ret (v := .agg (rowB F)) (results_cell_row Tryd.results20 _ _ w.heap.size 23 (rowB F) (0, 0) _ rfl (setRow_heap _ _ _ _ _ _ H3.out.res) Tryd.underlying23 rfl HZ.out) rfl ⟨by rw [HF.out], below_setRow H3.out.below (Nat.le_refl _) _⟩
set_option maxRecDepth 100000 in
set_option maxHeartbeats 4000000 in
theorem public_any (w : World) (s : List Int) (hs : s.length = 32) (hr : Cd.rng s) (he : Env w) :
    Calls Tryd.prog 9 #[.agg (rowB s)] w fun e w' => e = .returned (.agg (rowB (pubD s))) ∧ Below w.heap.size w w' := by
  have HL := Lib.hid hs
  have HR : Hid (Cd.rng s) := hr
  have HE := Lib.hid he
  clear hs hr he
  go_enter Tryd.func9, Tryd.ntmps9
  go_wp2_with fail
  refine gen_world (Q := fun w => Calls _ _ _ w _) _ (Hd w s) (Hd.made w s _ (by kernel_rfl)) ?_
  intro w1 h1
  have H1 := Lib.hid h1
  clear h1
  refine (keyOf_any w1 20 #[.pointer (some ⟨w.heap.size, 0, none⟩)] (pubF s) (pubF_length s) (HE.out.below H1.out.below) (cf Tryd.func20 (by kernel_rfl) (by kernel_rfl))
    (fun p b W _ _ hW => pubC_any W w.heap.size s p b HL.out HR.out (H1.out.d.below hW) (HE.out.below (H1.out.below.trans (hW.mono H1.out.below.size))))).mono ?_
  rintro e w2 ⟨rfl, hb2⟩
  have H2 := Lib.hid (H1.out.later hb2)
  clear hb2
  have hF0 : sum (keyB (pubF s)) = pubD s := rfl
  have h32 : (pubD s).length = 32 := by unfold pubD; exact sum_length _
  rw [hF0]
  clear hF0
  have HZ := Lib.hid (row_dig h32)
  have HY := Lib.hid (show (rowB (zs 32)).size = (rowB (pubD s)).size by rw [← row_dig0 h32]; rfl)
  have HX := Lib.hid (rowB_one (pubD s))
  obtain ⟨F, hF⟩ : ∃ F, pubD s = F := ⟨_, rfl⟩
  rw [hF] at HZ HY HX ⊢
  have HF := Lib.hid hF
  clear hF h32
  go_wp2_with (refine wpList_store_row rfl 23 (.tmp 2) (.tmp 4) rfl (w.heap.size + 1) (rowB F) rfl rfl 23 _ H2.out.res HZ.out HY.out HX.out ?_)
  exact bodyPost_ret (v := .agg (rowB F)) (results_cell_row Tryd.results9 _ _ (w.heap.size + 1) 23 (rowB F) (0, 0) _ rfl (setRow_heap _ _ _ _ _ _ H2.out.res) Tryd.underlying23 rfl HZ.out) rfl ⟨by rw [HF.out], below_setRow H2.out.below (by omega) _⟩

/-! ### a secret, or none -/
set_option maxRecDepth 100000 in
set_option maxHeartbeats 4000000 in
theorem secret_yes (w : World) (s : List Int) (p b : Nat) (hs : s.length = 32) (hr : Cd.rng s) (he : Env w) (hp : p < 256) (hb : b < 2) :
    Calls Tryd.prog 6 #[.agg (rowB s), .int .i64 (p : Int), .int .i64 (b : Int)] w fun e w' => e = .returned (.tuple #[.agg (rowB (secD s p b)), .int .i64 0]) ∧ Below w.heap.size w w' := by
  have HL := Lib.hid hs
  have HR : Hid (Cd.rng s) := hr
  have HE := Lib.hid he
  have HZs := Lib.hid (row_dig hs)
  have d1 : decide ((p : Int) < 0) = false := by simp
  have d2 : decide ((p : Int) ≥ 256) = false := by simp; omega
  have d2' : decide ((256 : Int) ≤ (p : Int)) = false := by simp; omega
  have d2'' : decide (256 ≤ p) = false := by simp; omega
  have d3 : decide ((b : Int) < 0) = false := by simp
  have d4 : decide ((b : Int) ≥ 2) = false := by simp; omega
  have d4' : decide ((2 : Int) ≤ (b : Int)) = false := by simp; omega
  have d4'' : decide (2 ≤ b) = false := by simp; omega
  clear hs hr he
  go_enter Tryd.func6, Tryd.ntmps6
  go_upto_region 3 with fail
  refine gen_world (Q := fun w => Code.wp _ _ _ _ w) _ (Hd w s) (Hd.made w s _ (by kernel_rfl)) ?_
  intro w1 h1
  have H1 := Lib.hid h1
  clear h1
  go_wp2_with (refine wpList_load_row rfl 23 (.tmp 3) rfl w.heap.size rfl 23 (rowB s) (0, 0) _ H1.out.d Tryd.underlying23 rfl HZs.out ?_)
  refine (secretOf_any w1 s p b HL.out HR.out (HE.out.below H1.out.below)).mono ?_
  rintro e w2 ⟨rfl, hb2⟩
  have H2 := Lib.hid (H1.out.later hb2)
  clear hb2
  have HZ := Lib.hid (row_dig (secD_length s p b))
  have HY := Lib.hid (show (rowB (zs 32)).size = (rowB (secD s p b)).size by rw [← row_dig0 (secD_length s p b)]; rfl)
  have HX := Lib.hid (rowB_one (secD s p b))
  obtain ⟨F, hF⟩ : ∃ F, secD s p b = F := ⟨_, rfl⟩
  rw [hF] at HZ HY HX ⊢
  have HF := Lib.hid hF
  clear hF
  go_wp2_with (refine wpList_store_row rfl 23 (.tmp 6) (.tmp 26) rfl (w.heap.size + 1) (rowB F) rfl rfl 23 _ H2.out.res HZ.out HY.out HX.out ?_)
  exact bodyPost_ret (v := .tuple #[.agg (rowB F), .int .i64 0]) (results_two Tryd.results6 _ _ (w.heap.size + 1) 23 (rowB F) (0, 0) _ _ rfl rfl (setRow_heap _ _ _ _ _ _ H2.out.res) Tryd.underlying23 rfl HZ.out) rfl ⟨by rw [HF.out], below_setRow H2.out.below (by omega) _⟩
/-- what is no place, or no bit -/
def Bad (x y : Int) : Prop := x < 0 ∨ 256 ≤ x ∨ y < 0 ∨ 2 ≤ y
set_option maxRecDepth 100000 in
set_option maxHeartbeats 4000000 in
theorem secret_no (w : World) (s : List Int) (x y : Int) (h : Bad x y) :
    Calls Tryd.prog 6 #[.agg (rowB s), .int .i64 x, .int .i64 y] w fun e w' => e = .returned (.tuple #[.agg (rowB (zs 32)), .int .i64 10]) ∧ Below w.heap.size w w' := by
  have HZ := Lib.hid (row_dig (d := zs 32) rfl)
  have HY := Lib.hid (row_dig0 (d := zs 32) rfl)
  have HX := Lib.hid (rowB_one (zs 32))
  have HEnd : ∀ (W : World), Hid (Hd w s W) → Hid (W.heap[w.heap.size + 1]? = some (.cells (rowB (zs 32)) 23 (0, 0))) := fun W h => h.out.res
  by_cases c1 : x < 0
  · have d1 : decide (x < 0) = true := by simpa using c1
    go_enter Tryd.func6, Tryd.ntmps6
    go_upto_region 2 with fail
    refine gen_world (Q := fun w => Code.wp _ _ _ _ w) _ (Hd w s) (Hd.made w s _ (by kernel_rfl)) ?_
    intro w1 h1
    have H1 := Lib.hid h1
    clear h1
    go_wp2_with (first
      | (refine wpList_val rfl (.agg (rowB (zs 32))) (exec_built 23 #[] rfl (rowB (zs 32)) (by kernel_rfl)) ?_)
      | (refine wpList_store_row rfl 23 (.tmp 6) (.tmp 22) rfl (w.heap.size + 1) (rowB (zs 32)) rfl rfl 23 _ H1.out.res HZ.out HY.out HX.out ?_))
    exact bodyPost_ret (v := .tuple #[.agg (rowB (zs 32)), .int .i64 10]) (results_two Tryd.results6 _ _ (w.heap.size + 1) 23 (rowB (zs 32)) (0, 0) _ _ rfl rfl (setRow_heap _ _ _ _ _ _ H1.out.res) Tryd.underlying23 rfl HZ.out) rfl ⟨rfl, below_setRow H1.out.below (by omega) _⟩
  · have d1 : decide (x < 0) = false := by simpa using c1
    by_cases c2 : 256 ≤ x
    · have d2 : decide (256 ≤ x) = true := by simpa using c2
      go_enter Tryd.func6, Tryd.ntmps6
      go_upto_region 2 with fail
      refine gen_world (Q := fun w => Code.wp _ _ _ _ w) _ (Hd w s) (Hd.made w s _ (by kernel_rfl)) ?_
      intro w1 h1
      have H1 := Lib.hid h1
      clear h1
      go_wp2_with (first
        | (refine wpList_val rfl (.agg (rowB (zs 32))) (exec_built 23 #[] rfl (rowB (zs 32)) (by kernel_rfl)) ?_)
        | (refine wpList_store_row rfl 23 (.tmp 6) (.tmp 22) rfl (w.heap.size + 1) (rowB (zs 32)) rfl rfl 23 _ H1.out.res HZ.out HY.out HX.out ?_))
      exact bodyPost_ret (v := .tuple #[.agg (rowB (zs 32)), .int .i64 10]) (results_two Tryd.results6 _ _ (w.heap.size + 1) 23 (rowB (zs 32)) (0, 0) _ _ rfl rfl (setRow_heap _ _ _ _ _ _ H1.out.res) Tryd.underlying23 rfl HZ.out) rfl ⟨rfl, below_setRow H1.out.below (by omega) _⟩
    · have d2 : decide (256 ≤ x) = false := by simpa using c2
      by_cases c3 : y < 0
      · have d3 : decide (y < 0) = true := by simpa using c3
        go_enter Tryd.func6, Tryd.ntmps6
        go_upto_region 2 with fail
        refine gen_world (Q := fun w => Code.wp _ _ _ _ w) _ (Hd w s) (Hd.made w s _ (by kernel_rfl)) ?_
        intro w1 h1
        have H1 := Lib.hid h1
        clear h1
        go_wp2_with (first
          | (refine wpList_val rfl (.agg (rowB (zs 32))) (exec_built 23 #[] rfl (rowB (zs 32)) (by kernel_rfl)) ?_)
          | (refine wpList_store_row rfl 23 (.tmp 6) (.tmp 22) rfl (w.heap.size + 1) (rowB (zs 32)) rfl rfl 23 _ H1.out.res HZ.out HY.out HX.out ?_))
        exact bodyPost_ret (v := .tuple #[.agg (rowB (zs 32)), .int .i64 10]) (results_two Tryd.results6 _ _ (w.heap.size + 1) 23 (rowB (zs 32)) (0, 0) _ _ rfl rfl (setRow_heap _ _ _ _ _ _ H1.out.res) Tryd.underlying23 rfl HZ.out) rfl ⟨rfl, below_setRow H1.out.below (by omega) _⟩
      · have d3 : decide (y < 0) = false := by simpa using c3
        have c4 : 2 ≤ y := by unfold Bad at h; omega
        have d4 : decide (2 ≤ y) = true := by simpa using c4
        go_enter Tryd.func6, Tryd.ntmps6
        go_upto_region 2 with fail
        refine gen_world (Q := fun w => Code.wp _ _ _ _ w) _ (Hd w s) (Hd.made w s _ (by kernel_rfl)) ?_
        intro w1 h1
        have H1 := Lib.hid h1
        clear h1
        go_wp2_with (first
          | (refine wpList_val rfl (.agg (rowB (zs 32))) (exec_built 23 #[] rfl (rowB (zs 32)) (by kernel_rfl)) ?_)
          | (refine wpList_store_row rfl 23 (.tmp 6) (.tmp 22) rfl (w.heap.size + 1) (rowB (zs 32)) rfl rfl 23 _ H1.out.res HZ.out HY.out HX.out ?_))
        exact bodyPost_ret (v := .tuple #[.agg (rowB (zs 32)), .int .i64 10]) (results_two Tryd.results6 _ _ (w.heap.size + 1) 23 (rowB (zs 32)) (0, 0) _ _ rfl rfl (setRow_heap _ _ _ _ _ _ H1.out.res) Tryd.underlying23 rfl HZ.out) rfl ⟨rfl, below_setRow H1.out.below (by omega) _⟩
end Go.Proofs.YtpaffncdfldnmaaDoor
