import Derived.Test.YtpaffncdfldnmaaDoorLg
namespace Go.Proofs.YtpaffncdfldnmaaDoor
open Go.ChangeShapes Go.WideShapes Go.ChangeAt Go.RowKit

/-! ### signatures in memory -/
/-- the digests of a signature: all of Open, and then of Rest -/
def sf (o r : Nat → List Int) (j : Nat) : List Int := if j < 256 then o j else r (j - 256)
theorem sf_length {o r : Nat → List Int} (ho : ∀ i, (o i).length = 32) (hr : ∀ i, (r i).length = 32) (j : Nat) : (sf o r j).length = 32 := by
  unfold sf; split
  · exact ho _
  · exact hr _
theorem sf_open (o r : Nat → List Int) (p : Nat) (hp : p < 256) : sf o r p = o p := by unfold sf; rw [if_pos hp]
theorem sf_rest (o r : Nat → List Int) (p : Nat) : sf o r (256 + p) = r p := by unfold sf; rw [if_neg (by omega), show 256 + p - 256 = p by omega]
/-- a signature's bytes -/
def sigL (o r : Nat → List Int) : List Int := rowP (sf o r) 512
theorem sigL_length {o r : Nat → List Int} (ho : ∀ i, (o i).length = 32) (hr : ∀ i, (r i).length = 32) : (sigL o r).length = 16384 := by
  unfold sigL; rw [rowP_length _ (sf_length ho hr)]
def SigAt (W : World) (g : Nat) (o r : Nat → List Int) : Prop := W.heap[g]? = some (.cells (rowB (sigL o r)) 34 (0, 0))
section
variable {W W' : World} {g : Nat} {o r : Nat → List Int}
theorem SigAt.below (h : SigAt W g o r) (hb : Below W.heap.size W W') : SigAt W' g o r := (hb.block g (Array.getElem?_eq_some_iff.1 h).1).trans h
theorem SigAt.lt (h : SigAt W g o r) : g < W.heap.size := (Array.getElem?_eq_some_iff.1 h).1
theorem SigAt.o_range (h : SigAt W g o r) (ho : ∀ i, (o i).length = 32) (hr : ∀ i, (r i).length = 32) (p : Nat) (hp : p < 256) : W.rangeAt g (32 * p) ((o p).map (Value.int .u8)) := by
  have := row_range (sf_length ho hr) h p (by omega)
  rwa [sf_open o r p hp] at this
theorem SigAt.r_range (h : SigAt W g o r) (ho : ∀ i, (o i).length = 32) (hr : ∀ i, (r i).length = 32) (p : Nat) (hp : p < 256) : W.rangeAt g (32 * (256 + p)) ((r p).map (Value.int .u8)) := by
  have := row_range (sf_length ho hr) h (256 + p) (by omega)
  rwa [sf_rest o r p] at this
end
theorem row_sig {o r : Nat → List Int} (ho : ∀ i, (o i).length = 32) (hr : ∀ i, (r i).length = 32) : (Tryd.prog.info? 34).map (·.size) = some (rowB (sigL o r)).size := by rw [rowB_size, sigL_length ho hr]; exact infoSig

/-! ### the key of a digest and a signature -/
set_option maxRecDepth 100000 in
set_option maxHeartbeats 4000000 in
theorem keyC_any (w : World) (g1 g2 : Nat) (m : List Int) (o r : Nat → List Int) (p b : Nat) (hm : m.length = 32) (hmr : ∀ x ∈ m, 0 ≤ x ∧ x < 256) (ho : ∀ i, (o i).length = 32) (hr : ∀ i, (r i).length = 32) (h1 : Dg w g1 m) (h2 : SigAt w g2 o r) (hp : p < 256) (he : Env w) :
    Calls Tryd.prog 28 #[.int .i64 (p : Int), .int .i64 (b : Int), .pointer (some ⟨g1, 0, none⟩), .pointer (some ⟨g2, 0, none⟩)] w fun e w' => e = .returned (.agg (rowB (kD m o r p b))) ∧ Below w.heap.size w w' := by
  have HM := Lib.hid hm
  have HMr := Lib.hid hmr
  have HE := Lib.hid he
  have HG1 := Lib.hid h1
  have HG2 := Lib.hid h2
  have HZm := Lib.hid (row_dig hm)
  have hO := ho p
  have hR := hr p
  have HRo := Lib.hid (fun W (hb : Below w.heap.size w W) => show W.rangeAt g2 (p * 32) ((o p).map (Value.int .u8)) by rw [Nat.mul_comm p 32]; exact (HG2.out.below hb).o_range ho hr p hp)
  have HRr := Lib.hid (fun W (hb : Below w.heap.size w W) => show W.rangeAt g2 (8192 + p * 32) ((r p).map (Value.int .u8)) by rw [show 8192 + p * 32 = 32 * (256 + p) by omega]; exact (HG2.out.below hb).r_range ho hr p hp)
  have hK : kD m o r p b = if b = bitD m p then sum (o p) else r p := rfl
  obtain ⟨x, hx⟩ : ∃ x, o p = x := ⟨_, rfl⟩
  obtain ⟨y, hy⟩ : ∃ y, r p = y := ⟨_, rfl⟩
  rw [hx] at hO HRo hK
  rw [hy] at hR HRr hK
  clear hm hmr he h1 h2 hx hy ho hr
  by_cases hbit : b = bitD m p
  · rw [if_pos hbit] at hK
    have hd : ((b : Int) == ((bitD m p : Nat) : Int)) = true := by rw [hbit]; simp
    go_enter Tryd.func28, Tryd.ntmps28
    go_upto_region 1 with fail
    refine gen_world (Q := fun w => Code.wp _ _ _ _ w) _ (Res w) (Res.new w _ (by kernel_rfl)) ?_
    intro w1 h1
    have H1 := Lib.hid h1
    have HG1' := Lib.hid (HG1.out.below h1.below)
    clear h1
    go_upto_region 2 with (first
      | (refine wpList_load_row rfl 23 (.tmp 2) rfl g1 rfl 23 (rowB m) (0, 0) _ HG1'.out Tryd.underlying23 rfl HZm.out ?_)
      | (go_at_call 22; refine (bitAt_any w1 m p HM.out HMr.out hp).mono ?_; rintro e w2 ⟨rfl, hb2⟩; have H2 := Lib.hid (H1.out.later hb2); clear hb2))
    have HR2 := Lib.hid (HRo.out w2 H2.out.below)
    clear hd
    go_wp2_with (refine wpList_val rfl (.agg (rowB x)) (exec_load_mid (.tmp 14) rfl g2 (p * 32) rfl x hO HR2.out) ?_)
    refine (hidden_any w2 x hO (HE.out.below H2.out.below)).mono ?_
    rintro e w3 ⟨rfl, hb3⟩
    have H3 := Lib.hid (H2.out.later hb3)
    clear hb3
    have HZ := Lib.hid (row_sum x)
    have HY := Lib.hid (show (rowB (zs 32)).size = (rowB (sum x)).size by rw [← row_zero]; rfl)
    have HX := Lib.hid (rowB_one (sum x))
    obtain ⟨F, hF⟩ : ∃ F, sum x = F := ⟨_, rfl⟩
    rw [hF] at HZ HY HX hK ⊢
    have HK := Lib.hid hK
    clear hF hK
    go_wp2_with (refine wpList_store_row rfl 23 (.tmp 6) (.tmp 16) rfl w.heap.size (rowB F) rfl rfl 23 _ H3.out.res HZ.out HY.out HX.out ?_)
    exact bodyPost_ret (v := .agg (rowB F)) (results_cell_row Tryd.results28 _ _ w.heap.size 23 (rowB F) (0, 0) _ rfl (setRow_heap _ _ _ _ _ _ H3.out.res) Tryd.underlying23 rfl HZ.out) rfl ⟨by rw [HK.out], below_setRow H3.out.below (Nat.le_refl _) _⟩
  · rw [if_neg hbit] at hK
    have hd : ((b : Int) == ((bitD m p : Nat) : Int)) = false := by simp; omega
    go_enter Tryd.func28, Tryd.ntmps28
    go_upto_region 1 with fail
    refine gen_world (Q := fun w => Code.wp _ _ _ _ w) _ (Res w) (Res.new w _ (by kernel_rfl)) ?_
    intro w1 h1
    have H1 := Lib.hid h1
    have HG1' := Lib.hid (HG1.out.below h1.below)
    clear h1
    go_upto_region 3 with (first
      | (refine wpList_load_row rfl 23 (.tmp 2) rfl g1 rfl 23 (rowB m) (0, 0) _ HG1'.out Tryd.underlying23 rfl HZm.out ?_)
      | (go_at_call 22; refine (bitAt_any w1 m p HM.out HMr.out hp).mono ?_; rintro e w2 ⟨rfl, hb2⟩; have H2 := Lib.hid (H1.out.later hb2); clear hb2))
    have HR2 := Lib.hid (HRr.out w2 H2.out.below)
    clear hd
    have HZ := Lib.hid (row_dig hR)
    have HY := Lib.hid (show (rowB (zs 32)).size = (rowB y).size by rw [← row_dig0 hR]; rfl)
    have HX := Lib.hid (rowB_one y)
    have HK := Lib.hid hK
    clear hK
    go_wp2_with (first
      | (refine wpList_val rfl (.agg (rowB y)) (exec_load_mid (.tmp 19) rfl g2 (8192 + p * 32) rfl y hR HR2.out) ?_)
      | (refine wpList_store_row rfl 23 (.tmp 6) (.tmp 20) rfl w.heap.size (rowB y) rfl rfl 23 _ H2.out.res HZ.out HY.out HX.out ?_))
    exact bodyPost_ret (v := .agg (rowB y)) (results_cell_row Tryd.results28 _ _ w.heap.size 23 (rowB y) (0, 0) _ rfl (setRow_heap _ _ _ _ _ _ H2.out.res) Tryd.underlying23 rfl HZ.out) rfl ⟨by rw [HK.out], below_setRow H2.out.below (Nat.le_refl _) _⟩
/-- a digest's block, a signature's, and behind them the answer's -/
structure Ks (w : World) (m : List Int) (o r : Nat → List Int) (W : World) : Prop where
  below : Below w.heap.size w W
  d : Dg W w.heap.size m
  s : SigAt W (w.heap.size + 1) o r
  res : W.heap[w.heap.size + 2]? = some (.cells (rowB (zs 32)) 23 (0, 0))
theorem Ks.made (w : World) (m : List Int) (o r : Nat → List Int) (X : Array Value) (hX : X = rowB (zs 32)) : Ks w m o r (((w.alloc (.cells (rowB m) 23)).alloc (.cells (rowB (sigL o r)) 34)).alloc (.cells X 23)) := by
  subst hX
  refine ⟨(((Below.refl _ _).alloc (Nat.le_refl _) _).alloc (by simp) _).alloc (by simp; omega) _, ?_, ?_, ?_⟩
  · show _ = _
    rw [Below.heap_alloc _ _ _ (by simp; omega), Below.heap_alloc _ _ _ (by simp)]
    exact heap_alloc_new _ _
  · show _ = _
    rw [Below.heap_alloc _ _ _ (by simp)]
    exact heap_alloc2_new _ _ _
  · have := heap_alloc_new ((w.alloc (.cells (rowB m) 23)).alloc (.cells (rowB (sigL o r)) 34)) (.cells (rowB (zs 32)) 23)
    simp only [World.size_alloc] at this
    exact this
theorem Ks.later {w W W' : World} {m : List Int} {o r : Nat → List Int} (h : Ks w m o r W) (hb : Below W.heap.size W W') : Ks w m o r W' :=
  ⟨h.below.trans (hb.mono h.below.size), h.d.below hb, h.s.below hb, (hb.block _ (Array.getElem?_eq_some_iff.1 h.res).1).trans h.res⟩
set_option maxRecDepth 100000 in
set_option maxHeartbeats 4000000 in
theorem key_any (w : World) (m : List Int) (o r : Nat → List Int) (hm : m.length = 32) (hmr : ∀ x ∈ m, 0 ≤ x ∧ x < 256) (ho : ∀ i, (o i).length = 32) (hr : ∀ i, (r i).length = 32) (he : Env w) :
    Calls Tryd.prog 15 #[.agg (rowB m), .agg (rowB (sigL o r))] w fun e w' => e = .returned (.agg (rowB (sum (keyB (kD m o r))))) ∧ Below w.heap.size w w' := by
  have HM := Lib.hid hm
  have HMr := Lib.hid hmr
  have HO := Lib.hid ho
  have HR := Lib.hid hr
  have HE := Lib.hid he
  have HMade := Lib.hid (fun X hX => Ks.made w m o r X hX)
  have HAny := Lib.hid (fun W W1 (hW : Ks w m o r W) (p b : Nat) (hp : p < 256) (hb : Below W.heap.size W W1) => keyC_any W1 w.heap.size (w.heap.size + 1) m o r p b hm hmr ho hr (hW.d.below hb) (hW.s.below hb) hp (he.below (hW.below.trans (hb.mono hW.below.size))))
  have h32 : ∀ p b, (kD m o r p b).length = 32 := kD_length m o r hr
  clear hm hmr he ho hr
  obtain ⟨S, hS⟩ : ∃ S, sigL o r = S := ⟨_, rfl⟩
  rw [hS] at HMade ⊢
  obtain ⟨K, hK⟩ : ∃ K, Ks w m o r = K := ⟨_, rfl⟩
  rw [hK] at HMade
  have HK1 := Lib.hid (fun W (h : K W) => show Ks w m o r W by rw [hK]; exact h)
  clear hS hK
  go_enter Tryd.func15, Tryd.ntmps15
  go_wp2_with fail
  simp only [Nat.add_assoc, Nat.reduceAdd]
  refine gen_world (Q := fun w => Calls _ _ _ w _) _ K (HMade.out _ (by kernel_rfl)) ?_
  intro w1 h1
  have H1 := Lib.hid (HK1.out w1 h1)
  clear h1
  refine (keyOf_any w1 28 #[.pointer (some ⟨w.heap.size, 0, none⟩), .pointer (some ⟨w.heap.size + 1, 0, none⟩)] (kD m o r) h32 (HE.out.below H1.out.below) (cf Tryd.func28 (by kernel_rfl) (by kernel_rfl))
    (fun p b W hp _ hW => HAny.out w1 W H1.out p b hp hW)).mono ?_
  rintro e w2 ⟨rfl, hb2⟩
  have H2 := Lib.hid (H1.out.later hb2)
  clear hb2
  have HZ := Lib.hid (row_sum (keyB (kD m o r)))
  have HY := Lib.hid (show (rowB (zs 32)).size = (rowB (sum (keyB (kD m o r)))).size by rw [← row_zero]; rfl)
  have HX := Lib.hid (rowB_one (sum (keyB (kD m o r))))
  obtain ⟨F, hF⟩ : ∃ F, sum (keyB (kD m o r)) = F := ⟨_, rfl⟩
  rw [hF] at HZ HY HX ⊢
  have HF := Lib.hid hF
  clear hF
  go_wp2_with (refine wpList_store_row rfl 23 (.tmp 4) (.tmp 6) rfl (w.heap.size + 2) (rowB F) rfl rfl 23 _ H2.out.res HZ.out HY.out HX.out ?_)
  exact bodyPost_ret (v := .agg (rowB F)) (results_cell_row Tryd.results15 _ _ (w.heap.size + 2) 23 (rowB F) (0, 0) _ rfl (setRow_heap _ _ _ _ _ _ H2.out.res) Tryd.underlying23 rfl HZ.out) rfl ⟨by rw [HF.out], below_setRow H2.out.below (by omega) _⟩
end Go.Proofs.YtpaffncdfldnmaaDoor
