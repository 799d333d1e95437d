import Derived.Test.YtpaffncdfldnmaaDoorLh
namespace Go.Proofs.YtpaffncdfldnmaaDoor
open Go.ChangeShapes Go.WideShapes Go.ChangeAt Go.RowKit

/-! ### signing -/
/-- ahead of each place: the seed's block, the digest's, the answer's, the signature's -/
structure So (w : World) (s m : List Int) (o r : Nat → List Int) (k1 k2 : Nat) (W : World) : Prop where
  below : Below w.heap.size w W
  ds : Dg W w.heap.size s
  dm : Dg W (w.heap.size + 1) m
  res : ∃ Y : Array Value, W.heap[w.heap.size + 2]? = some (.cells Y 34 (0, 0)) ∧ Y.size = 16384
  bd : Bd W (w.heap.size + 3) 34 512 (sf o r) (fun j => j < k1 ∨ (256 ≤ j ∧ j < 256 + k2))
theorem So.later {w W W' : World} {s m : List Int} {o r : Nat → List Int} {k1 k2 : Nat} (h : So w s m o r k1 k2 W) (hb : Below W.heap.size W W') : So w s m o r k1 k2 W' := by
  obtain ⟨Y, h1, h2⟩ := h.res
  exact ⟨h.below.trans (hb.mono h.below.size), h.ds.below hb, h.dm.below hb, ⟨Y, (hb.block _ (Array.getElem?_eq_some_iff.1 h1).1).trans h1, h2⟩, h.bd.below hb⟩
theorem So.made (w : World) (s m : List Int) (o r : Nat → List Int) (Y : Array Value) (hY : Y.size = 16384) :
    So w s m o r 0 0 ((((w.alloc (.cells (rowB s) 23)).alloc (.cells (rowB m) 23)).alloc (.cells Y 34)).alloc (.cells Y 34)) := by
  have hb := Bd.made (((w.alloc (.cells (rowB s) 23)).alloc (.cells (rowB m) 23)).alloc (.cells Y 34)) Y 34 512 (sf o r) (fun j => j < 0 ∨ (256 ≤ j ∧ j < 256 + 0)) hY (fun p => by omega)
  simp only [World.size_alloc] at hb
  refine ⟨((((Below.refl _ _).alloc (Nat.le_refl _) _).alloc (by simp) _).alloc (by simp; omega) _).alloc (by simp; omega) _, ?_, ?_, ⟨Y, ?_, hY⟩, hb⟩
  · show _ = _
    rw [Below.heap_alloc _ _ _ (by simp; omega), Below.heap_alloc _ _ _ (by simp; omega), Below.heap_alloc _ _ _ (by simp)]
    exact heap_alloc_new _ _
  · show _ = _
    rw [Below.heap_alloc _ _ _ (by simp), Below.heap_alloc _ _ _ (by simp)]
    exact heap_alloc2_new _ _ _
  · have := heap_alloc_new ((w.alloc (.cells (rowB s) 23)).alloc (.cells (rowB m) 23)) (.cells Y 34)
    simp only [World.size_alloc] at this
    rw [Below.heap_alloc _ _ _ (by simp)]
    exact this
section
variable {w W : World} {s m : List Int} {o r : Nat → List Int} {k1 k2 : Nat}
theorem So.put (h : So w s m o r k1 k2 W) (p : Nat) (d : List Int) (k1' k2' : Nat) (hb : Bd (W.setCells (w.heap.size + 3) p (d.map (Value.int .u8))) (w.heap.size + 3) 34 512 (sf o r) (fun j => j < k1' ∨ (256 ≤ j ∧ j < 256 + k2'))) :
    So w s m o r k1' k2' (W.setCells (w.heap.size + 3) p (d.map (Value.int .u8))) := by
  obtain ⟨Y, h1, h2⟩ := h.res
  exact ⟨belowCells (by omega) _ _ _ h.below, (heap_setCells_ne _ _ _ _ (by omega)).trans h.ds, (heap_setCells_ne _ _ _ _ (by omega)).trans h.dm, ⟨Y, (heap_setCells_ne _ _ _ _ (by omega)).trans h1, h2⟩, hb⟩
theorem So.open_ (h : So w s m o r k1 k2 W) (ho : ∀ i, (o i).length = 32) (hr : ∀ i, (r i).length = 32) (hk : k1 < 256) : So w s m o r (k1 + 1) k2 (W.setCells (w.heap.size + 3) (k1 * 32) ((o k1).map (Value.int .u8))) := by
  refine h.put _ _ _ _ ?_
  have := h.bd.set (P' := fun j => j < k1 + 1 ∨ (256 ≤ j ∧ j < 256 + k2)) (sf_length ho hr) k1 (by omega) (fun q hq => by omega)
  rw [sf_open o r k1 hk] at this
  rw [Nat.mul_comm k1 32]
  exact this
theorem So.rest_ (h : So w s m o r k1 k2 W) (ho : ∀ i, (o i).length = 32) (hr : ∀ i, (r i).length = 32) (hk : k2 < 256) : So w s m o r k1 (k2 + 1) (W.setCells (w.heap.size + 3) (8192 + k2 * 32) ((r k2).map (Value.int .u8))) := by
  refine h.put _ _ _ _ ?_
  have := h.bd.set (P' := fun j => j < k1 ∨ (256 ≤ j ∧ j < 256 + (k2 + 1))) (sf_length ho hr) (256 + k2) (by omega) (fun q hq => by omega)
  rw [sf_rest o r k2] at this
  rw [show 8192 + k2 * 32 = 32 * (256 + k2) by omega]
  exact this
theorem So.there_o (h : So w s m o r k1 k2 W) (p : Nat) (hp : p < 256) : W.there (w.heap.size + 3) (p * 32) 32 := by
  rw [Nat.mul_comm p 32]; exact h.bd.there p (by omega)
theorem So.there_r (h : So w s m o r k1 k2 W) (p : Nat) (hp : p < 256) : W.there (w.heap.size + 3) (8192 + p * 32) 32 := by
  rw [show 8192 + p * 32 = 32 * (256 + p) by omega]; exact h.bd.there (256 + p) (by omega)
end
set_option maxRecDepth 100000 in
set_option maxHeartbeats 4000000 in
theorem sign_any (w : World) (s m : List Int) (hs : s.length = 32) (hr : Cd.rng s) (hm : m.length = 32) (hmr : ∀ x ∈ m, 0 ≤ x ∧ x < 256) (he : Env w) :
    Calls Tryd.prog 11 #[.agg (rowB s), .agg (rowB m)] w fun e w' => e = .returned (.agg (rowB (sigL (sgO s m) (sgR s m)))) ∧ Below w.heap.size w w' := by
  have HL := Lib.hid hs
  have HR : Hid (Cd.rng s) := hr
  have HM := Lib.hid hm
  have HMr := Lib.hid hmr
  have HE := Lib.hid he
  have HZs := Lib.hid (row_dig hs)
  have HZm := Lib.hid (row_dig hm)
  have HSig := Lib.hid (row_sig (sgO_length s m) (sgR_length s m))
  have HSl := Lib.hid (sigL_length (sgO_length s m) (sgR_length s m))
  have HOl := Lib.hid (sgO_length s m)
  have HRl := Lib.hid (sgR_length s m)
  have HOe : Hid (∀ p, sgO s m p = secD s p (bitD m p)) := Lib.hid (fun p => rfl)
  have HRe : Hid (∀ p, sgR s m p = sum (secD s p (1 - bitD m p))) := Lib.hid (fun p => rfl)
  have HLe : Hid (sigL (sgO s m) (sgR s m) = rowP (sf (sgO s m) (sgR s m)) 512) := Lib.hid rfl
  obtain ⟨o, hoq⟩ : ∃ o, sgO s m = o := ⟨_, rfl⟩
  obtain ⟨r, hrq⟩ : ∃ r, sgR s m = r := ⟨_, rfl⟩
  rw [hoq, hrq] at HSig HSl HLe
  rw [hoq] at HOl HOe
  rw [hrq] at HRl HRe
  have HOq := Lib.hid hoq
  have HRq := Lib.hid hrq
  clear hs hr hm hmr he hoq hrq
  obtain ⟨Y, hYs, hYn, hYz⟩ := zero_sig_ex
  go_enter Tryd.func11, Tryd.ntmps11
  go_wp2
  simp only [Nat.add_assoc, Nat.reduceAdd]
  go_loopw [8] (fun t wr => ∃ p : Nat, p ≤ 256 ∧ t = .int .i64 p ∧ So w s m o r p p wr) (fun t _ => 256 - (intOf t).toNat)
  case atStart => exact ⟨0, by omega, rfl, So.made w s m o r Y hYs⟩
  case round =>
    clear hYs hYn hYz
    obtain ⟨p, hp, rfl, hso⟩ := hrel
    by_cases hlt : p < 256
    · have hdt : decide ((p : Int) < 256) = true := by simp; omega
      have hdt' : decide (p < 256) = true := by simp; omega
      have H0 := Lib.hid hso
      have hbl := bitD_lt m p
      have e1 : (1 : Int) - ((bitD m p : Nat) : Int) = ((1 - bitD m p : Nat) : Int) := by omega
      have hO := HOl.out p
      have hR2 := HRl.out p
      have hid1 := row_dig hO
      have hid2 := row_dig hR2
      have hsz1 : (rowB (o p)).size = 32 := by rw [rowB_size, hO]
      have hsz2 : (rowB (r p)).size = 32 := by rw [rowB_size, hR2]
      have HOp := Lib.hid (HOe.out p)
      have HRp := Lib.hid (HRe.out p)
      have HSecN := Lib.hid (secD_length s p (1 - bitD m p))
      obtain ⟨B, hB⟩ : ∃ B, bitD m p = B := ⟨_, rfl⟩
      rw [hB] at hbl e1 HOp HRp HSecN
      have HBit := Lib.hid hB
      obtain ⟨N, hN⟩ : ∃ N, 1 - B = N := ⟨_, rfl⟩
      rw [hN] at e1 HRp HSecN
      obtain ⟨x, hx⟩ : ∃ x, o p = x := ⟨_, rfl⟩
      obtain ⟨y, hy⟩ : ∃ y, r p = y := ⟨_, rfl⟩
      have HSo := Lib.hid (fun W (h : So w s m o r p p W) => h.open_ HOl.out HRl.out hlt)
      have HSr := Lib.hid (fun W (h : So w s m o r (p + 1) p W) => h.rest_ HOl.out HRl.out hlt)
      rw [hx] at hO hid1 hsz1 HOp HSo
      rw [hy] at hR2 hid2 hsz2 HRp HSr
      clear hso hx hy hN hB
      go_upto_region 6 with (first
        | (refine wpList_load_row rfl 23 (.tmp 3) rfl (w.heap.size + 1) rfl 23 (rowB m) (0, 0) _ H0.out.dm Tryd.underlying23 rfl HZm.out ?_)
        | (go_at_call 22; refine (bitAt_any wr m p HM.out HMr.out hlt).mono ?_; rintro e w1 ⟨rfl, hb1⟩; have H1 := Lib.hid (H0.out.later hb1); clear hb1; rw [HBit.out]))
      go_upto_region 7 with (first
        | (refine wpList_load_row rfl 23 (.tmp 2) rfl w.heap.size rfl 23 (rowB s) (0, 0) _ H1.out.ds Tryd.underlying23 rfl HZs.out ?_)
        | (go_at_call 14; refine (secretOf_any w1 s p B HL.out HR.out (HE.out.below H1.out.below)).mono ?_; rintro e w2 ⟨rfl, hb2⟩; have H2 := Lib.hid (H1.out.later hb2); clear hb2; rw [← HOp.out])
        | (refine wpList_store_mid rfl 23 (.tmp 20) (.tmp 18) rfl (w.heap.size + 3) (p * 32) (rowB x) rfl rfl (by rw [hsz1]; exact H2.out.there_o p hlt) hid1 (rowB_one x) ?_))
      refine gen_world (Q := fun w => Code.wp _ _ _ _ w) _ (So w s m o r (p + 1) p) (HSo.out w2 H2.out) ?_
      intro w3 h3
      have H3 := Lib.hid h3
      clear h3 H2 H1 H0
      go_wp2_with (first
        | (refine wpList_load_row rfl 23 (.tmp 2) rfl w.heap.size rfl 23 (rowB s) (0, 0) _ H3.out.ds Tryd.underlying23 rfl HZs.out ?_)
        | (go_at_call 14; refine (secretOf_any w3 s p N HL.out HR.out (HE.out.below H3.out.below)).mono ?_; rintro e w4 ⟨rfl, hb4⟩; have H4 := Lib.hid (H3.out.later hb4); clear hb4)
        | (go_at_call 21; refine (hidden_any w4 (secD s p N) HSecN.out (HE.out.below H4.out.below)).mono ?_; rintro e w5 ⟨rfl, hb5⟩; have H5 := Lib.hid (H4.out.later hb5); clear hb5; rw [← HRp.out])
        | (refine wpList_store_mid rfl 23 (.tmp 29) (.tmp 27) rfl (w.heap.size + 3) (8192 + p * 32) (rowB y) rfl rfl (by rw [hsz2]; exact H5.out.there_r p hlt) hid2 (rowB_one y) ?_))
      go_roundw
      case rel => exact ⟨p + 1, by omega, by go_num, HSr.out w5 H5.out⟩
      case measure => simp [intOf]; omega
    · obtain rfl : p = 256 := by omega
      have hdf : decide (((256 : Nat) : Int) < 256) = false := by decide
      have hdf' : decide ((256 : Int) < 256) = false := by decide
      have H0 := Lib.hid hso
      have hfull := hso.bd.full (sf_length HOl.out HRl.out) (fun p hp => by omega)
      rw [← HLe.out] at hfull
      obtain ⟨Y2, hY1, hY2⟩ := hso.res
      have HQ := Lib.hid hY1
      have HF := Lib.hid hfull
      obtain ⟨L, hL⟩ : ∃ L, sigL o r = L := ⟨_, rfl⟩
      rw [hL] at HF HSig HSl
      have HLq := Lib.hid hL
      have HY := Lib.hid (show Y2.size = (rowB L).size by rw [rowB_size, HSl.out, hY2])
      have HX := Lib.hid (rowB_one L)
      clear hso hfull hY1 hY2 hL
      go_wp2_with (first
        | (refine wpList_load_row rfl 34 (.tmp 5) rfl (w.heap.size + 3) rfl 34 (rowB L) (0, 0) _ HF.out Tryd.underlying34 rfl HSig.out ?_)
        | (refine wpList_store_row rfl 34 (.tmp 4) (.tmp 31) rfl (w.heap.size + 2) (rowB L) rfl rfl 34 Y2 HQ.out HSig.out HY.out HX.out ?_))
      exact bodyPost_ret (v := .agg (rowB L)) (results_cell_row Tryd.results11 _ _ (w.heap.size + 2) 34 (rowB L) (0, 0) _ rfl (setRow_heap _ _ _ _ _ _ HQ.out) Tryd.underlying34 rfl HSig.out) rfl ⟨by rw [HOq.out, HRq.out, HLq.out], below_setRow H0.out.below (by omega) _⟩
end Go.Proofs.YtpaffncdfldnmaaDoor
