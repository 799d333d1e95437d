import Derived.Test.YtdmgkapclgfljaaWl
namespace Go.Proofs.Ytdmgkapclgfljaa.Wg
set_option maxRecDepth 100000
open Go.ChangeShapes Go.WideShapes Go.ChangeAt Go.RowKit Go.Shelf Go.Proofs.Ytdmgkapclgfljaa.Tn

/-! ### the document's Parts -/
structure Pz (w : World) (c : Cfg) (W : World) : Prop where
  below : Below w.heap.size w W
  sz : W.heap[w.heap.size]? = some (.cells c.cells 27 (0, 0))
theorem Pz.made (w : World) (c : Cfg) : Pz w c (w.alloc (.cells c.cells 27)) := ⟨(Below.refl _ _).alloc (Nat.le_refl _) _, heap_alloc_new _ _⟩
theorem Pz.lt {w : World} {c : Cfg} {W : World} (h : Pz w c W) : w.heap.size + 1 ≤ W.heap.size := (Array.getElem?_eq_some_iff.1 h.sz).1
theorem Pz.later {w : World} {c : Cfg} {W W' : World} (h : Pz w c W) (hb : Below (w.heap.size + 1) W W') : Pz w c W' := ⟨h.below.trans (hb.mono (by omega)), (hb.block _ (by omega)).trans h.sz⟩
theorem PtsR.mono {b b' : Nat} {v : Value} {l : List Bl} {W : World} (h : PtsR b v l W) (hb : b' ≤ b) : PtsR b' v l W := by
  refine ⟨⟨h.1.1, ?_⟩, Nat.le_trans hb h.2⟩
  rcases h.1.2 with h1 | ⟨g, cap, cur, h1, h2, h3⟩
  · exact .inl h1
  · exact .inr ⟨g, cap, cur, h1, by omega, h3⟩
theorem PtsR.new (W : World) (b : Bl) (base : Nat) (hb : base ≤ W.heap.size) : PtsR base (.slice (some ⟨W.heap.size, 0, none⟩) 1 1) [b] (W.alloc (.cells (partC b).toArray 60)) := by
  refine ⟨⟨by rfl, .inr ⟨W.heap.size, 1, (partC b).toArray, rfl, hb, heap_alloc_new _ _, Nat.le_refl _, by unfold maxLen; omega, rfl, ?_⟩⟩, by simp; omega⟩
  simp [partsC, partC]
theorem lay_take (D I y : Nat) : layB D I y = [⟨2, y, 1, D⟩, ⟨3, y, D, D⟩, ⟨4, y, D, D⟩, ⟨5, y, D, D⟩, ⟨6, y, D, D⟩, ⟨7, y, 1, D⟩, ⟨8, y, I, D⟩, ⟨9, y, I, D⟩, ⟨10, y, D, I⟩] := rfl
/-- the first parts: Embed, and so many layers -/
def fstB (V D I i : Nat) : List Bl := ⟨1, 0, V, D⟩ :: laysB D I i
/-- .. and of the next layer Norm1 and so many of the four -/
def fourB (V D I i q : Nat) : List Bl := fstB V D I i ++ [⟨2, i, 1, D⟩] ++ (List.range q).map fun j => ⟨3 + j, i, D, D⟩
theorem fourB_succ (V D I i q : Nat) : fourB V D I i (q + 1) = fourB V D I i q ++ [⟨3 + q, i, D, D⟩] := by
  unfold fourB
  rw [List.range_succ, List.map_append, List.append_assoc _ (List.map _ _)]
  rfl
theorem fstB_succ (V D I i : Nat) : fstB V D I (i + 1) = fourB V D I i 4 ++ [⟨7, i, 1, D⟩] ++ [⟨8, i, I, D⟩] ++ [⟨9, i, I, D⟩] ++ [⟨10, i, D, I⟩] := by
  simp [fourB, fstB, laysB, layB, List.range_succ]
theorem fstB_length (V D I i : Nat) : (fstB V D I i).length = 1 + 9 * i := by simp [fstB, laysB_length]; omega
theorem fourB_length (V D I i q : Nat) : (fourB V D I i q).length = 2 + 9 * i + q := by
  unfold fourB
  simp [fstB_length]
  omega
theorem blks_fst (V D L I : Nat) : blks V D L I = fstB V D I L ++ [⟨11, 0, 1, D⟩] ++ [⟨12, 0, V, D⟩] := by simp [blks, fstB]
set_option maxHeartbeats 8000000 in
theorem refParts_any (w : World) (V D L I : Nat) (ch cx : Int) (hL : L ≤ 4) : Calls Try.prog 32 #[.agg (Cfg.cells ⟨V, D, ch, L, cx, I⟩)] w fun e w' => ∃ v, e = .returned v ∧ PtsR w.heap.size v (blks V D L I) w' ∧ Below w.heap.size w w' := by
  have HB := Lib.hid (Pz.made w ⟨V, D, ch, L, cx, I⟩)
  have HL := Lib.hid hL
  clear hL
  unfold Cfg.cells at HB ⊢
  go_enter Try.func32, Try.ntmps32
  go_upto_region 1 with fail
  refine gen_w (Q := fun w => Code.wp _ _ _ _ w) _ (Pz w ⟨V, D, ch, L, cx, I⟩) HB.out ?_
  clear HB
  intro w1 hx
  have HX := Lib.hid hx
  obtain ⟨c0, c1, c2, c3, c4, c5⟩ := sz_cells hx.sz
  dsimp only at c0 c1 c2 c3 c4 c5
  clear hx
  go_upto_region 5 with fail
  have hn := PtsR.new w1 ⟨1, 0, V, D⟩ (w.heap.size + 1) HX.out.lt
  have hz := HX.out.later (((Below.refl _ w1).alloc HX.out.lt (.cells (partC ⟨1, 0, V, D⟩).toArray 60)))
  refine gen_w (Q := fun w => Code.wp _ _ _ _ w) _ (fun W => PtsR (w.heap.size + 1) (.slice (some ⟨w1.heap.size, 0, none⟩) 1 1) [⟨1, 0, V, D⟩] W ∧ Pz w ⟨V, D, ch, L, cx, I⟩ W) ⟨hn, hz⟩ ?_
  clear hn hz c0 c1 c2 c3 c4 c5
  rintro w2 ⟨hn, hz⟩
  have HN := Lib.hid hn
  have HZ := Lib.hid hz
  clear hn hz HX
  go_wp2
  go_loopw [6, 7, 8] (fun v iv _ wr => ∃ i : Nat, i ≤ L ∧ iv = .int .i64 i ∧ PtsR (w.heap.size + 1) v (fstB V D I i) wr ∧ Pz w ⟨V, D, ch, L, cx, I⟩ wr) (fun _ iv _ _ => L - (intOf iv).toNat)
  case atStart => exact ⟨0, by omega, rfl, HN.out, HZ.out⟩
  case round =>
    clear HN HZ
    obtain ⟨i, hi, rfl, hn, hz⟩ := hrel
    have HN := Lib.hid hn
    have HZ := Lib.hid hz
    obtain ⟨c0, c1, c2, c3, c4, c5⟩ := sz_cells hz.sz
    dsimp only at c0 c1 c2 c3 c4 c5
    clear hn hz
    by_cases hil : i < L
    · have hd1 : decide (i < L) = true := by simpa using hil
      have hd2 : decide ((i : Int) < (L : Int)) = true := by simp; omega
      have Hil := Lib.hid hil
      clear hil hi
      go_wp2_with (refine wpList_push_part rfl (.tmp 25) (.tmp 29) rfl (w.heap.size + 1) _ _ ⟨2, i, 1, D⟩ false rfl rfl HN.out rfl (by rw [fstB_length]; have := HL.out; have := Hil.out; omega) ?_; intro v3 w3 hn3 hg3; have HN3 := Lib.hid hn3; have HZ3 := Lib.hid (HZ.out.later (HN.out.below hg3)); clear hn3 hg3 c0 c1 c2 c3 c4 c5)
      go_loopw [6, 8] (fun v kv wr => ∃ q : Nat, q ≤ 4 ∧ kv = .int .i64 ((3 + q : Nat) : Int) ∧ PtsR (w.heap.size + 1) v (fourB V D I i q) wr ∧ Pz w ⟨V, D, ch, L, cx, I⟩ wr) (fun _ kv _ => 7 - (intOf kv).toNat)
      case atStart => exact ⟨0, by omega, rfl, by simpa [fourB] using HN3.out, HZ3.out⟩
      case round =>
        clear HN3 HZ3 HN HZ
        obtain ⟨q, hq, rfl, hn, hz⟩ := hrel
        have HN := Lib.hid hn
        have HZ := Lib.hid hz
        clear hn hz
        obtain ⟨K, hK⟩ : ∃ K : Nat, 3 + q = K := ⟨_, rfl⟩
        rw [hK]
        by_cases hq4 : q < 4
        · have hd3 : decide ((K : Int) ≤ 6) = true := by simp; omega
          have hd4 : decide (K ≤ 6) = true := by simp; omega
          have Hq := Lib.hid hq4
          have HK := Lib.hid hK
          have hK7 : K < 7 := by omega
          have hmt : (!isVec K) = true := by (have h3 : 3 ≤ K := by omega); simp [isVec]; omega
          clear hq hq4 hK
          go_wp2_with (refine wpList_push_part rfl (.tmp 35) (.tmp 41) rfl (w.heap.size + 1) _ _ ⟨K, i, D, D⟩ true hmt rfl HN.out rfl (by rw [fourB_length]; have := HL.out; have := Hil.out; have := Hq.out; omega) ?_; intro v3 w3 hn3 hg3; have HN3 := Lib.hid hn3; have HZ3 := Lib.hid (HZ.out.later (HN.out.below hg3)); clear hn3 hg3)
          go_roundw
          case rel => exact ⟨q + 1, by have := Hq.out; omega, by rw [← HK.out]; congr 1, by rw [fourB_succ, HK.out]; exact HN3.out, HZ3.out⟩
          case measure => simp [intOf]; have := HK.out; omega
        · obtain rfl : q = 4 := by omega
          obtain rfl : K = 7 := by omega
          rw [show (((7 : Nat) : Int)) = 7 from rfl]
          have hdf : decide ((7 : Int) ≤ 6) = false := by decide
          have hdf2 : decide ((7 : Nat) ≤ 6) = false := by decide
          have hi4 : i + 1 ≤ 4 := by have := HL.out; have := Hil.out; omega
          obtain ⟨A4, hA4⟩ : ∃ A, fourB V D I i 4 = A := ⟨_, rfl⟩
          have HA4 := Lib.hid hA4
          have HLn : Hid (A4.length ≤ 100) := Lib.hid (by rw [← hA4, fourB_length]; omega)
          rw [hA4] at HN
          clear hK hq4 hq hA4
          go_wp2_with (first
            | (refine wpList_push_part rfl (.tmp 43) (.tmp 47) rfl (w.heap.size + 1) _ _ ⟨7, i, 1, D⟩ false rfl rfl HN.out rfl (by have := HLn.out; omega) ?_; intro v3 w3 hn3 hg3; have HN3 := Lib.hid hn3; have HZ3 := Lib.hid (HZ.out.later (HN.out.below hg3)); clear hn3 hg3)
            | (refine wpList_push_part rfl (.tmp 49) (.tmp 54) rfl (w.heap.size + 1) _ _ ⟨8, i, I, D⟩ true rfl rfl HN3.out rfl (by have := HLn.out; simp; omega) ?_; intro v4 w4 hn4 hg4; have HN4 := Lib.hid hn4; have HZ4 := Lib.hid (HZ3.out.later (HN3.out.below hg4)); clear hn4 hg4)
            | (refine wpList_push_part rfl (.tmp 56) (.tmp 61) rfl (w.heap.size + 1) _ _ ⟨9, i, I, D⟩ true rfl rfl HN4.out rfl (by have := HLn.out; simp; omega) ?_; intro v5 w5 hn5 hg5; have HN5 := Lib.hid hn5; have HZ5 := Lib.hid (HZ4.out.later (HN4.out.below hg5)); clear hn5 hg5)
            | (refine wpList_push_part rfl (.tmp 63) (.tmp 68) rfl (w.heap.size + 1) _ _ ⟨10, i, D, I⟩ true rfl rfl HN5.out rfl (by have := HLn.out; simp; omega) ?_; intro v6 w6 hn6 hg6; have HN6 := Lib.hid hn6; have HZ6 := Lib.hid (HZ5.out.later (HN5.out.below hg6)); clear hn6 hg6))
          go_roundw
          case rel => exact ⟨i + 1, by have := Hil.out; omega, by go_num, by rw [fstB_succ, HA4.out]; exact HN6.out, HZ6.out⟩
          case measure => simp [intOf]; have := Hil.out; omega
    · obtain rfl : i = L := by omega
      have hdf : decide (i < i) = false := by simp
      have hdf2 : decide ((i : Int) < (i : Int)) = false := by simp
      have HLn : Hid ((fstB V D I i).length ≤ 100) := Lib.hid (by rw [fstB_length]; have := HL.out; omega)
      clear hil hi
      go_wp2_with (first
        | (refine wpList_push_part rfl (.tmp 70) (.tmp 73) rfl (w.heap.size + 1) _ _ ⟨11, 0, 1, D⟩ false rfl rfl HN.out rfl (by have := HLn.out; omega) ?_; intro v3 w3 hn3 hg3; have HN3 := Lib.hid hn3; have HZ3 := Lib.hid (HZ.out.later (HN.out.below hg3)); clear hn3 hg3)
        | (refine wpList_push_part rfl (.tmp 75) (.tmp 79) rfl (w.heap.size + 1) _ _ ⟨12, 0, V, D⟩ true rfl rfl HN3.out rfl (by have := HLn.out; simp; omega) ?_; intro v4 w4 hn4 hg4; have HN4 := Lib.hid hn4; have HZ4 := Lib.hid (HZ3.out.later (HN3.out.below hg4)); clear hn4 hg4))
      go_ret
      exact ⟨_, rfl, by rw [blks_fst]; exact HN4.out.mono (by omega), HZ4.out.below⟩
end Go.Proofs.Ytdmgkapclgfljaa.Wg
