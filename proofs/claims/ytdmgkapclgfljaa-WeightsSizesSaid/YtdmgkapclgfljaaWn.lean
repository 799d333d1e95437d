import Derived.Test.YtdmgkapclgfljaaWm
namespace Go.Proofs.Ytdmgkapclgfljaa.Wg
set_option maxRecDepth 100000
open Go.ChangeShapes Go.WideShapes Go.ChangeAt Go.RowKit Go.Shelf Go.Proofs.Ytdmgkapclgfljaa.Tn

/-! ### the document's Many and Place -/
/-- parts that lie in a block -/
def PtsAt (g : Nat) (l : List Bl) (W : World) : Prop := ∀ j b, l[j]? = some b → W.cell? ⟨g, j * 5, none⟩ = some (.int .i64 (b.k : Int)) ∧ W.cell? ⟨g, j * 5 + 1, none⟩ = some (.int .i64 (b.y : Int)) ∧ W.cell? ⟨g, j * 5 + 2, none⟩ = some (.int .i64 (b.r : Int)) ∧ W.cell? ⟨g, j * 5 + 3, none⟩ = some (.int .i64 (b.c : Int)) ∧ W.cell? ⟨g, j * 5 + 4, none⟩ = some (.bool (!isVec b.k))
theorem PtsR.form {base : Nat} {v : Value} {l : List Bl} {W : World} (h : PtsR base v l W) (hl : 0 < l.length) : ∃ g cap, v = .slice (some ⟨g, 0, none⟩) l.length cap ∧ l.length ≤ cap ∧ base ≤ g ∧ PtsAt g l W ∧ g < W.heap.size := by
  rcases h.1.2 with ⟨_, h0⟩ | ⟨g, cap, cur, rfl, hb, hg, hn, hm, hs, ht⟩
  · omega
  · refine ⟨g, cap, rfl, hn, hb, fun j b hj => ?_, (Array.getElem?_eq_some_iff.1 hg).1⟩
    have hjl := (List.getElem?_eq_some_iff.1 hj).1
    have key : ∀ m, m < 5 → W.cell? ⟨g, j * 5 + m, none⟩ = (partC b)[m]? := fun m hm5 => by
      rw [cell_of_row _ _ _ _ _ _ hg, ← partsC_at l j m b hj hm5, ← ht, List.getElem?_take, if_pos (by omega)]
      simp
    exact ⟨key 0 (by omega), key 1 (by omega), key 2 (by omega), key 3 (by omega), key 4 (by omega)⟩
theorem PtsAt.later {g : Nat} {l : List Bl} {W W' : World} (h : PtsAt g l W) (hb : Below W.heap.size W W') : PtsAt g l W' := fun j b hj => by
  obtain ⟨h0, h1, h2, h3, h4⟩ := h j b hj
  exact ⟨(hb.cell (block_lt_of_cell h0)).trans h0, (hb.cell (block_lt_of_cell h1)).trans h1, (hb.cell (block_lt_of_cell h2)).trans h2, (hb.cell (block_lt_of_cell h3)).trans h3, (hb.cell (block_lt_of_cell h4)).trans h4⟩
set_option maxHeartbeats 8000000 in
theorem refMany_any (w : World) (V D L I : Nat) (ch cx : Int) (hL : L ≤ 4) (hr : rowsB (blks V D L I) ≤ 2900) : Calls Try.prog 15 #[.agg (Cfg.cells ⟨V, D, ch, L, cx, I⟩)] w fun e w' => e = .returned (.int .i64 ((1 + rowsB (blks V D L I) : Nat) : Int)) ∧ Below w.heap.size w w' := by
  have HB := Lib.hid (Pz.made w ⟨V, D, ch, L, cx, I⟩)
  have HP : Hid (∀ W, Calls Try.prog 32 #[.agg #[.int .i64 (V : Int), .int .i64 (D : Int), .int .i64 ch, .int .i64 (L : Int), .int .i64 cx, .int .i64 (I : Int)]] W _) := Lib.hid (fun W => refParts_any W V D L I ch cx hL)
  have hlen := blks_length V D L I
  obtain ⟨BL, hBL⟩ : ∃ BL, blks V D L I = BL := ⟨_, rfl⟩
  rw [hBL] at hr hlen HP ⊢
  have HR := Lib.hid hr
  have HN : Hid (0 < BL.length ∧ BL.length ≤ 39) := Lib.hid (by omega)
  clear hL hr hlen hBL
  unfold Cfg.cells at HB ⊢
  go_enter Try.func15, Try.ntmps15
  go_upto_region 1 with fail
  refine gen_w (Q := fun w => Code.wp _ _ _ _ w) _ (Pz w ⟨V, D, ch, L, cx, I⟩) HB.out ?_
  clear HB
  intro w1 hx
  have HX := Lib.hid hx
  obtain ⟨c0, c1, c2, c3, c4, c5⟩ := sz_cells hx.sz
  dsimp only at c0 c1 c2 c3 c4 c5
  clear hx
  go_wp2_with fail
  refine (HP.out w1).mono ?_
  rintro e w2 ⟨v, rfl, hp, hb2⟩
  obtain ⟨g, cap, rfl, hcap, _, hat, _⟩ := hp.form HN.out.1
  have HAt := Lib.hid hat
  have HB2 := Lib.hid (HX.out.below.trans (hb2.mono HX.out.below.size))
  obtain ⟨n, hn⟩ : ∃ n, BL.length = n := ⟨_, rfl⟩
  rw [hn] at hcap ⊢
  have Hn := Lib.hid hn
  have hn39 : n ≤ 39 := by have := HN.out; omega
  clear hp hb2 hat hn c0 c1 c2 c3 c4 c5 HX HP
  go_wp2
  go_loopw [3, 5] (fun nv jv wr => ∃ j : Nat, j ≤ n ∧ jv = .int .i64 j ∧ nv = .int .i64 ((1 + rowsB (BL.take j) : Nat) : Int) ∧ wr = w2) (fun _ jv _ => n - (intOf jv).toNat)
  case atStart => exact ⟨0, by omega, rfl, rfl, rfl⟩
  case round =>
    obtain ⟨j, hj, rfl, rfl, rfl⟩ := hrel
    by_cases hjn : j < n
    · have hd1 : decide (j < n) = true := by simpa using hjn
      have hd2 : decide ((j : Int) < (n : Int)) = true := by simp; omega
      obtain ⟨b, hb⟩ : ∃ b, BL[j]? = some b := ⟨BL[j]'(by rw [Hn.out]; exact hjn), by simp [Hn.out, hjn]⟩
      obtain ⟨_, _, q2, _, _⟩ := HAt.out j b hb
      have hle := rowsB_take_le BL (j + 1)
      have htk : BL.take (j + 1) = BL.take j ++ [b] := by rw [List.take_add_one, hb]; rfl
      rw [htk, rowsB_snoc] at hle
      have HT := Lib.hid htk
      have hR := HR.out
      obtain ⟨R, hRR⟩ : ∃ R, rowsB (BL.take j) = R := ⟨_, rfl⟩
      rw [hRR] at hle ⊢
      have HRR := Lib.hid hRR
      have w1 : wrap64 (1 + (R : Int) + (b.r : Int)) = 1 + ((R : Int) + (b.r : Int)) := by rw [IntWalk.wrap64_in _ (by omega)]; omega
      clear hb htk hRR hle hR
      go_wp2
      go_roundw
      case rel => exact ⟨j + 1, by omega, by go_num, by rw [HT.out, rowsB_snoc, HRR.out]; go_num, trivial⟩
      case measure => simp [intOf]; omega
    · obtain rfl : j = n := by omega
      have hdf : decide (j < j) = false := by simp
      have hdf2 : decide ((j : Int) < (j : Int)) = false := by simp
      have HE : Hid (BL.take j = BL) := Lib.hid (by rw [← Hn.out, List.take_length])
      clear hjn hj
      go_wp2
      go_ret
      exact ⟨by rw [HE.out]; rfl, HB2.out⟩
set_option maxHeartbeats 8000000 in
theorem refPlace_any (w : World) (V D L I : Nat) (ch cx k y r : Int) (hL : L ≤ 4) (hr : rowsB (blks V D L I) ≤ 2900) : Calls Try.prog 16 #[.agg (Cfg.cells ⟨V, D, ch, L, cx, I⟩), .int .i64 k, .int .i64 y, .int .i64 r] w fun e w' => e = .returned (.int .i64 (plcB k y r 1 (blks V D L I))) ∧ Below w.heap.size w w' := by
  have HB := Lib.hid (Pz.made w ⟨V, D, ch, L, cx, I⟩)
  have HP : Hid (∀ W, Calls Try.prog 32 #[.agg #[.int .i64 (V : Int), .int .i64 (D : Int), .int .i64 ch, .int .i64 (L : Int), .int .i64 cx, .int .i64 (I : Int)]] W _) := Lib.hid (fun W => refParts_any W V D L I ch cx hL)
  have hlen := blks_length V D L I
  obtain ⟨BL, hBL⟩ : ∃ BL, blks V D L I = BL := ⟨_, rfl⟩
  rw [hBL] at hr hlen HP ⊢
  have HR := Lib.hid hr
  have HN : Hid (0 < BL.length ∧ BL.length ≤ 39) := Lib.hid (by omega)
  obtain ⟨A, hA⟩ : ∃ A, plcB k y r 1 BL = A := ⟨_, rfl⟩
  rw [hA]
  have HA := Lib.hid hA
  clear hL hr hlen hBL hA
  unfold Cfg.cells at HB ⊢
  go_enter Try.func16, Try.ntmps16
  go_upto_region 1 with fail
  refine gen_w (Q := fun w => Code.wp _ _ _ _ w) _ (Pz w ⟨V, D, ch, L, cx, I⟩) HB.out ?_
  clear HB
  intro w1 hx
  have HX := Lib.hid hx
  obtain ⟨c0, c1, c2, c3, c4, c5⟩ := sz_cells hx.sz
  dsimp only at c0 c1 c2 c3 c4 c5
  clear hx
  go_wp2_with fail
  refine (HP.out w1).mono ?_
  rintro e w2 ⟨v, rfl, hp, hb2⟩
  obtain ⟨g, cap, rfl, hcap, _, hat, _⟩ := hp.form HN.out.1
  have HAt := Lib.hid hat
  have HB2 := Lib.hid (HX.out.below.trans (hb2.mono HX.out.below.size))
  obtain ⟨n, hn⟩ : ∃ n, BL.length = n := ⟨_, rfl⟩
  rw [hn] at hcap ⊢
  have Hn := Lib.hid hn
  have hn39 : n ≤ 39 := by have := HN.out; omega
  clear hp hb2 hat hn c0 c1 c2 c3 c4 c5 HX HP
  go_wp2
  go_loopw [9, 11] (fun nv jv wr => ∃ j : Nat, j ≤ n ∧ jv = .int .i64 j ∧ nv = .int .i64 ((1 + rowsB (BL.take j) : Nat) : Int) ∧ A = plcB k y r (1 + rowsB (BL.take j)) (BL.drop j) ∧ wr = w2) (fun _ jv _ => n - (intOf jv).toNat)
  case atStart => exact ⟨0, by omega, rfl, rfl, HA.out.symm, rfl⟩
  case round =>
    obtain ⟨j, hj, rfl, rfl, ha, rfl⟩ := hrel
    by_cases hjn : j < n
    · have hd1 : decide (j < n) = true := by simpa using hjn
      have hd2 : decide ((j : Int) < (n : Int)) = true := by simp; omega
      obtain ⟨b, hb⟩ : ∃ b, BL[j]? = some b := ⟨BL[j]'(by rw [Hn.out]; exact hjn), by simp [Hn.out, hjn]⟩
      obtain ⟨q0, q1, q2, _, _⟩ := HAt.out j b hb
      have hle := rowsB_take_le BL (j + 1)
      have htk : BL.take (j + 1) = BL.take j ++ [b] := by rw [List.take_add_one, hb]; rfl
      have hdr : BL.drop j = b :: BL.drop (j + 1) := by
        have h1 : j < BL.length := (List.getElem?_eq_some_iff.1 hb).1
        rw [List.drop_eq_getElem_cons h1]
        have h2 := (List.getElem?_eq_some_iff.1 hb).2
        rw [h2]
      rw [htk, rowsB_snoc] at hle
      have HT := Lib.hid htk
      have hR := HR.out
      obtain ⟨R, hRR⟩ : ∃ R, rowsB (BL.take j) = R := ⟨_, rfl⟩
      rw [hRR, hdr] at ha
      rw [hRR] at hle ⊢
      have HRR := Lib.hid hRR
      have HPl := Lib.hid ha
      obtain ⟨kk, yy, rr, cc⟩ := b
      dsimp only at q0 q1 q2 hle
      have w1 : wrap64 (1 + (R : Int) + (rr : Int)) = 1 + ((R : Int) + (rr : Int)) := by rw [IntWalk.wrap64_in _ (by omega)]; omega
      clear hb htk hRR hdr ha
      by_cases hk : (kk : Int) = k
      · by_cases hy : (yy : Int) = y
        · have n1 : ((kk : Int) == k) = true := by simpa using hk
          have n3 : ((yy : Int) == y) = true := by simpa using hy
          by_cases hr0 : r < 0
          · have d1 : decide (r < 0) = true := by simpa using hr0
            have HE := Lib.hid (HPl.out.trans (plcB_no ⟨hk, hy⟩ (Or.inl hr0)))
            clear hk hy hr0 hle hR
            go_wp2
            go_ret
            exact ⟨by rw [HE.out]; rfl, HB2.out⟩
          · have d1 : decide (r < 0) = false := by simpa using hr0
            by_cases hr1 : (rr : Int) ≤ r
            · have d2 : decide ((rr : Int) ≤ r) = true := by simpa using hr1
              have HE := Lib.hid (HPl.out.trans (plcB_no ⟨hk, hy⟩ (Or.inr hr1)))
              clear hk hy hr0 hr1 hle hR
              go_wp2
              go_ret
              exact ⟨by rw [HE.out]; rfl, HB2.out⟩
            · have d2 : decide ((rr : Int) ≤ r) = false := by simpa using hr1
              have HE := Lib.hid (HPl.out.trans (plcB_yes ⟨hk, hy⟩ (show ¬ (r < 0 ∨ (rr : Int) ≤ r) by omega)))
              have w2 : wrap64 (1 + (R : Int) + r) = 1 + ((R : Int) + r) := by rw [IntWalk.wrap64_in _ (by omega)]; omega
              have HE2 : Hid (A = 1 + ((R : Int) + r)) := Lib.hid (by rw [HE.out]; omega)
              clear hk hy hr0 hr1 hle hR
              go_wp2
              go_ret
              exact ⟨by rw [HE2.out]; rfl, HB2.out⟩
        · have n1 : ((kk : Int) == k) = true := by simpa using hk
          have n3 : ((yy : Int) == y) = false := by simpa using hy
          have HE := Lib.hid (HPl.out.trans (plcB_step (show ¬ (((kk : Nat) : Int) = k ∧ ((yy : Nat) : Int) = y) from fun h => hy h.2)))
          clear hk hy hle hR
          go_wp2
          go_roundw
          case rel => exact ⟨j + 1, by omega, by go_num, by rw [HT.out, rowsB_snoc, HRR.out]; go_num, by rw [HT.out, rowsB_snoc, HRR.out, HE.out, Nat.add_assoc], trivial⟩
          case measure => simp [intOf]; omega
      · have n1 : ((kk : Int) == k) = false := by simpa using hk
        have HE := Lib.hid (HPl.out.trans (plcB_step (show ¬ (((kk : Nat) : Int) = k ∧ ((yy : Nat) : Int) = y) from fun h => hk h.1)))
        clear hk hle hR
        go_wp2
        go_roundw
        case rel => exact ⟨j + 1, by omega, by go_num, by rw [HT.out, rowsB_snoc, HRR.out]; go_num, by rw [HT.out, rowsB_snoc, HRR.out, HE.out, Nat.add_assoc], trivial⟩
        case measure => simp [intOf]; omega
    · obtain rfl : j = n := by omega
      have hdf : decide (j < j) = false := by simp
      have hdf2 : decide ((j : Int) < (j : Int)) = false := by simp
      have HE : Hid (A = -1) := Lib.hid (by rw [ha, ← Hn.out, List.drop_length]; rfl)
      clear hjn hj ha
      go_wp2
      go_ret
      exact ⟨by rw [HE.out]; rfl, HB2.out⟩
end Go.Proofs.Ytdmgkapclgfljaa.Wg
