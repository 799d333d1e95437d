import Derived.Test.YtkfkjapkcjidnaaWh
namespace Go.Proofs.Ytkfkjapkcjidnaa.Wg
set_option maxRecDepth 100000
open Go.ChangeShapes Go.WideShapes Go.ChangeAt Go.RowKit Go.Shelf Go.Proofs.Ytkfkjapkcjidnaa.Tn
attribute [local go_sem] Oper.semAt_some

/-! ### Many -/
theorem size_cfg : (Try.prog.info? 23).map (·.size) = some 6 := by kernel_rfl
theorem boxed_below {W W' : World} {B : Nat} {t : TypeId} {v : Value} (h : Boxed W B t v) (hb : Below W.heap.size W W') : Boxed W' B t v := (hb.block B h.lt).trans h
set_option maxHeartbeats 8000000 in
theorem many_no (w : World) (c : Cfg) (h : c.chk ≠ 0) : Calls Try.prog 28 #[.agg c.cells] w fun e w' => e = .returned (.tuple #[.int .i64 0, .int .i64 c.chk]) ∧ Below w.heap.size w w' := by
  have HC := Lib.hid (fun W => chk_any W c)
  unfold Cfg.cells at HC ⊢
  obtain ⟨E, hE⟩ : ∃ E, c.chk = E := ⟨_, rfl⟩
  rw [hE] at HC h ⊢
  have h1 : (E == 0) = false := by simpa using h
  have h2 : (E != 0) = true := by simpa using h
  have HB : Hid (Below w.heap.size w (w.alloc (.cells #[.int .i64 c.v, .int .i64 c.d, .int .i64 c.h, .int .i64 c.l, .int .i64 c.x, .int .i64 c.i] 23))) := Lib.hid ((Below.refl _ _).alloc (Nat.le_refl _) _)
  clear hE h
  go_enter Try.func28, Try.ntmps28
  go_wp2_with fail
  refine (HC.out _).mono ?_
  rintro e w2 ⟨rfl, hb2⟩
  have HB2 := Lib.hid (HB.out.trans (hb2.mono HB.out.size))
  clear hb2 HB HC
  go_wp2
  go_ret2
  exact ⟨rfl, HB2.out⟩
/-- what stands between two rounds of Many -/
def ManyI (w : World) (B : Nat) (BL : List Bl) (pre : List Bk) (W : World) : Prop := Boxed W B 3 (.int .i64 ((1 + rowsB (BL.take pre.length) : Nat) : Int)) ∧ Below w.heap.size w W
theorem manyI_own (w : World) (B n : Nat) (BL : List Bl) (hn : w.heap.size ≤ n) : OwnFrom n (ManyI w B BL) :=
  OwnFrom.and (Own.from (boxed_own _ _ _) _) (ownFrom_below (Nat.le_refl _) hn)
set_option maxHeartbeats 8000000 in
theorem many_in (w : World) (V D L I : Nat) (ch cx : Int) (h0 : (⟨V, D, ch, L, cx, I⟩ : Cfg).chk = 0) :
    CallsIn Fence.wide 6 Try.prog 28 #[.agg (Cfg.cells ⟨V, D, ch, L, cx, I⟩)] w fun e w' => e = .returned (.tuple #[.int .i64 ((1 + rowsB (blks V D L I) : Nat) : Int), .int .i64 0]) ∧ Below w.heap.size w w' := by
  have hO := Cfg.ok_of_chk h0
  have hL4 : L ≤ 4 := by have := hO.l.2; simp only at this; omega
  have hrow : rowsB (blks V D L I) ≤ 2900 := Cfg.rows_le hO
  have HC : Hid (∀ W, Calls Try.prog 36 #[.agg #[.int .i64 (V : Int), .int .i64 (D : Int), .int .i64 ch, .int .i64 (L : Int), .int .i64 cx, .int .i64 (I : Int)]] W fun e w' => e = .returned (.int .i64 0) ∧ Below W.heap.size W w') := Lib.hid (fun W => by have := chk_any W ⟨V, D, ch, L, cx, I⟩; rw [h0] at this; exact this)
  have HBk : Hid (∀ W, Calls Try.prog 37 #[.agg #[.int .i64 (V : Int), .int .i64 (D : Int), .int .i64 ch, .int .i64 (L : Int), .int .i64 cx, .int .i64 (I : Int)]] W fun e w' => e = .returned (.func (.func 56) #[] #[.pointer (some ⟨W.heap.size, 0, none⟩)]) ∧ w' = W.alloc (.cells (Cfg.cells ⟨V, D, ch, L, cx, I⟩) 23)) := Lib.hid (fun W => blocks_any W ⟨V, D, ch, L, cx, I⟩)
  have HBt := Lib.hid (fun (bc : Nat) (W : World) (cb : W.heap[bc]? = _) => blocks_tells 5 (by omega) bc V D L I ch cx hL4 W cb)
  obtain ⟨BL, hBL⟩ : ∃ BL, blks V D L I = BL := ⟨_, rfl⟩
  rw [hBL] at hrow HBt ⊢
  have Hrow := Lib.hid hrow
  have HC0 := Lib.hid (Ck.made w ⟨V, D, ch, L, cx, I⟩)
  clear h0 hO hL4 hBL hrow
  unfold Cfg.cells
  refine callsIn_of_wp_marks Try.func28 rfl trivial ?_ rfl
  simp only [Try.ntmps28, List.size_toArray, List.length_cons, List.length_nil, Nat.reduceAdd, Nat.reduceSub, Array.replicate_succ, Array.replicate_zero, List.push_toArray, List.append_toArray, List.nil_append, List.cons_append]
  gi_wp2_with (first
    | (refine ⟨trivial, ?_⟩; gi_at_call 36; refine (callsIn_wide.2 (HC.out _)).mono ?_; rintro e w2 ⟨rfl, hb2⟩; have HC2 := Lib.hid (HC0.out.later hb2); have HC3 := Lib.hid (HC2.out.later ((Below.refl _ _).alloc (Nat.le_refl _) (.cells #[.int .i64 1] 3))); have HC4 := Lib.hid HC3.out.cf; have HC5 := Lib.hid (Boxed.new w2 3 (.int .i64 1)); clear hb2)
    | (refine wpListIn_load_row rfl 23 (.tmp 1) rfl w.heap.size rfl 23 _ (0, 0) _ HC4.out Try.underlying23 rfl size_cfg ?_)
    | (refine ⟨trivial, ?_⟩; gi_at_call 37; refine (callsIn_wide.2 (HBk.out _)).mono ?_; rintro e w' ⟨rfl, rfl⟩))
  have hcb := heap_alloc_new (w2.alloc (.cells #[.int .i64 1] 3)) (.cells (Cfg.cells ⟨V, D, ch, L, cx, I⟩) 23)
  have hba := (Below.refl _ (w2.alloc (.cells #[.int .i64 1] 3))).alloc (Nat.le_refl _) (.cells (Cfg.cells ⟨V, D, ch, L, cx, I⟩) 23)
  have hbw := (HC3.out.later hba).below
  have hbx := boxed_below HC5.out hba
  have hsz : ((w2.alloc (.cells #[.int .i64 1] 3)).alloc (.cells (Cfg.cells ⟨V, D, ch, L, cx, I⟩) 23)).heap.size = w2.heap.size + 2 := by simp
  have hs2 := HC2.out.below.size
  rw [World.size_alloc] at hcb
  obtain ⟨W0, hW0⟩ : ∃ W0, (w2.alloc (.cells #[.int .i64 1] 3)).alloc (.cells (Cfg.cells ⟨V, D, ch, L, cx, I⟩) 23) = W0 := ⟨_, rfl⟩
  rw [hW0] at hcb hbw hbx hsz ⊢
  obtain ⟨g, hg⟩ : ∃ g, w2.heap.size = g := ⟨_, rfl⟩
  rw [hg] at hcb hbx hsz hs2 ⊢
  clear hW0 hba HC2 HC3 HC4 HC5 HC0 HC HBk hg
  refine wpIn_rangeFunc_tells rfl (by omega) (gf := 56) (lb := #[.pointer (some ⟨g + 1, 0, none⟩)]) rfl trivial (enters_of Try.func56 (by kernel_rfl) rfl)
    (HBt.out (g + 1) W0 hcb) KpB.trans (fun W l o o' h1 h2 h3 h4 => KpB.put W l o o' h2 h3) (Below.refl _ _) (fun _ => rfl)
    (ManyI w g BL) (fun _ _ _ => False) (manyI_own w g _ BL (by omega)) (fun _ _ _ _ _ hs _ _ => hs)
    ⟨by simpa [rowsB] using hbx, hbw⟩
    (fun pre x a' W => BL[pre.length]? = some x.b ∧ ∃ Bx, BoxB 0 Bx x W ∧ a' = { tmps := #[.agg #[.int .i64 (V : Int), .int .i64 (D : Int), .int .i64 ch, .int .i64 (L : Int), .int .i64 cx, .int .i64 (I : Int)], .pointer (some ⟨w.heap.size, 0, none⟩), .int .i64 0, .int .i64 0, .int .i64 0, .pointer (some ⟨g, 0, none⟩), .pointer (some ⟨Bx, 0, none⟩), .agg #[.int .i64 (V : Int), .int .i64 (D : Int), .int .i64 ch, .int .i64 (L : Int), .int .i64 cx, .int .i64 (I : Int)], .int .i64 0, .int .i64 0, .bool false, undef, .agg (Cfg.cells ⟨V, D, ch, L, cx, I⟩), .func (.func 56) #[] #[.pointer (some ⟨g + 1, 0, none⟩)], x.val, undef, undef, undef, undef, undef], defers := [] })
    (fun pre x a' s X Y row hs hg hr => ⟨hs.1, hs.2.imp fun Bx h => ⟨BoxB.own () X Y row h.1 hg hr, h.2⟩⟩)
    ?assign ?body ?done ?stop
  case assign =>
    rintro l pre x W K hI hG hK
    have HK := Lib.hid hK
    have HG := Lib.hid hG
    obtain ⟨hb1, hbl1⟩ := hI
    have HI1 := Lib.hid hb1
    have HI2 := Lib.hid hbl1
    have h1 := hG.2.one
    clear hG hK hb1 hbl1
    obtain ⟨⟨k, y, r, cc⟩, vf, mf⟩ := x
    dsimp only at h1
    obtain ⟨h1, h2⟩ := h1
    dsimp only [Bk.val, Bk.cells, blC]
    gi_wp2_with (refine wpListIn_store_new rfl 95 (.tmp 6) (.tmp 14) rfl #[.int .i64 (k : Int), .int .i64 (y : Int), .int .i64 (r : Int), .int .i64 (cc : Int), vf, mf] zblk 95 rfl rfl rfl size_blk rfl (blC_one _ _ _ _ h1 h2) ?_)
    have hal : Below W.heap.size W (W.alloc (.cells #[.int .i64 (k : Int), .int .i64 (y : Int), .int .i64 (r : Int), .int .i64 (cc : Int), vf, mf] 95)) := (Below.refl _ _).alloc (Nat.le_refl _) _
    exact HK.out _ _ ((KeepsOthers.alloc _ _).from _) (KpB.of_below hal) ⟨boxed_below HI1.out hal, HI2.out.trans (hal.mono HI2.out.size)⟩ ⟨HG.out.1, W.heap.size, ⟨Nat.zero_le _, heap_alloc_new _ _⟩, rfl⟩
  case body =>
    rintro l pre x a' W hl _ hI ⟨hx, Bx, hBx, rfl⟩
    have HI := Lib.hid hI
    have HX := Lib.hid hx
    have HBx := Lib.hid hBx
    obtain ⟨hb1, _⟩ := hI
    have hc := hb1.cell
    have hfz := hb1.frozen
    have q2 : W.cell? ⟨Bx, 2, none⟩ = some (.int .i64 (x.b.r : Int)) := by rw [cell_of_row _ _ _ _ _ _ hBx.2]; rfl
    have hle := rowsB_take_le BL (pre.length + 1)
    have htk : BL.take (pre.length + 1) = BL.take pre.length ++ [x.b] := by rw [List.take_add_one, hx]; rfl
    rw [htk, rowsB_snoc] at hle
    have HT := Lib.hid htk
    have hR := Hrow.out
    obtain ⟨R, hRR⟩ : ∃ R, rowsB (BL.take pre.length) = R := ⟨_, rfl⟩
    rw [hRR] at hc hle
    have HR := Lib.hid hRR
    obtain ⟨r, hr⟩ : ∃ r, x.b.r = r := ⟨_, rfl⟩
    rw [hr] at q2 hle
    have Hr := Lib.hid hr
    have w1 : wrap64 (1 + (R : Int) + (r : Int)) = ((1 + (R + r) : Nat) : Int) := by rw [IntWalk.wrap64_in _ (by omega)]; omega
    clear hx hBx hb1 htk hRR hr hle hR
    gi_wp2
    refine ⟨keepsFrom_cell, KpB.cell (a := ⟨g, 0, none⟩) (by simp only; omega) (by simp only; omega), ?_, HI.out.2.setCell (p := ⟨g, 0, none⟩) (by simp only; omega) _⟩
    rw [List.length_append, List.length_singleton, HT.out, rowsB_snoc, HR.out, Hr.out, show ((1 + (R + r) : Nat) : Int) = 1 + ((R : Int) + (r : Int)) by omega]
    exact HI.out.1.set _
  case done =>
    rintro D ys W hD hys ⟨hb, hB⟩ hK
    have hl : ys.length = BL.length := by rw [← hys, List.length_map]
    rw [hl, List.take_length] at hb
    have hc := hb.cell
    have HB := Lib.hid hB
    clear hB hb hl hys
    gi_wp2
    refine ⟨by simp, .inl ⟨_, _, rfl, run_takeDeferred hK, ?_⟩⟩
    exact ⟨_, results_tmp2 rfl _ _ _, by simp, HB.out.trans (belowK_b (w := w) (Nat.le_refl _) W D _ _ (by omega) hK rfl rfl)⟩
  case stop => 
    rintro D c pre W _ _ h _
    exact h.elim
/-- what Many answers -/
def manyV (c : Cfg) : Array Value := if c.chk ≠ 0 then #[.int .i64 0, .int .i64 c.chk] else #[.int .i64 ((1 + rowsB c.blks : Nat) : Int), .int .i64 0]
theorem many_any (w : World) (c : Cfg) : Calls Try.prog 28 #[.agg c.cells] w fun e w' => e = .returned (.tuple (manyV c)) ∧ Below w.heap.size w w' := by
  unfold manyV
  by_cases h : c.chk = 0
  · rw [if_neg (by omega)]
    obtain ⟨V, D, ch, L, cx, I⟩ := c
    have hO := Cfg.ok_of_chk h
    obtain ⟨V, rfl⟩ : ∃ n : Nat, V = n := Int.eq_ofNat_of_zero_le (by have := hO.v.1; simp only at this; omega)
    obtain ⟨D, rfl⟩ : ∃ n : Nat, D = n := Int.eq_ofNat_of_zero_le (by have := hO.d.1; simp only at this; omega)
    obtain ⟨L, rfl⟩ : ∃ n : Nat, L = n := Int.eq_ofNat_of_zero_le (by have := hO.l.1; simp only at this; omega)
    obtain ⟨I, rfl⟩ : ∃ n : Nat, I = n := Int.eq_ofNat_of_zero_le (by have := hO.i.1; simp only at this; omega)
    exact callsIn_wide.1 (many_in w V D L I ch cx h)
  · rw [if_pos h]
    exact many_no w c h
end Go.Proofs.Ytkfkjapkcjidnaa.Wg
