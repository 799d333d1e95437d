import Derived.Test.YtdffbjjiojheoaaMe
namespace Go.Proofs.Ytdffbjjiojheoaa.Wg
set_option maxRecDepth 100000
open Go.ChangeShapes Go.WideShapes Go.ChangeAt Go.RowKit Go.Shelf Go.Proofs.Ytdffbjjiojheoaa.Tn
attribute [local go_sem] Oper.semAt_some

/-! ### Check of a model: its parts -/
theorem headE_zero {m : Md} (h : m.headE = 0) : m.cfg.chk = 0 ∧ (Bp.newD m.al m.ps).1 = 0 ∧ ((Bp.newD m.al m.ps).2.length : Int) = m.cfg.v ∧ (m.n : Int) = m.cfg.l := by
  unfold Md.headE at h
  by_cases h0 : m.cfg.chk = 0
  · rw [if_neg (by omega)] at h
    by_cases h1 : (Bp.newD m.al m.ps).1 = 0
    · rw [if_neg (by omega)] at h
      by_cases h2 : ((Bp.newD m.al m.ps).2.length : Int) ≠ m.cfg.v ∨ (m.n : Int) ≠ m.cfg.l
      · rw [if_pos h2] at h; omega
      · exact ⟨h0, h1, by omega, by omega⟩
    · rw [if_pos h1] at h; exact absurd h h1
  · rw [if_pos h0] at h; exact absurd h h0
theorem partsE_yes {m : Md} {b : Bl} {l : List Bl} (h : partE b (m.part b.k b.y) = 0) : partsE m (b :: l) = partsE m l := by rw [partsE, if_neg (by omega)]
theorem partsE_no {m : Md} {b : Bl} {l : List Bl} (h : partE b (m.part b.k b.y) ≠ 0) : partsE m (b :: l) = partE b (m.part b.k b.y) := by rw [partsE, if_pos h]
/-- what stands between two rounds of Check -/
def ChkI (w : World) (v : Wv) (m : Md) (g : Nat) (BL : List Bl) (pre : List Bk) (W : World) : Prop := Boxed W g 52 (.int .i64 0) ∧ Hw w v m W ∧ partsE m BL = partsE m (BL.drop pre.length)
theorem chkI_own (w : World) (v : Wv) (m : Md) (g n : Nat) (BL : List Bl) (hn : w.heap.size ≤ n) : OwnFrom n (ChkI w v m g BL) :=
  OwnFrom.and (Own.from (boxed_own _ _ _) _) (OwnFrom.and (Hw.own hn) (ownFrom_pure _ _))
def ChkX (w : World) (g : Nat) (R : Int) (c : Code) (_pre : List Bk) (W : World) : Prop := c = .exit 0 ∧ Boxed W g 52 (.int .i64 R) ∧ Below w.heap.size w W
theorem chkX_own (w : World) (g : Nat) (R : Int) (c : Code) (n : Nat) (hn : w.heap.size ≤ n) : OwnFrom n (ChkX w g R c) :=
  OwnFrom.and (ownFrom_pure _ _) (OwnFrom.and (Own.from (boxed_own _ _ _) _) (ownFrom_below (Nat.le_refl _) hn))
theorem below_keeps {B : Nat} {W W' : World} (hb : Below W.heap.size W W') : KeepsFrom B W W' := ⟨hb.size, fun k _ _ hk _ => (hb.block k (Array.getElem?_eq_some_iff.1 hk).1).trans hk⟩
theorem noGoto_ret' {Q : Exit → Act → World → Prop} {a : Act} {w : World} (h : Q .ret a w) : Exit.noGoto Q .ret a w := h
set_option maxHeartbeats 8000000 in
theorem check_in (w : World) (v : Wv) (m : Md) (hv : WvOK w v m) (ha : m.al.length ≤ 1000) (hp : m.ps.length ≤ 1000) (hE : m.headE = 0) :
    CallsIn Fence.wide 6 Try.prog 48 #[.agg v.cells] w fun e w' => e = .returned (.int .i64 m.chk) ∧ Below w.heap.size w w' := by
  obtain ⟨hck, _, _, hnl⟩ := headE_zero hE
  have hO := Cfg.ok_of_chk hck
  have HC := Lib.hid (fun W (h : Hw w v m W) => checkHead_any W v m (hv.later h.below) ha hp)
  rw [hE] at HC
  have HS := Lib.hid (chk_yes hE)
  have HVw := Lib.hid hv
  obtain ⟨V, D, ch, L, cx, I, hcf⟩ : ∃ (V D : Nat) (ch : Int) (L : Nat) (cx : Int) (I : Nat), m.cfg = ⟨V, D, ch, L, cx, I⟩ := by
    obtain ⟨h1, h2, h3, h4, h5, h6⟩ := hO
    obtain ⟨a, ha⟩ := Int.eq_ofNat_of_zero_le (show 0 ≤ m.cfg.v by omega)
    obtain ⟨b, hb⟩ := Int.eq_ofNat_of_zero_le (show 0 ≤ m.cfg.d by omega)
    obtain ⟨c, hc⟩ := Int.eq_ofNat_of_zero_le (show 0 ≤ m.cfg.l by omega)
    obtain ⟨d, hd⟩ := Int.eq_ofNat_of_zero_le (show 0 ≤ m.cfg.i by omega)
    refine ⟨a, b, m.cfg.h, c, m.cfg.x, d, ?_⟩
    rw [← ha, ← hb, ← hc, ← hd]
  have hvc : v.c = ⟨V, D, ch, L, cx, I⟩ := hv.c.trans hcf
  have hvn : v.nl = L := by have h1 := hv.nl; rw [hcf] at hnl; simp only at hnl; omega
  rw [hcf] at hO
  have hL4 : L ≤ 4 := by have := hO.l.2; simp only at this; omega
  have hD64 : D ≤ 64 := by have := hO.d.2; simp only at this; omega
  have hI64 : I ≤ 64 := by have := hO.i.2; simp only at this; omega
  have HOk : Hid (∀ b, b ∈ blks V D L I → OkB v b) := Lib.hid (fun b hb => blks_ok hD64 hI64 (by omega) hb)
  have HN4 : Hid (v.nl ≤ 4) := Lib.hid (by omega)
  have HVc := Lib.hid hvc
  have hbl : m.cfg.blks = blks V D L I := by rw [hcf]; rfl
  rw [hbl] at HS
  have HBk : Hid (∀ W, Calls Try.prog 54 #[.agg #[.int .i64 (V : Int), .int .i64 (D : Int), .int .i64 ch, .int .i64 (L : Int), .int .i64 cx, .int .i64 (I : Int)]] W fun e w' => e = .returned (.func (.func 72) #[] #[.pointer (some ⟨W.heap.size, 0, none⟩)]) ∧ w' = W.alloc (.cells (Cfg.cells ⟨V, D, ch, L, cx, I⟩) 31)) := Lib.hid (fun W => blocks_any W ⟨V, D, ch, L, cx, I⟩)
  have HBt := Lib.hid (fun (bc : Nat) (W : World) (cb : W.heap[bc]? = _) => blocks_tells 5 (by omega) bc V D L I ch cx hL4 W cb)
  obtain ⟨BL, hBL⟩ : ∃ BL, blks V D L I = BL := ⟨_, rfl⟩
  rw [hBL] at HBt HOk HS
  have HC0 := Lib.hid (Hw.made hv)
  obtain ⟨R, hR⟩ : ∃ R, m.chk = R := ⟨_, rfl⟩
  rw [hR] at HS ⊢
  clear hck hO hL4 hD64 hI64 hBL hv ha hp hE hnl hcf hvc hvn hbl hR
  unfold Wv.cells at HC ⊢
  refine callsIn_of_wp_marks Try.func48 rfl trivial ?_ rfl
  simp only [Try.ntmps48, List.size_toArray, List.length_cons, List.length_nil, Nat.reduceAdd, Nat.reduceSub, Array.replicate_succ, Array.replicate_zero, List.push_toArray, List.append_toArray, List.nil_append, List.cons_append]
  gi_wp2
  refine wpIn_scope_straight ?_
  gi_wp2_with (first
    | (refine wpListIn_load_row rfl 38 (.tmp 1) rfl w.heap.size rfl 38 v.cells (0, 0) _ HC0.out.md.row Try.underlying38 rfl size_wts ?_)
    | (refine ⟨trivial, ?_⟩; gi_at_call 66; refine (callsIn_wide.2 (HC.out _ HC0.out)).mono ?_; rintro e w2 ⟨rfl, hb2⟩; have HC2 := Lib.hid (HC0.out.later hb2); clear hb2))
  refine wpIn_label ?_
  have hb1 := HC2.out.later ((Below.refl _ w2).alloc (Nat.le_refl _) (.cells #[.int .i64 0] 52))
  have hbx1 := Boxed.new w2 52 (.int .i64 0)
  have hsz1 : (w2.alloc (.cells #[.int .i64 0] 52)).heap.size = w2.heap.size + 1 := by simp
  have hg0 := HC2.out.hi
  obtain ⟨W1, hW1⟩ : ∃ W1, w2.alloc (.cells #[.int .i64 0] 52) = W1 := ⟨_, rfl⟩
  obtain ⟨g, hg⟩ : ∃ g, w2.heap.size = g := ⟨_, rfl⟩
  rw [hW1] at hb1 hbx1 hsz1 ⊢
  rw [hg] at hbx1 hsz1 hg0 ⊢
  have HW1 := Lib.hid hb1
  have HX1 := Lib.hid hbx1
  obtain ⟨c0, c1, c2, c3, c4, c5⟩ := hb1.md.cfg
  rw [HVc.out] at c0 c1 c2 c3 c4 c5
  dsimp only at c0 c1 c2 c3 c4 c5
  clear hb1 hbx1 hW1 hg HC2 HC0 HC
  gi_wp2_with (refine ⟨trivial, ?_⟩; gi_at_call 54; refine (callsIn_wide.2 (HBk.out _)).mono ?_; rintro e w' ⟨rfl, rfl⟩)
  have hcb := heap_alloc_new W1 (.cells (Cfg.cells ⟨V, D, ch, L, cx, I⟩) 31)
  have hba := (Below.refl _ W1).alloc (Nat.le_refl _) (.cells (Cfg.cells ⟨V, D, ch, L, cx, I⟩) 31)
  have hbw := HW1.out.later hba
  have hbx := boxed_below HX1.out hba
  have hsz : (W1.alloc (.cells (Cfg.cells ⟨V, D, ch, L, cx, I⟩) 31)).heap.size = g + 2 := by simp [hsz1]
  rw [hsz1] at hcb
  obtain ⟨W0, hW0⟩ : ∃ W0, W1.alloc (.cells (Cfg.cells ⟨V, D, ch, L, cx, I⟩) 31) = W0 := ⟨_, rfl⟩
  rw [hW0] at hcb hbw hbx hsz ⊢
  have HBw := Lib.hid hbw
  clear hW0 hba HX1 HW1 HBk c0 c1 c2 c3 c4 c5 hbw hsz1
  refine wpIn_rangeFunc_tells rfl (by omega) (gf := 72) (lb := #[.pointer (some ⟨g + 1, 0, none⟩)]) rfl trivial (enters_of Try.func72 (by kernel_rfl) rfl)
    (HBt.out (g + 1) W0 hcb) KpB.trans (fun W l o o' h1 h2 h3 h4 => KpB.put W l o o' h2 h3) (Below.refl _ _) (fun _ => rfl)
    (ChkI w v m g BL) (ChkX w g R) (chkI_own w v m g _ BL (by omega)) (fun c => chkX_own w g R c _ (by omega))
    ⟨hbx, HBw.out, by simp⟩
    (fun pre x a' W => (BL[pre.length]? = some x.b ∧ FnOK W0.heap.size W x) ∧ ∃ Bx, BoxB 0 Bx x W ∧ a' = { tmps := #[.agg #[.int .i64 v.c.v, .int .i64 v.c.d, .int .i64 v.c.h, .int .i64 v.c.l, .int .i64 v.c.x, .int .i64 v.c.i, .slice v.sa v.na v.ca, .slice v.sp v.np v.cp, .int .i64 v.er, .int .i64 v.ec, .slice v.se v.ne v.ce, .slice v.sl v.nl v.cl, .slice v.sn v.nn v.cn, .int .i64 v.xr, .int .i64 v.xc, .slice v.so v.no v.co], .pointer (some ⟨w.heap.size, 0, none⟩), .int .i64 0, .pointer (some ⟨g, 0, none⟩), .pointer (some ⟨Bx, 0, none⟩), undef, undef, .agg v.cells, .int .i64 0, .int .i64 0, .bool false, undef, .pointer (some ⟨w.heap.size, 0, none⟩), .agg #[.int .i64 (V : Int), .int .i64 (D : Int), .int .i64 ch, .int .i64 (L : Int), .int .i64 cx, .int .i64 (I : Int)], .func (.func 72) #[] #[.pointer (some ⟨g + 1, 0, none⟩)], x.val, undef, undef, undef, undef, undef, undef, undef, undef, undef, undef, undef, undef, undef, undef], defers := [] })
    (fun pre x a' s X Y row hs hg hr => ⟨⟨hs.1.1, FnOK.own () X Y row hs.1.2 hg hr⟩, hs.2.imp fun Bx h => ⟨BoxB.own () X Y row h.1 hg hr, h.2⟩⟩)
    ?assign ?body ?done ?stop
  case assign =>
    rintro l pre x W K hI hG hK
    have HK := Lib.hid hK
    have HG := Lib.hid hG
    have HI := Lib.hid hI
    have h1 := hG.2.one
    clear hG hK hI
    obtain ⟨⟨kk, yy, rr, cc⟩, vf, mf⟩ := x
    dsimp only at h1
    obtain ⟨h1, h2⟩ := h1
    dsimp only [Bk.val, Bk.cells, blC]
    gi_wp2_with (refine wpListIn_store_new rfl 117 (.tmp 4) (.tmp 15) rfl #[.int .i64 (kk : Int), .int .i64 (yy : Int), .int .i64 (rr : Int), .int .i64 (cc : Int), vf, mf] zblk 117 rfl rfl rfl size_blk rfl (blC_one _ _ _ _ h1 h2) ?_)
    have hal : Below W.heap.size W (W.alloc (.cells #[.int .i64 (kk : Int), .int .i64 (yy : Int), .int .i64 (rr : Int), .int .i64 (cc : Int), vf, mf] 117)) := (Below.refl _ _).alloc (Nat.le_refl _) _
    exact HK.out _ _ ((KeepsOthers.alloc _ _).from _) (KpB.of_below hal) ⟨boxed_below HI.out.1 hal, HI.out.2.1.later hal, HI.out.2.2⟩ ⟨⟨HG.out.1, HG.out.2.later hal⟩, W.heap.size, ⟨Nat.zero_le _, heap_alloc_new _ _⟩, rfl⟩
  case body =>
    rintro l pre x a' W hl _ hI ⟨⟨hx, hfn⟩, Bx, hBx, rfl⟩
    have HI := Lib.hid hI
    have HX := Lib.hid hx
    have HF := Lib.hid hfn
    have HBx := Lib.hid hBx
    have HOb := Lib.hid (HOk.out x.b (List.mem_of_getElem? hx))
    have HRow := Lib.hid hBx.2
    clear hI hx hfn hBx
    gi_wp2_with (first
      | (refine wpListIn_load_row rfl 117 (.tmp 4) rfl Bx rfl 117 x.cells (0, 0) _ HRow.out Try.underlying117 rfl size_blk ?_))
    have HSz := Lib.hid hsz
    have HG0 := Lib.hid hg0
    have HPe : Hid ((szB x.b (m.part x.b.k x.b.y) ≠ 0 → R = szB x.b (m.part x.b.k x.b.y)) ∧ (szB x.b (m.part x.b.k x.b.y) = 0 → nmB x.b (m.part x.b.k x.b.y) ≠ 0 → R = nmB x.b (m.part x.b.k x.b.y)) ∧ (szB x.b (m.part x.b.k x.b.y) = 0 → nmB x.b (m.part x.b.k x.b.y) = 0 → partsE m BL = partsE m (BL.drop (pre.length + 1)))) := Lib.hid (by
      have h1 := HI.out.2.2
      have hdr : BL.drop pre.length = x.b :: BL.drop (pre.length + 1) := by
        have h1 : pre.length < BL.length := (List.getElem?_eq_some_iff.1 HX.out).1
        rw [List.drop_eq_getElem_cons h1]
        have h2 := (List.getElem?_eq_some_iff.1 HX.out).2
        rw [h2]
      rw [hdr] at h1
      refine ⟨fun h => ?_, fun h0 h => ?_, fun h0 h => ?_⟩
      · have e : partE x.b (m.part x.b.k x.b.y) = szB x.b (m.part x.b.k x.b.y) := by unfold partE; rw [if_pos h]
        rw [HS.out, h1, partsE_no (by rw [e]; exact h), e]
      · have e : partE x.b (m.part x.b.k x.b.y) = nmB x.b (m.part x.b.k x.b.y) := by unfold partE; rw [if_neg (by omega)]
        rw [HS.out, h1, partsE_no (by rw [e]; exact h), e]
      · have e : partE x.b (m.part x.b.k x.b.y) = 0 := by unfold partE; rw [if_neg (by omega)]; exact h
        rw [h1, partsE_yes e])
    gi_loopw [6, 21] (fun _ iv wr => ∃ i : Nat, i ≤ 2 ∧ iv = .int .i64 i ∧ Boxed wr g 52 (.int .i64 0) ∧ WvOK w v m ∧ Hw w v m wr ∧ KeepsFrom W0.heap.size W wr ∧ KpB W0.heap.size (g + 1) W wr ∧ (1 ≤ i → szB x.b (m.part x.b.k x.b.y) = 0) ∧ (2 ≤ i → nmB x.b (m.part x.b.k x.b.y) = 0)) (fun _ iv _ => 2 - (intOf iv).toNat)
    case atStart => exact ⟨0, by omega, rfl, HI.out.1, HVw.out, HI.out.2.1, KeepsFrom.refl _ _, KpB.refl _ _ _, fun h => by omega, fun h => by omega⟩
    case round =>
    obtain ⟨i, hi2, rfl, hbx2, _, hw⟩ := hrel
    have HW := Lib.hid hw
    have HBx2 := Lib.hid hbx2
    have HFn : Hid (FnOK W0.heap.size wr x) := Lib.hid (by
      rcases HF.out with h | h | h | ⟨h1, h2⟩
      · exact Or.inl h
      · exact Or.inr (Or.inl h)
      · exact Or.inr (Or.inr (Or.inl h))
      · exact Or.inr (Or.inr (Or.inr ⟨h1, h2.kept (Nat.le_refl _) hw.2.2.1⟩)))
    clear hbx2 hw hsz hg0
    rcases i with _ | _ | i
    · clear hi2
      by_cases hE0 : szB x.b (m.part x.b.k x.b.y) = 0
      · have HE0 := Lib.hid hE0
        have HCl := Lib.hid (sizesB_any wr W0.heap.size w.heap.size v m x HW.out.1.md HN4.out HFn.out HOb.out)
        rw [hE0] at HCl
        clear hE0
        gi_wp2_with (first
          | (refine wpListIn_index rfl 125 (.tmp 20) (.tmp 21) rfl (.func (.func 67) #[.agg x.cells] #[]) (by kernel_rfl) ?_)
          | (refine ⟨trivial, ?_⟩; gi_at_call 67; refine (CallsIn.inRound l (callsIn_wide.2 HCl.out)).mono ?_; rintro e w3 ⟨rfl, hb3⟩; have HB3 := Lib.hid hb3; have hq1 := boxed_below HBx2.out hb3; have HQ1 := Lib.hid hq1; have hq2 := hq1.cell; have hq3 := hq1.frozen; clear hb3 hq1))
        go_roundw
        case rel => exact ⟨1, by omega, by go_num, HQ1.out.set _, HVw.out, (HW.out.1.later HB3.out).set HVw.out (by have := HG0.out; omega) _, (HW.out.2.1.trans (below_keeps HB3.out)).trans keepsFrom_cell, (HW.out.2.2.1.trans (KpB.of_below HB3.out)).trans (KpB.cell (a := ⟨g, 0, none⟩) (by simp only; have := HSz.out; omega) (by simp only; omega)), fun _ => HE0.out, fun h => by omega⟩
        case measure => simp [intOf]
      · have HV : Hid (R = szB x.b (m.part x.b.k x.b.y)) := Lib.hid ((HPe.out.1 hE0))
        have HCl := Lib.hid (sizesB_any wr W0.heap.size w.heap.size v m x HW.out.1.md HN4.out HFn.out HOb.out)
        obtain ⟨E, hEE⟩ : ∃ E, szB x.b (m.part x.b.k x.b.y) = E := ⟨_, rfl⟩
        rw [hEE] at HCl HV hE0
        have n1 : (E == 0) = false := by simpa using hE0
        have n2 : (E != 0) = true := by simpa using hE0
        clear hE0 hEE
        gi_wp2_with (first
          | (refine wpListIn_index rfl 125 (.tmp 20) (.tmp 21) rfl (.func (.func 67) #[.agg x.cells] #[]) (by kernel_rfl) ?_)
          | (refine ⟨trivial, ?_⟩; gi_at_call 67; refine (CallsIn.inRound l (callsIn_wide.2 HCl.out)).mono ?_; rintro e w3 ⟨rfl, hb3⟩; have HB3 := Lib.hid hb3; have hq1 := boxed_below HBx2.out hb3; have HQ1 := Lib.hid hq1; have hq2 := hq1.cell; have hq3 := hq1.frozen; clear hb3 hq1))
        exact ⟨(HW.out.2.1.trans (below_keeps HB3.out)).trans keepsFrom_cell, (HW.out.2.2.1.trans (KpB.of_below HB3.out)).trans (KpB.cell (a := ⟨g, 0, none⟩) (by simp only; have := HSz.out; omega) (by simp only; omega)), rfl, by rw [HV.out]; exact HQ1.out.set _, ((HW.out.1.later HB3.out).set HVw.out (by have := HG0.out; omega) _).below⟩
    · clear hi2
      simp only [Nat.zero_add]
      have ek : ((1 : Nat) : Int) = 1 := rfl
      rw [ek]
      clear ek
      by_cases hE0 : nmB x.b (m.part x.b.k x.b.y) = 0
      · have HE0 := Lib.hid hE0
        have HCl := Lib.hid (numsB_any wr W0.heap.size w.heap.size v m x HW.out.1.md HN4.out HFn.out HOb.out)
        rw [hE0] at HCl
        clear hE0
        gi_wp2_with (first
          | (refine wpListIn_index rfl 125 (.tmp 20) (.tmp 21) rfl (.func (.func 68) #[.agg x.cells] #[]) (by kernel_rfl) ?_)
          | (refine ⟨trivial, ?_⟩; gi_at_call 68; refine (CallsIn.inRound l (callsIn_wide.2 HCl.out)).mono ?_; rintro e w3 ⟨rfl, hb3⟩; have HB3 := Lib.hid hb3; have hq1 := boxed_below HBx2.out hb3; have HQ1 := Lib.hid hq1; have hq2 := hq1.cell; have hq3 := hq1.frozen; clear hb3 hq1))
        go_roundw
        case rel => exact ⟨2, by omega, by go_num, HQ1.out.set _, HVw.out, (HW.out.1.later HB3.out).set HVw.out (by have := HG0.out; omega) _, (HW.out.2.1.trans (below_keeps HB3.out)).trans keepsFrom_cell, (HW.out.2.2.1.trans (KpB.of_below HB3.out)).trans (KpB.cell (a := ⟨g, 0, none⟩) (by simp only; have := HSz.out; omega) (by simp only; omega)), fun _ => HW.out.2.2.2.1 (by omega), fun _ => HE0.out⟩
        case measure => simp [intOf]
      · have HV : Hid (R = nmB x.b (m.part x.b.k x.b.y)) := Lib.hid ((HPe.out.2.1 (HW.out.2.2.2.1 (by omega)) hE0))
        have HCl := Lib.hid (numsB_any wr W0.heap.size w.heap.size v m x HW.out.1.md HN4.out HFn.out HOb.out)
        obtain ⟨E, hEE⟩ : ∃ E, nmB x.b (m.part x.b.k x.b.y) = E := ⟨_, rfl⟩
        rw [hEE] at HCl HV hE0
        have n1 : (E == 0) = false := by simpa using hE0
        have n2 : (E != 0) = true := by simpa using hE0
        clear hE0 hEE
        gi_wp2_with (first
          | (refine wpListIn_index rfl 125 (.tmp 20) (.tmp 21) rfl (.func (.func 68) #[.agg x.cells] #[]) (by kernel_rfl) ?_)
          | (refine ⟨trivial, ?_⟩; gi_at_call 68; refine (CallsIn.inRound l (callsIn_wide.2 HCl.out)).mono ?_; rintro e w3 ⟨rfl, hb3⟩; have HB3 := Lib.hid hb3; have hq1 := boxed_below HBx2.out hb3; have HQ1 := Lib.hid hq1; have hq2 := hq1.cell; have hq3 := hq1.frozen; clear hb3 hq1))
        exact ⟨(HW.out.2.1.trans (below_keeps HB3.out)).trans keepsFrom_cell, (HW.out.2.2.1.trans (KpB.of_below HB3.out)).trans (KpB.cell (a := ⟨g, 0, none⟩) (by simp only; have := HSz.out; omega) (by simp only; omega)), rfl, by rw [HV.out]; exact HQ1.out.set _, ((HW.out.1.later HB3.out).set HVw.out (by have := HG0.out; omega) _).below⟩
    · obtain rfl : i = 0 := by omega
      simp only [Nat.zero_add, Nat.reduceAdd]
      have ek : ((2 : Nat) : Int) = 2 := rfl
      rw [ek]
      clear ek hi2
      gi_wp2
      refine ⟨HW.out.2.1, HW.out.2.2.1, HBx2.out, HW.out.1, ?_⟩
      rw [List.length_append, List.length_singleton]
      exact HPe.out.2.2 (HW.out.2.2.2.1 (by omega)) (HW.out.2.2.2.2 (by omega))
  case done =>
    rintro D2 ys W hD hys ⟨hb, hw, hpe⟩ hK
    have hl : ys.length = BL.length := by rw [← hys, List.length_map]
    rw [hl, List.drop_length] at hpe
    have HE : Hid (R = 0) := Lib.hid (by rw [HS.out, hpe]; rfl)
    have hc := hb.cell
    have HB := Lib.hid hw.below
    have HW0s : Hid (w.heap.size ≤ D2) := Lib.hid (by omega)
    clear hb hw hpe hl hys
    gi_wp2
    refine noGoto_ret' ?_
    refine ⟨by simp, .inl ⟨_, _, rfl, run_takeDeferred hK, ?_⟩⟩
    exact ⟨_, results_tmp rfl _ _ _, by rw [HE.out]; rfl, HB.out.trans (belowK_b (w := w) (Nat.le_refl _) W D2 _ _ HW0s.out hK rfl rfl)⟩
  case stop =>
    rintro D2 c pre W hD _ ⟨rfl, hb, hB⟩ hK
    have hc := hb.cell
    have HB := Lib.hid hB
    have HW0s : Hid (w.heap.size ≤ D2) := Lib.hid (by omega)
    clear hb hB
    gi_wp2
    refine noGoto_ret' ?_
    refine ⟨by simp, .inl ⟨_, _, rfl, run_takeDeferred hK, ?_⟩⟩
    exact ⟨_, results_tmp rfl _ _ _, rfl, HB.out.trans (belowK_b (w := w) (Nat.le_refl _) W D2 _ _ HW0s.out hK rfl rfl)⟩
theorem check_any (w : World) (v : Wv) (m : Md) (hv : WvOK w v m) (ha : m.al.length ≤ 1000) (hp : m.ps.length ≤ 1000) :
    Calls Try.prog 48 #[.agg v.cells] w fun e w' => e = .returned (.int .i64 m.chk) ∧ Below w.heap.size w w' := by
  by_cases hE : m.headE = 0
  · exact callsIn_wide.1 (check_in w v m hv ha hp hE)
  · exact check_no w v m hv ha hp hE
end Go.Proofs.Ytdffbjjiojheoaa.Wg
