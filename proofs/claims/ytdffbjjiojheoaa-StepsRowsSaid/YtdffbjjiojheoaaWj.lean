import Derived.Test.YtdffbjjiojheoaaWi
namespace Go.Proofs.Ytdffbjjiojheoaa.Wg
set_option maxRecDepth 100000
open Go.ChangeShapes Go.WideShapes Go.ChangeAt Go.RowKit Go.Shelf Go.Proofs.Ytdffbjjiojheoaa.Tn
attribute [local go_sem] Oper.semAt_some

/-! ### Place -/
theorem results_cell2 {P : Program} {fn : Func} {p q : Tmp} {ty tz : TypeId} (h : fn.results = #[.cell p ty, .cell q tz]) (tmps : Array Value) (w : World) (a b : Addr) (u v : Value) (d e : TypeDesc)
    (hp : tmps.getD p undef = .pointer (some a)) (hq : tmps.getD q undef = .pointer (some b)) (ha : w.cell? a = some u) (hb : w.cell? b = some v) (hu : P.underlying ty = some d) (hd : (match d with | .struct _ | .array _ _ => false | _ => true) = true) (hv : P.underlying tz = some e) (he : (match e with | .struct _ | .array _ _ => false | _ => true) = true) :
    (results fn tmps).run P w = .ok (.tuple #[u, v]) w := by
  have hp' : tmps[p]?.getD undef = .pointer (some a) := by simpa using hp
  have hq' : tmps[q]?.getD undef = .pointer (some b) := by simpa using hq
  simp [results, h, hp', hq', asAddr, Bp.run_loadVar1 ty a u ha d hu hd, Bp.run_loadVar1 tz b v hb e hv he]
/-- a part's place -/
def placeV (c : Cfg) (k y r : Int) : Int × Int := if c.chk ≠ 0 then (0, c.chk) else if plcB k y r 1 c.blks < 0 then (0, 10) else (plcB k y r 1 c.blks, 0)
/-- what stands ahead of the loop: the four boxes -/
structure P4 (w : World) (c : Cfg) (k y r : Int) (W : World) : Prop where
  below : Below w.heap.size w W
  cf : W.heap[w.heap.size]? = some (.cells c.cells 31 (0, 0))
  pt : W.heap[w.heap.size + 1]? = some (.cells #[.int .i64 k, .int .i64 y, .int .i64 r] 76 (0, 0))
  r1 : Boxed W (w.heap.size + 2) 3 (.int .i64 0)
  r2 : Boxed W (w.heap.size + 3) 52 (.int .i64 0)
theorem P4.made (w : World) (c : Cfg) (k y r : Int) : P4 w c k y r ((((w.alloc (.cells c.cells 31)).alloc (.cells #[.int .i64 k, .int .i64 y, .int .i64 r] 76)).alloc (.cells #[.int .i64 0] 3)).alloc (.cells #[.int .i64 0] 52)) := by
  refine ⟨((((Below.refl _ w).alloc (Nat.le_refl _) _).alloc (by simp) _).alloc (by simp; omega) _).alloc (by simp; omega) _, ?_, ?_, ?_, ?_⟩
  · rw [heap_alloc_old _ _ (by simp; omega), heap_alloc_old _ _ (by simp; omega), heap_alloc_old _ _ (by simp)]
    exact heap_alloc_new _ _
  · rw [heap_alloc_old _ _ (by simp), heap_alloc_old _ _ (by simp)]
    have := heap_alloc_new (w.alloc (.cells c.cells 31)) (.cells #[.int .i64 k, .int .i64 y, .int .i64 r] 76)
    rwa [World.size_alloc] at this
  · have := (Boxed.new ((w.alloc (.cells c.cells 31)).alloc (.cells #[.int .i64 k, .int .i64 y, .int .i64 r] 76)) 3 (.int .i64 0)).alloc (.cells #[.int .i64 0] 52)
    simpa only [World.size_alloc, Nat.add_assoc, Nat.reduceAdd] using this
  · have := Boxed.new (((w.alloc (.cells c.cells 31)).alloc (.cells #[.int .i64 k, .int .i64 y, .int .i64 r] 76)).alloc (.cells #[.int .i64 0] 3)) 52 (.int .i64 0)
    simpa only [World.size_alloc, Nat.add_assoc, Nat.reduceAdd] using this
theorem P4.later {w W W' : World} {c : Cfg} {k y r : Int} (h : P4 w c k y r W) (hb : Below W.heap.size W W') : P4 w c k y r W' :=
  ⟨h.below.trans (hb.mono h.below.size), (hb.block _ (Array.getElem?_eq_some_iff.1 h.cf).1).trans h.cf, (hb.block _ (Array.getElem?_eq_some_iff.1 h.pt).1).trans h.pt, boxed_below h.r1 hb, boxed_below h.r2 hb⟩
theorem P4.hi {w W : World} {c : Cfg} {k y r : Int} (h : P4 w c k y r W) : w.heap.size + 3 < W.heap.size := h.r2.lt
/-- a place is told -/
theorem P4.put {w W : World} {c : Cfg} {k y r : Int} (h : P4 w c k y r W) (u v : Int) : Boxed ((W.setCell ⟨w.heap.size + 2, 0, none⟩ (.int .i64 u)).setCell ⟨w.heap.size + 3, 0, none⟩ (.int .i64 v)) (w.heap.size + 2) 3 (.int .i64 u) ∧ Boxed ((W.setCell ⟨w.heap.size + 2, 0, none⟩ (.int .i64 u)).setCell ⟨w.heap.size + 3, 0, none⟩ (.int .i64 v)) (w.heap.size + 3) 52 (.int .i64 v) ∧ Below w.heap.size w ((W.setCell ⟨w.heap.size + 2, 0, none⟩ (.int .i64 u)).setCell ⟨w.heap.size + 3, 0, none⟩ (.int .i64 v)) :=
  ⟨(h.r1.set _).other (by omega) _, (h.r2.other (by omega) _).set _, (h.below.setCell (p := ⟨w.heap.size + 2, 0, none⟩) (by simp only; omega) _).setCell (p := ⟨w.heap.size + 3, 0, none⟩) (by simp only; omega) _⟩
set_option maxHeartbeats 8000000 in
theorem place_no (w : World) (c : Cfg) (k y r : Int) (h : c.chk ≠ 0) : Calls Try.prog 28 #[.agg c.cells, .agg #[.int .i64 k, .int .i64 y, .int .i64 r]] w fun e w' => e = .returned (.tuple #[.int .i64 0, .int .i64 c.chk]) ∧ Below w.heap.size w w' := by
  have HC := Lib.hid (fun W => chk_any W c)
  have HP := Lib.hid (P4.made w c k y r)
  unfold Cfg.cells at HC ⊢
  obtain ⟨E, hE⟩ : ∃ E, c.chk = E := ⟨_, rfl⟩
  rw [hE] at HC h ⊢
  have h1 : (E == 0) = false := by simpa using h
  have h2 : (E != 0) = true := by simpa using h
  clear hE h
  go_enter Try.func28, Try.ntmps28
  go_wp2_with fail
  refine (HC.out _).mono ?_
  rintro e w2 ⟨rfl, hb2⟩
  have HP2 := Lib.hid (HP.out.later hb2)
  have f1 := HP2.out.r1.frozen
  have f2 := HP2.out.r2.frozen
  have g1 := HP2.out.r1.cell
  have g2 := HP2.out.r2.cell
  clear hb2 HP HC
  go_wp2
  (try simp only [Exit.inBlock, Exit.then])
  obtain ⟨p1, p2, p3⟩ := HP2.out.put 0 E
  refine bodyPost_ret (v := .tuple #[.int .i64 0, .int .i64 E]) (results_cell2 Try.results28 _ _ ⟨w.heap.size + 2, 0, none⟩ ⟨w.heap.size + 3, 0, none⟩ _ _ _ _ rfl rfl p1.cell p2.cell Try.underlying3 rfl Try.underlying52 rfl) rfl ?_
  exact ⟨rfl, p3⟩
theorem P4.own {w : World} {c : Cfg} {k y r : Int} {n : Nat} {α : Type} (hn : w.heap.size ≤ n) : OwnFrom n (fun (_ : α) W => P4 w c k y r W) := fun _ X Y row hs hg hr =>
  ⟨ownFrom_below (β := Unit) (Nat.le_refl _) hn () X Y row hs.below hg hr, row_own' () X Y row hs.cf hg hr, row_own' () X Y row hs.pt hg hr, row_own' () X Y row hs.r1 hg hr, row_own' () X Y row hs.r2 hg hr⟩
theorem P4.cell {w W : World} {c : Cfg} {k y r : Int} (h : P4 w c k y r W) {g : Nat} (hg : w.heap.size + 4 ≤ g) (v : Value) : P4 w c k y r (W.setCell ⟨g, 0, none⟩ v) := by
  have keep : ∀ j, j ≠ g → (W.setCell ⟨g, 0, none⟩ v).heap[j]? = W.heap[j]? := fun j hj => by simp [World.setCell, Array.getElem?_modify, Ne.symm hj]
  exact ⟨h.below.setCell (p := ⟨g, 0, none⟩) (by simp only; omega) _, (keep _ (by omega)).trans h.cf, (keep _ (by omega)).trans h.pt, h.r1.other (by omega) _, h.r2.other (by omega) _⟩
/-- what stands between two rounds of Place -/
def PlaceI (w : World) (c : Cfg) (k y r : Int) (g : Nat) (BL : List Bl) (pre : List Bk) (W : World) : Prop :=
  Boxed W g 3 (.int .i64 ((1 + rowsB (BL.take pre.length) : Nat) : Int)) ∧ P4 w c k y r W ∧ plcB k y r 1 BL = plcB k y r (1 + rowsB (BL.take pre.length)) (BL.drop pre.length)
theorem placeI_own (w : World) (c : Cfg) (k y r : Int) (g n : Nat) (BL : List Bl) (hn : w.heap.size ≤ n) : OwnFrom n (PlaceI w c k y r g BL) :=
  OwnFrom.and (Own.from (boxed_own _ _ _) _) (OwnFrom.and (P4.own hn) (ownFrom_pure _ _))
/-- .. and behind a round that has found the part -/
def PlaceX (w : World) (p : Int × Int) (c : Code) (_pre : List Bk) (W : World) : Prop := c = .ret ∧ Boxed W (w.heap.size + 2) 3 (.int .i64 p.1) ∧ Boxed W (w.heap.size + 3) 52 (.int .i64 p.2) ∧ Below w.heap.size w W
theorem placeX_own (w : World) (p : Int × Int) (c : Code) (n : Nat) (hn : w.heap.size ≤ n) : OwnFrom n (PlaceX w p c) :=
  OwnFrom.and (ownFrom_pure _ _) (OwnFrom.and (Own.from (boxed_own _ _ _) _) (OwnFrom.and (Own.from (boxed_own _ _ _) _) (ownFrom_below (Nat.le_refl _) hn)))
set_option maxHeartbeats 8000000 in
theorem place_in (w : World) (V D L I : Nat) (ch cx k y r : Int) (h0 : (⟨V, D, ch, L, cx, I⟩ : Cfg).chk = 0) (p : Int × Int) (hp : (if plcB k y r 1 (blks V D L I) < 0 then ((0 : Int), (10 : Int)) else (plcB k y r 1 (blks V D L I), 0)) = p) :
    CallsIn Fence.wide 6 Try.prog 28 #[.agg (Cfg.cells ⟨V, D, ch, L, cx, I⟩), .agg #[.int .i64 k, .int .i64 y, .int .i64 r]] w fun e w' => e = .returned (.tuple #[.int .i64 p.1, .int .i64 p.2]) ∧ Below w.heap.size w w' := by
  have hO := Cfg.ok_of_chk h0
  have hL4 : L ≤ 4 := by have := hO.l.2; simp only at this; omega
  have hrow : rowsB (blks V D L I) ≤ 2900 := Cfg.rows_le hO
  have HC : Hid (∀ W, Calls Try.prog 37 #[.agg #[.int .i64 (V : Int), .int .i64 (D : Int), .int .i64 ch, .int .i64 (L : Int), .int .i64 cx, .int .i64 (I : Int)]] W fun e w' => e = .returned (.int .i64 0) ∧ Below W.heap.size W w') := Lib.hid (fun W => by have := chk_any W ⟨V, D, ch, L, cx, I⟩; rw [h0] at this; exact this)
  have HBk : Hid (∀ W, Calls Try.prog 54 #[.agg #[.int .i64 (V : Int), .int .i64 (D : Int), .int .i64 ch, .int .i64 (L : Int), .int .i64 cx, .int .i64 (I : Int)]] W fun e w' => e = .returned (.func (.func 72) #[] #[.pointer (some ⟨W.heap.size, 0, none⟩)]) ∧ w' = W.alloc (.cells (Cfg.cells ⟨V, D, ch, L, cx, I⟩) 31)) := Lib.hid (fun W => blocks_any W ⟨V, D, ch, L, cx, I⟩)
  have HBt := Lib.hid (fun (bc : Nat) (W : World) (cb : W.heap[bc]? = _) => blocks_tells 5 (by omega) bc V D L I ch cx hL4 W cb)
  obtain ⟨BL, hBL⟩ : ∃ BL, blks V D L I = BL := ⟨_, rfl⟩
  rw [hBL] at hrow HBt hp
  have Hrow := Lib.hid hrow
  have Hp := Lib.hid hp
  have HC0 := Lib.hid (P4.made w ⟨V, D, ch, L, cx, I⟩ k y r)
  clear h0 hO hL4 hBL hrow hp
  unfold Cfg.cells
  refine callsIn_of_wp_marks Try.func28 rfl trivial ?_ rfl
  simp only [Try.ntmps28, List.size_toArray, List.length_cons, List.length_nil, Nat.reduceAdd, Nat.reduceSub, Array.replicate_succ, Array.replicate_zero, List.push_toArray, List.append_toArray, List.nil_append, List.cons_append]
  gi_wp2_with (first
    | (refine ⟨trivial, ?_⟩; gi_at_call 37; refine (callsIn_wide.2 (HC.out _)).mono ?_; rintro e w2 ⟨rfl, hb2⟩; have HC2 := Lib.hid (HC0.out.later hb2); have HC3 := Lib.hid (HC2.out.later ((Below.refl _ _).alloc (Nat.le_refl _) (.cells #[.int .i64 1] 3))); have HC4 := Lib.hid HC3.out.cf; have HC5 := Lib.hid (Boxed.new w2 3 (.int .i64 1)); clear hb2)
    | (refine wpListIn_load_row rfl 31 (.tmp 2) rfl w.heap.size rfl 31 _ (0, 0) _ HC4.out Try.underlying31 rfl size_cfg ?_)
    | (refine ⟨trivial, ?_⟩; gi_at_call 54; refine (callsIn_wide.2 (HBk.out _)).mono ?_; rintro e w' ⟨rfl, rfl⟩))
  have hcb := heap_alloc_new (w2.alloc (.cells #[.int .i64 1] 3)) (.cells (Cfg.cells ⟨V, D, ch, L, cx, I⟩) 31)
  have hba := (Below.refl _ (w2.alloc (.cells #[.int .i64 1] 3))).alloc (Nat.le_refl _) (.cells (Cfg.cells ⟨V, D, ch, L, cx, I⟩) 31)
  have hbw := HC3.out.later hba
  have hbx := boxed_below HC5.out hba
  have hsz : ((w2.alloc (.cells #[.int .i64 1] 3)).alloc (.cells (Cfg.cells ⟨V, D, ch, L, cx, I⟩) 31)).heap.size = w2.heap.size + 2 := by simp
  have hs2 := HC2.out.hi
  rw [World.size_alloc] at hcb
  obtain ⟨W0, hW0⟩ : ∃ W0, (w2.alloc (.cells #[.int .i64 1] 3)).alloc (.cells (Cfg.cells ⟨V, D, ch, L, cx, I⟩) 31) = W0 := ⟨_, rfl⟩
  rw [hW0] at hcb hbw hbx hsz ⊢
  obtain ⟨g, hg⟩ : ∃ g, w2.heap.size = g := ⟨_, rfl⟩
  rw [hg] at hcb hbx hsz hs2 ⊢
  have HHbw := Lib.hid hbw
  clear hW0 hba HC2 HC3 HC4 HC5 HC0 HC HBk hg hbw
  refine wpIn_rangeFunc_tells rfl (by omega) (gf := 72) (lb := #[.pointer (some ⟨g + 1, 0, none⟩)]) rfl trivial (enters_of Try.func72 (by kernel_rfl) rfl)
    (HBt.out (g + 1) W0 hcb) KpB.trans (fun W l o o' h1 h2 h3 h4 => KpB.put W l o o' h2 h3) (Below.refl _ _) (fun _ => rfl)
    (PlaceI w ⟨V, D, ch, L, cx, I⟩ k y r g BL) (PlaceX w p) (placeI_own w _ k y r g _ BL (by omega)) (fun c => placeX_own w p c _ (by omega))
    ⟨by simpa [rowsB] using hbx, HHbw.out, by simp [rowsB]⟩
    (fun pre x a' W => BL[pre.length]? = some x.b ∧ ∃ Bx, BoxB 0 Bx x W ∧ a' = { tmps := #[.agg #[.int .i64 (V : Int), .int .i64 (D : Int), .int .i64 ch, .int .i64 (L : Int), .int .i64 cx, .int .i64 (I : Int)], .agg #[.int .i64 k, .int .i64 y, .int .i64 r], .pointer (some ⟨w.heap.size, 0, none⟩), .pointer (some ⟨w.heap.size + 1, 0, none⟩), .pointer (some ⟨w.heap.size + 2, 0, none⟩), .pointer (some ⟨w.heap.size + 3, 0, none⟩), .int .i64 0, .pointer (some ⟨g, 0, none⟩), .pointer (some ⟨Bx, 0, none⟩), .agg #[.int .i64 (V : Int), .int .i64 (D : Int), .int .i64 ch, .int .i64 (L : Int), .int .i64 cx, .int .i64 (I : Int)], .int .i64 0, .int .i64 0, .bool false, undef, .agg (Cfg.cells ⟨V, D, ch, L, cx, I⟩), .func (.func 72) #[] #[.pointer (some ⟨g + 1, 0, none⟩)], x.val, undef, undef, undef, undef, undef, undef, undef, undef, undef, undef, undef, undef, undef, undef, undef, undef, undef, undef, undef, undef, undef, undef, undef, undef, undef, undef, undef, undef, undef, undef, undef, undef], defers := [] })
    (fun pre x a' s X Y row hs hg hr => ⟨hs.1, hs.2.imp fun Bx h => ⟨BoxB.own () X Y row h.1 hg hr, h.2⟩⟩)
    ?assign ?body ?done ?stop
  case assign =>
    rintro l pre x W K hI hG hK
    have HK := Lib.hid hK
    have HG := Lib.hid hG
    obtain ⟨hb1, hbl1, hpl⟩ := hI
    have HI1 := Lib.hid hb1
    have HI2 := Lib.hid hbl1
    have HI3 := Lib.hid hpl
    have h1 := hG.2.one
    clear hG hK hb1 hbl1 hpl
    obtain ⟨⟨kk, yy, rr, cc⟩, vf, mf⟩ := x
    dsimp only at h1
    obtain ⟨h1, h2⟩ := h1
    dsimp only [Bk.val, Bk.cells, blC]
    gi_wp2_with (refine wpListIn_store_new rfl 117 (.tmp 8) (.tmp 16) rfl #[.int .i64 (kk : Int), .int .i64 (yy : Int), .int .i64 (rr : Int), .int .i64 (cc : Int), vf, mf] zblk 117 rfl rfl rfl size_blk rfl (blC_one _ _ _ _ h1 h2) ?_)
    have hal : Below W.heap.size W (W.alloc (.cells #[.int .i64 (kk : Int), .int .i64 (yy : Int), .int .i64 (rr : Int), .int .i64 (cc : Int), vf, mf] 117)) := (Below.refl _ _).alloc (Nat.le_refl _) _
    exact HK.out _ _ ((KeepsOthers.alloc _ _).from _) (KpB.of_below hal) ⟨boxed_below HI1.out hal, HI2.out.later hal, HI3.out⟩ ⟨HG.out.1, W.heap.size, ⟨Nat.zero_le _, heap_alloc_new _ _⟩, rfl⟩
  case body =>
    rintro l pre x a' W hl _ hI ⟨hx, Bx, hBx, rfl⟩
    have HI := Lib.hid hI
    have HX := Lib.hid hx
    have HBx := Lib.hid hBx
    obtain ⟨hb1, hp4, _⟩ := hI
    have hc := hb1.cell
    have hfz := hb1.frozen
    have q0 : W.cell? ⟨Bx, 0, none⟩ = some (.int .i64 (x.b.k : Int)) := by rw [cell_of_row _ _ _ _ _ _ hBx.2]; rfl
    have q1 : W.cell? ⟨Bx, 1, none⟩ = some (.int .i64 (x.b.y : Int)) := by rw [cell_of_row _ _ _ _ _ _ hBx.2]; rfl
    have q2 : W.cell? ⟨Bx, 2, none⟩ = some (.int .i64 (x.b.r : Int)) := by rw [cell_of_row _ _ _ _ _ _ hBx.2]; rfl
    have p0 : W.cell? ⟨w.heap.size + 1, 0, none⟩ = some (.int .i64 k) := by rw [cell_of_row _ _ _ _ _ _ hp4.pt]; rfl
    have p1 : W.cell? ⟨w.heap.size + 1, 1, none⟩ = some (.int .i64 y) := by rw [cell_of_row _ _ _ _ _ _ hp4.pt]; rfl
    have p2 : W.cell? ⟨w.heap.size + 1, 2, none⟩ = some (.int .i64 r) := by rw [cell_of_row _ _ _ _ _ _ hp4.pt]; rfl
    have f1 := hp4.r1.frozen
    have f2 := hp4.r2.frozen
    have g1 := hp4.r1.cell
    have g2 := hp4.r2.cell
    have hle := rowsB_take_le BL (pre.length + 1)
    have htk : BL.take (pre.length + 1) = BL.take pre.length ++ [x.b] := by rw [List.take_add_one, hx]; rfl
    have hdr : BL.drop pre.length = x.b :: BL.drop (pre.length + 1) := by
      have h1 : pre.length < BL.length := (List.getElem?_eq_some_iff.1 hx).1
      rw [List.drop_eq_getElem_cons h1]
      have h2 := (List.getElem?_eq_some_iff.1 hx).2
      rw [h2]
    rw [htk, rowsB_snoc] at hle
    have HT := Lib.hid htk
    have HDr := Lib.hid hdr
    have hR := Hrow.out
    obtain ⟨R, hRR⟩ : ∃ R, rowsB (BL.take pre.length) = R := ⟨_, rfl⟩
    rw [hRR] at hc hle
    have HR := Lib.hid hRR
    obtain ⟨⟨kk, yy, rr, cc⟩, vf, mf⟩ := x
    dsimp only at q0 q1 q2 hle
    have w1 : wrap64 (1 + (R : Int) + (rr : Int)) = 1 + ((R : Int) + (rr : Int)) := by rw [IntWalk.wrap64_in _ (by omega)]; omega
    have HPl := Lib.hid (show plcB k y r 1 BL = plcB k y r (1 + R) (⟨kk, yy, rr, cc⟩ :: BL.drop (pre.length + 1)) by rw [HI.out.2.2, hRR, hdr])
    clear hx hBx hb1 hp4 htk hdr hRR hR
    by_cases hk : (kk : Int) = k
    · by_cases hy : (yy : Int) = y
      · have n1 : ((kk : Int) == k) = true := by simpa using hk
        have n2 : ((kk : Int) != k) = false := by simpa using hk
        have n3 : ((yy : Int) == y) = true := by simpa using hy
        have n4 : ((yy : Int) != y) = false := by simpa using hy
        by_cases hr0 : r < 0
        · have d1 : decide (r < 0) = true := by simpa using hr0
          have HA := Lib.hid (HPl.out.trans (plcB_no ⟨hk, hy⟩ (Or.inl hr0)))
          have HE : Hid (p = (0, 10)) := Lib.hid (by rw [← Hp.out, HA.out]; rfl)
          clear hk hy hr0 hle
          gi_wp2
          obtain ⟨s1, s2, s3⟩ := HI.out.2.1.put 0 10
          exact ⟨keepsFrom_cell.trans keepsFrom_cell, (KpB.cell (a := ⟨w.heap.size + 2, 0, none⟩) (by simp only; omega) (by simp only; omega)).trans (KpB.cell (a := ⟨w.heap.size + 3, 0, none⟩) (by simp only; omega) (by simp only; omega)), rfl, by rw [HE.out]; exact s1, by rw [HE.out]; exact s2, s3⟩
        · have d1 : decide (r < 0) = false := by simpa using hr0
          by_cases hr1 : (rr : Int) ≤ r
          · have d2 : decide ((rr : Int) ≤ r) = true := by simpa using hr1
            have HA := Lib.hid (HPl.out.trans (plcB_no ⟨hk, hy⟩ (Or.inr hr1)))
            have HE : Hid (p = (0, 10)) := Lib.hid (by rw [← Hp.out, HA.out]; rfl)
            clear hk hy hr0 hr1 hle
            gi_wp2
            obtain ⟨s1, s2, s3⟩ := HI.out.2.1.put 0 10
            exact ⟨keepsFrom_cell.trans keepsFrom_cell, (KpB.cell (a := ⟨w.heap.size + 2, 0, none⟩) (by simp only; omega) (by simp only; omega)).trans (KpB.cell (a := ⟨w.heap.size + 3, 0, none⟩) (by simp only; omega) (by simp only; omega)), rfl, by rw [HE.out]; exact s1, by rw [HE.out]; exact s2, s3⟩
          · have d2 : decide ((rr : Int) ≤ r) = false := by simpa using hr1
            have HA := Lib.hid (HPl.out.trans (plcB_yes ⟨hk, hy⟩ (show ¬ (r < 0 ∨ (rr : Int) ≤ r) by omega)))
            have hR := Hrow.out
            have w2 : wrap64 (1 + (R : Int) + r) = 1 + ((R : Int) + r) := by rw [IntWalk.wrap64_in _ (by omega)]; omega
            have HE : Hid (p = (1 + ((R : Int) + r), 0)) := Lib.hid (by rw [← Hp.out, HA.out, if_neg (by omega)]; congr 1; omega)
            clear hk hy hr0 hr1 hle hR
            gi_wp2
            obtain ⟨s1, s2, s3⟩ := HI.out.2.1.put (1 + ((R : Int) + r)) 0
            exact ⟨keepsFrom_cell.trans keepsFrom_cell, (KpB.cell (a := ⟨w.heap.size + 2, 0, none⟩) (by simp only; omega) (by simp only; omega)).trans (KpB.cell (a := ⟨w.heap.size + 3, 0, none⟩) (by simp only; omega) (by simp only; omega)), rfl, by rw [HE.out]; exact s1, by rw [HE.out]; exact s2, s3⟩
      · have n1 : ((kk : Int) == k) = true := by simpa using hk
        have n2 : ((kk : Int) != k) = false := by simpa using hk
        have n3 : ((yy : Int) == y) = false := by simpa using hy
        have n4 : ((yy : Int) != y) = true := by simpa using hy
        have HA := Lib.hid (HPl.out.trans (plcB_step (show ¬ (((kk : Nat) : Int) = k ∧ ((yy : Nat) : Int) = y) from fun h => hy h.2)))
        clear hk hy hle
        gi_wp2
        refine ⟨keepsFrom_cell, KpB.cell (a := ⟨g, 0, none⟩) (by simp only; omega) (by simp only; omega), ?_, HI.out.2.1.cell (by omega) _, ?_⟩
        · rw [List.length_append, List.length_singleton, HT.out, rowsB_snoc, HR.out, show ((1 + (R + rr) : Nat) : Int) = 1 + ((R : Int) + (rr : Int)) by omega]
          exact HI.out.1.set _
        · rw [List.length_append, List.length_singleton, HT.out, rowsB_snoc, HR.out, HA.out, Nat.add_assoc]
    · have n1 : ((kk : Int) == k) = false := by simpa using hk
      have n2 : ((kk : Int) != k) = true := by simpa using hk
      have HA := Lib.hid (HPl.out.trans (plcB_step (show ¬ (((kk : Nat) : Int) = k ∧ ((yy : Nat) : Int) = y) from fun h => hk h.1)))
      clear hk hle
      gi_wp2
      refine ⟨keepsFrom_cell, KpB.cell (a := ⟨g, 0, none⟩) (by simp only; omega) (by simp only; omega), ?_, HI.out.2.1.cell (by omega) _, ?_⟩
      · rw [List.length_append, List.length_singleton, HT.out, rowsB_snoc, HR.out, show ((1 + (R + rr) : Nat) : Int) = 1 + ((R : Int) + (rr : Int)) by omega]
        exact HI.out.1.set _
      · rw [List.length_append, List.length_singleton, HT.out, rowsB_snoc, HR.out, HA.out, Nat.add_assoc]
  case done =>
    rintro D ys W hD hys ⟨_, hp4, hpl⟩ hK
    have hl : ys.length = BL.length := by rw [← hys, List.length_map]
    rw [hl, List.drop_length] at hpl
    have HE : Hid (p = (0, 10)) := Lib.hid (by rw [← Hp.out, hpl]; rfl)
    have HP4 := Lib.hid hp4
    have f1 := hp4.r1.frozen
    have f2 := hp4.r2.frozen
    have g1 := hp4.r1.cell
    have g2 := hp4.r2.cell
    have hDD : w.heap.size + 3 < D := by omega
    clear hp4 hpl hl hys
    gi_wp2
    obtain ⟨s1, s2, s3⟩ := HP4.out.put 0 10
    have hK2 := ((KeepsOthers.setCell W ⟨w.heap.size + 2, 0, none⟩ (.int .i64 0)).trans (KeepsOthers.setCell _ ⟨w.heap.size + 3, 0, none⟩ (.int .i64 10))).same D _ hK rfl
    refine ⟨by simp, .inl ⟨_, _, rfl, run_takeDeferred hK2, ?_⟩⟩
    rw [HE.out]
    exact ⟨_, results_cell2 Try.results28 _ _ ⟨w.heap.size + 2, 0, none⟩ ⟨w.heap.size + 3, 0, none⟩ _ _ _ _ rfl rfl (cell_kept s1.cell (grownBy_putObj' _ D (.deferred none)) (fun r e => by cases e; exact ⟨_, hK2, rfl⟩)) (cell_kept s2.cell (grownBy_putObj' _ D (.deferred none)) (fun r e => by cases e; exact ⟨_, hK2, rfl⟩)) Try.underlying3 rfl Try.underlying52 rfl, rfl, s3.trans (belowK_b (w := w) (Nat.le_refl _) _ D _ _ (by omega) hK2 rfl rfl)⟩
  case stop =>
    rintro D c pre W hD _ ⟨rfl, s1, s2, s3⟩ hK
    gi_wp2
    refine ⟨by simp, .inl ⟨_, _, rfl, run_takeDeferred hK, ?_⟩⟩
    exact ⟨_, results_cell2 Try.results28 _ _ ⟨w.heap.size + 2, 0, none⟩ ⟨w.heap.size + 3, 0, none⟩ _ _ _ _ rfl rfl (cell_kept s1.cell (grownBy_putObj' _ D (.deferred none)) (fun r e => by cases e; exact ⟨_, hK, rfl⟩)) (cell_kept s2.cell (grownBy_putObj' _ D (.deferred none)) (fun r e => by cases e; exact ⟨_, hK, rfl⟩)) Try.underlying3 rfl Try.underlying52 rfl, rfl, s3.trans (belowK_b (w := w) (Nat.le_refl _) W D _ _ (by omega) hK rfl rfl)⟩
theorem place_any (w : World) (c : Cfg) (k y r : Int) : Calls Try.prog 28 #[.agg c.cells, .agg #[.int .i64 k, .int .i64 y, .int .i64 r]] w fun e w' => e = .returned (.tuple #[.int .i64 (placeV c k y r).1, .int .i64 (placeV c k y r).2]) ∧ Below w.heap.size w w' := by
  unfold placeV
  by_cases h : c.chk = 0
  · rw [if_neg (by omega)]
    obtain ⟨V, D, ch, L, cx, I⟩ := c
    have hO := Cfg.ok_of_chk h
    obtain ⟨V, rfl⟩ : ∃ n : Nat, V = n := Int.eq_ofNat_of_zero_le (by have := hO.v.1; simp only at this; omega)
    obtain ⟨D, rfl⟩ : ∃ n : Nat, D = n := Int.eq_ofNat_of_zero_le (by have := hO.d.1; simp only at this; omega)
    obtain ⟨L, rfl⟩ : ∃ n : Nat, L = n := Int.eq_ofNat_of_zero_le (by have := hO.l.1; simp only at this; omega)
    obtain ⟨I, rfl⟩ : ∃ n : Nat, I = n := Int.eq_ofNat_of_zero_le (by have := hO.i.1; simp only at this; omega)
    exact callsIn_wide.1 (place_in w V D L I ch cx k y r h _ rfl)
  · rw [if_pos h]
    exact place_no w c k y r h
end Go.Proofs.Ytdffbjjiojheoaa.Wg
