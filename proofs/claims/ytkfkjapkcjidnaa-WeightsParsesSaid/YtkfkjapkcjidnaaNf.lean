import Derived.Test.YtkfkjapkcjidnaaNe
namespace Go.Proofs.Ytkfkjapkcjidnaa.Wg
set_option maxRecDepth 100000
open Go.ChangeShapes Go.WideShapes Go.ChangeAt Go.RowKit Go.Shelf Go.Proofs.Ytkfkjapkcjidnaa.Tn
attribute [local go_sem] Oper.semAt_some

/-! ### Leaves of a model -/
theorem wpIn_region_spec {P : Program} {C : World → Prop} {Le : World → World → Prop} {id lp mm : Nat} {Q : Exit → Act → World → Prop} {a0 : Act} {w : World} {l : List Oper} (n : Nat) (Φ : (Nat → Value) → Nat → World → Value → Prop) (hm : P.follows .mixedOrders = true) (hd : noDefer l.toArray = true) (hl : ¬ LetsOut Q) (hB : specB l.toArray n = true) (hC : C { w with drawn := w.drawn + 1 }) (hU : ∀ (u u' : Nat → Value) (j : Nat) w v, (∀ oj, l.toArray[j]? = some oj → ∀ e ∈ oj.after, Region.binds .any e = true → u e.on = u' e.on) → Φ u j w v → Φ u' j w v) (hLe : ∀ u j w w' v, Le w w' → Φ u j w v → Φ u j w' v) (Ψ : Nat → Value → Prop) (hΨ : ∀ u j w v, Φ u j w v → Ψ j v) (u0 : Nat → Value) (hu0 : ∀ j, Ψ j (u0 j))
    (h : ∀ u, (∀ j, Ψ j (u j)) → specAll P l.toArray C (fun _ _ => True) (fun _ => Le) Φ u (l.take n) 0 a0) (hend : ∀ u w, (∀ j, Ψ j (u j)) → C w → (∀ j, j < n → Φ u j w (u j)) → wpList P l.toArray Q (l.drop n) (putAll u (l.take n) 0 a0) w) : (Code.region id l.toArray true).wpIn (Fence.wide.inRound lp) mm P Q a0 w :=
  wpIn_region_any hm (anyIn_of_any hd hl _ _ _ _ (any_spec (Le := fun _ => Le) (Pre := fun _ _ => True) n Φ hB hC hU (fun u j _ w w' v _ => hLe u j w w' v) (fun _ _ _ _ _ _ h => h) (fun _ => trivial) Ψ hΨ u0 hu0 h hend))
theorem exec_load_row {P : Program} {a : Act} {o : Oper} {W : World} (ty : TypeId) (x : Operand) (ho : o.op = .load ty x) (g : Nat) (hx : a.eval x = .pointer (some ⟨g, 0, none⟩)) (t : TypeId) (cs : Array Value) (fr : Nat × Nat) (d : TypeDesc) (hg : W.heap[g]? = some (.cells cs t fr))
    (hu : P.underlying ty = some d) (hd : (match d with | .struct _ | .array _ _ => true | _ => false) = true) (hi : (P.info? ty).map (·.size) = some cs.size) : (execOp a.eval o).run P W = .ok (.value (.agg cs)) W := by
  unfold execOp
  simp only [ho, hx, Instr.loadAt, Instr.sureAddr, Sem.run_bind, Sem.run_pure, Result.andThen_ok, run_loadVar_row W g t ty cs fr d hg hu hd hi]
theorem exec_call2 {P : Program} {a : Act} {o : Oper} {W : World} (f : FuncId) (x y : Operand) (ats : Array TypeId) (u v : Value) (ho : o.op = .call { callee := .value (.func f), args := #[x, y], argTypes := ats }) (hx : a.eval x = u) (hy : a.eval y = v)
    (hf : (callFunc f #[u, v]).run P W = .ok (.enter f #[u, v]) W) : (execOp a.eval o).run P W = .ok (.enter f #[u, v]) W :=
  exec_call f #[x, y] ats #[u, v] ho (by simp [hx, hy]) hf
theorem run_bf3 (g : Nat) (W : World) : (Instr.fieldAt 95 (.pointer (some ⟨g, 0, none⟩)) 3).run Try.prog W = .ok (.pointer (some ⟨g, 3, none⟩)) W := by kernel_rfl
section
variable {a : Act} {o : Oper} {W : World}
theorem exec_bf3 (x : Operand) (ho : o.op = .fieldAddr 95 x 3) (g : Nat) (hx : a.eval x = .pointer (some ⟨g, 0, none⟩)) : (execOp a.eval o).run Try.prog W = .ok (.value (.pointer (some ⟨g, 3, none⟩))) W := by
  unfold execOp
  simp only [ho, hx, Sem.run_bind, run_bf3, Result.andThen_ok, Sem.run_pure]
theorem exec_nilA (x : Operand) (ho : o.op = .nilCheck x) (A : Addr) (hx : a.eval x = .pointer (some A)) : (execOp a.eval o).run Try.prog W = .ok (.value (.pointer (some A))) W := by
  unfold execOp
  simp only [ho, hx, Sem.run_pure]
theorem exec_slice1 (x0 : Operand) (ho : o.op = .buildSlice 39 1 #[(0, x0)]) (s0 : Option Addr) (n0 c0 : Nat) (h0 : a.eval x0 = .slice s0 n0 c0) :
    (execOp a.eval o).run Try.prog W = .ok (.value (.slice (some ⟨W.heap.size, 0, none⟩) 1 1)) (W.alloc (.cells #[.slice s0 n0 c0] 24)) := by
  obtain ⟨i0, hi, hz0, hz1, hz2⟩ := info_parts info39
  unfold execOp
  have hr := run_buildSlice (P := Try.prog) W 39 24 1 #[(0, .slice s0 n0 c0)] #[.slice s0 n0 c0] i0 _ Try.underlying39 hi hz0 (by rw [hz1]; decide) (by rw [hz1]; decide) (by rw [hz1]; kernel_rfl)
  have e : (#[((0 : Nat), x0)].map fun (i, x) => (i, a.eval x)) = #[(0, .slice s0 n0 c0)] := by simp [h0]
  simp only [ho, e, Sem.run_bind, hr, Result.andThen_ok, Sem.run_pure]
end
theorem keep_boxes {bn bi : Nat} {W W' : World} {tn ti : TypeId} {vn vi : Value} (h1 : Boxed W bn tn vn) (h2 : Boxed W bi ti vi) (k1 : Boxed W' bn tn vn) (k2 : Boxed W' bi ti vi) : KeepAt bn bi W W' := fun b u hb hc => by
  rcases hb with rfl | rfl
  · rw [h1.cell] at hc; cases hc; exact k1.cell
  · rw [h2.cell] at hc; cases hc; exact k2.cell
theorem sl_row {W : World} {sp : Option Addr} {cap : Nat} {xs : List Value} (h : Cd.Sl W sp cap xs) (C : Nat) (hC1 : 1 ≤ C) (hC : C ≤ xs.length) : Cd.Sl W sp C (xs.take C) := by
  have h1 := h.le
  have h2 := h.max
  refine ⟨by simp; omega, by omega, fun e => by have := h.nul e; omega, fun _ => ?_⟩
  obtain ⟨c, o, e, hl⟩ := h.lies (by omega)
  refine ⟨c, o, e, fun i v hv => hl i v ?_⟩
  rw [List.getElem?_take] at hv
  split at hv
  · exact hv
  · cases hv
/-- a row of numbers that read -/
theorem nums_row {W : World} {sp : Option Addr} {cap : Nat} {l : List Int} (h : Nums W sp cap l) (C q : Nat) (hC : 1 ≤ C) (hq : q * C + C ≤ l.length) : Cd.Nums W (cutA sp cap (q * C)) C ((l.drop (q * C)).take C) := by
  have h1 := sl_row ((cdSl h).cut (q * C) (by rw [List.length_map]; omega)) C hC (by rw [List.length_drop, List.length_map]; omega)
  rw [← List.map_drop, ← List.map_take] at h1
  exact h1
/-- a part's numbers lie where the caller's do -/
theorem numbers_old {w W : World} {v : Wv} {m : Md} (hv : WvOK w v m) (h : Hw w v m W) {b : Bl} (hb : b.k = 1 ∨ b.k = 11 ∨ b.k = 12 ∨ (b.y < v.nl ∧ 2 ≤ b.k ∧ b.k ≤ 10)) :
    ∃ sp cap, W.cell? (addrN v w.heap.size b) = some (.slice sp (m.part b.k b.y).l.length cap) ∧ Nums w sp cap (m.part b.k b.y).l := by
  obtain ⟨k, y, r, c⟩ := b
  dsimp only at hb ⊢
  unfold addrN addrP Md.part
  dsimp only
  rcases hb with rfl | rfl | rfl | ⟨hy, h2, h3⟩
  · exact ⟨v.se, v.ce, by rw [if_neg (by decide), if_pos rfl, if_pos rfl, ← hv.ne]; exact h.md.cell 10, hv.em⟩
  · exact ⟨v.sn, v.cn, by rw [if_pos (by decide), if_neg (by decide), if_pos rfl, if_neg (by decide), if_pos rfl, ← hv.nn]; exact h.md.cell 12, hv.nm⟩
  · exact ⟨v.so, v.co, by rw [if_neg (by decide), if_neg (by decide), if_neg (by decide), if_pos rfl, if_neg (by decide), if_neg (by decide), if_pos rfl, ← hv.no]; exact h.md.cell 15, hv.ou⟩
  · obtain ⟨b', o', e, hp⟩ := hv.ls (by omega)
    have hp1 := hp y k hy h2 h3
    rw [if_neg (show ¬ k = 1 by omega), if_neg (show ¬ k = 11 by omega), if_neg (show ¬ k = 12 by omega), if_neg (show ¬ k = 1 by omega), if_neg (show ¬ k = 11 by omega), if_neg (show ¬ k = 12 by omega), e]
    unfold PartAt at hp1
    cases hk : isVec k with
    | true =>
      rw [if_pos hk] at hp1
      obtain ⟨sp, cap, h4, h5⟩ := hp1
      exact ⟨sp, cap, (h.below.cell (block_lt_of_cell h4)).trans h4, h5⟩
    | false =>
      rw [if_neg (by rw [hk]; decide)] at hp1
      obtain ⟨_, _, sp, cap, h4, h5⟩ := hp1
      exact ⟨sp, cap, (h.below.cell (block_lt_of_cell h4)).trans h4, h5⟩
theorem part_rows {b : Bl} {p : Mt} (h1 : isVec b.k = true → b.r = 1) (hs : szB b p = 0) (hn : nmB b p = 0) : b.r ≤ 512 := by
  unfold szB at hs
  unfold nmB at hn
  cases hk : isVec b.k with
  | true => rw [h1 hk]; omega
  | false =>
    rw [hk, if_neg (by decide)] at hs hn
    have hrc : p.r = b.r ∧ p.c = b.c := by
      by_cases h : p.r = b.r ∧ p.c = b.c
      · exact h
      · rw [if_neg h] at hs; cases hs
    have hz : sizeM p.r p.c p.l.length := by
      by_cases h : sizeM p.r p.c p.l.length
      · exact h
      · rw [chkM_size h] at hn; cases hn
    obtain ⟨a1, a2, a3, a4, a5⟩ := hz
    omega
theorem LvR.snoc {base : Nat} {v : Value} {ls : List (List Int)} {l : List Int} {W : World} (h : LvR base v (ls ++ [l]) W) : ∃ b n c, v = .slice (some ⟨b, 0, none⟩) n c := by
  obtain ⟨vs, h1, _⟩ := h
  rw [List.length_append, List.length_singleton] at h1
  obtain ⟨b, c, e⟩ := ownsRow_succ h1
  exact ⟨b, _, c, e⟩
theorem LvR.putd {base D : Nat} {v : Value} {ls : List (List Int)} {W : World} {o o' : Obj} (h : LvR base v ls W) (ho : W.heap[D]? = some o) (hc : o.isCells = false) : LvR base v ls (W.putObj D o') :=
  LvR.own (B := 0) (f := fun _ : Unit => ls) () W _ _ h (grownBy_putObj' W D o') (fun r e => by cases e; exact ⟨Nat.zero_le _, o, ho, hc⟩)
def headL (m : Md) (l : List Bl) : List (List Int) := headB m.cfg m.al m.ps :: l.flatMap fun b => leavesB b (m.part b.k b.y)
set_option maxHeartbeats 8000000 in
theorem leaves_in (w : World) (v : Wv) (m : Md) (hv : WvOK w v m) (ha : m.al.length ≤ 1000) (hp : m.ps.length ≤ 400) (hE : m.chk = 0) :
    CallsIn Fence.wide 6 Try.prog 18 #[.agg v.cells] w fun e w' => ∃ val base, e = .returned (.tuple #[val, .int .i64 0]) ∧ LvR base val (leavesD m) w' ∧ w.heap.size < base ∧ Below w.heap.size w w' := by
  obtain ⟨hH, hPz⟩ := chk_zero hE
  obtain ⟨hck, _, _, hnl⟩ := headE_zero hH
  have hO := Cfg.ok_of_chk hck
  have HC := Lib.hid (fun W (h : Hw w v m W) => check_any W v m (hv.later h.below) ha (by omega))
  rw [hE] at HC
  have HEh := Lib.hid (fun W (h : Hw w v m W) => encodeHead_any W v m (hv.later h.below) ha hp)
  have HVw := Lib.hid hv
  have HAll := Lib.hid (partsE_all hPz)
  obtain ⟨V, D, ch, L, cx, I, hcf⟩ : ∃ (V D : Nat) (ch : Int) (L : Nat) (cx : Int) (I : Nat), m.cfg = ⟨V, D, ch, L, cx, I⟩ := by
    obtain ⟨h1, h2, h3, h4, h5, h6⟩ := hO
    obtain ⟨a, ha⟩ := Int.eq_ofNat_of_zero_le (show 0 ≤ m.cfg.v by omega)
    obtain ⟨b, hb⟩ := Int.eq_ofNat_of_zero_le (show 0 ≤ m.cfg.d by omega)
    obtain ⟨c, hc⟩ := Int.eq_ofNat_of_zero_le (show 0 ≤ m.cfg.l by omega)
    obtain ⟨d, hd⟩ := Int.eq_ofNat_of_zero_le (show 0 ≤ m.cfg.i by omega)
    refine ⟨a, b, m.cfg.h, c, m.cfg.x, d, ?_⟩
    rw [← ha, ← hb, ← hc, ← hd]
  have hvc : v.c = ⟨V, D, ch, L, cx, I⟩ := hv.c.trans hcf
  have hvn : v.nl = L := by have h1 := hv.nl; rw [hcf] at hnl; simp only at hnl; omega
  rw [hcf] at hO
  have hL4 : L ≤ 4 := by have := hO.l.2; simp only at this; omega
  have hD64 : D ≤ 64 := by have := hO.d.2; simp only at this; omega
  have hI64 : I ≤ 64 := by have := hO.i.2; simp only at this; omega
  have HOk : Hid (∀ b, b ∈ blks V D L I → OkB v b) := Lib.hid (fun b hb => blks_ok hD64 hI64 (by omega) hb)
  have HN4 : Hid (v.nl ≤ 4) := Lib.hid (by omega)
  have HVc := Lib.hid hvc
  have hbl : m.cfg.blks = blks V D L I := by rw [hcf]; rfl
  rw [hbl] at HAll
  have HLd : Hid (leavesD m = headL m (blks V D L I)) := Lib.hid (by unfold leavesD headL; rw [hbl])
  have HBk : Hid (∀ W, Calls Try.prog 37 #[.agg #[.int .i64 (V : Int), .int .i64 (D : Int), .int .i64 ch, .int .i64 (L : Int), .int .i64 cx, .int .i64 (I : Int)]] W fun e w' => e = .returned (.func (.func 56) #[] #[.pointer (some ⟨W.heap.size, 0, none⟩)]) ∧ w' = W.alloc (.cells (Cfg.cells ⟨V, D, ch, L, cx, I⟩) 23)) := Lib.hid (fun W => blocks_any W ⟨V, D, ch, L, cx, I⟩)
  have HBt := Lib.hid (fun (bc : Nat) (W : World) (cb : W.heap[bc]? = _) => blocks_tells 5 (by omega) bc V D L I ch cx hL4 W cb)
  obtain ⟨BL, hBL⟩ : ∃ BL, blks V D L I = BL := ⟨_, rfl⟩
  rw [hBL] at HBt HOk HAll HLd
  have HC0 := Lib.hid (Hw.made hv)
  have HBLn : Hid (BL.length ≤ 60) := Lib.hid (by rw [← hBL, blks_length]; omega)
  clear hck hO hL4 hD64 hI64 hBL hv ha hp hE hnl hcf hvc hvn hbl hH hPz
  unfold Wv.cells at HC HEh ⊢
  refine callsIn_of_wp_marks Try.func18 rfl trivial ?_ rfl
  simp only [Try.ntmps18, List.size_toArray, List.length_cons, List.length_nil, Nat.reduceAdd, Nat.reduceSub, Array.replicate_succ, Array.replicate_zero, List.push_toArray, List.append_toArray, List.nil_append, List.cons_append]
  gi_wp2_with (first
    | (refine wpListIn_load_row rfl 31 (.tmp 1) rfl w.heap.size rfl 31 v.cells (0, 0) _ HC0.out.md.row Try.underlying31 rfl size_wts ?_)
    | (refine ⟨trivial, ?_⟩; gi_at_call 34; refine (callsIn_wide.2 (HC.out _ HC0.out)).mono ?_; rintro e w2 ⟨rfl, hb2⟩; have HC2 := Lib.hid (HC0.out.later hb2); clear hb2)
    | (refine wpListIn_load_row rfl 31 (.tmp 1) rfl w.heap.size rfl 31 v.cells (0, 0) _ HC2.out.md.row Try.underlying31 rfl size_wts ?_)
    | (refine ⟨trivial, ?_⟩; gi_at_call 39; refine (callsIn_wide.2 (HEh.out _ HC2.out)).mono ?_; rintro e w3 ⟨sph, caph, rfl, hbh, hb3⟩; have HC3 := Lib.hid (HC2.out.later hb3); have HH := Lib.hid hbh; have hal := ((Below.refl _ w3).alloc (Nat.le_refl _) (.cells #[.slice sph (headB m.cfg m.al m.ps).length caph] 24)).alloc (by simp) (.cells #[.slice (some ⟨w3.heap.size, 0, none⟩) 1 1] 39); obtain ⟨c0, c1, c2, c3, c4, c5⟩ := (HC3.out.later hal).md.cfg; rw [HVc.out] at c0 c1 c2 c3 c4 c5; dsimp only at c0 c1 c2 c3 c4 c5; clear hb3 hbh)
    | (refine ⟨trivial, ?_⟩; gi_at_call 37; refine (callsIn_wide.2 (HBk.out _)).mono ?_; rintro e w' ⟨rfl, rfl⟩))
  have hlv := LvR.new w3 _ _ (PcT.old HH.out)
  have hg0 := HC3.out.hi
  have hlvb := hlv.later ((Below.refl _ _).alloc (Nat.le_refl _) (.cells #[.slice (some ⟨w3.heap.size, 0, none⟩) 1 1] 39))
  have hbx := Boxed.new (w3.alloc (.cells #[.slice sph (headB m.cfg m.al m.ps).length caph] 24)) 39 (.slice (some ⟨w3.heap.size, 0, none⟩) 1 1)
  have hHw := HC3.out.later hal
  have hsz : ((w3.alloc (.cells #[.slice sph (headB m.cfg m.al m.ps).length caph] 24)).alloc (.cells #[.slice (some ⟨w3.heap.size, 0, none⟩) 1 1] 39)).heap.size = w3.heap.size + 2 := by simp
  simp only [World.size_alloc] at hbx
  obtain ⟨W1, hW1⟩ : ∃ W1, (w3.alloc (.cells #[.slice sph (headB m.cfg m.al m.ps).length caph] 24)).alloc (.cells #[.slice (some ⟨w3.heap.size, 0, none⟩) 1 1] 39) = W1 := ⟨_, rfl⟩
  obtain ⟨g, hg⟩ : ∃ g, w3.heap.size = g := ⟨_, rfl⟩
  rw [hg] at hW1 hlvb hbx hsz hg0 hHw c0 c1 c2 c3 c4 c5 ⊢
  rw [hW1] at hlvb hbx hsz hHw c0 c1 c2 c3 c4 c5 ⊢
  have hba := (Below.refl _ W1).alloc (Nat.le_refl _) (.cells (Cfg.cells ⟨V, D, ch, L, cx, I⟩) 23)
  have hS : LvS w v m g (headL m []) (W1.alloc (.cells (Cfg.cells ⟨V, D, ch, L, cx, I⟩) 23)) := LvS.later ⟨_, hbx, LvR.isSl hlvb, hlvb, hHw⟩ hba
  have hcb := heap_alloc_new W1 (.cells (Cfg.cells ⟨V, D, ch, L, cx, I⟩) 23)
  have hsz0 : (W1.alloc (.cells (Cfg.cells ⟨V, D, ch, L, cx, I⟩) 23)).heap.size = g + 3 := by simp [hsz]
  rw [hsz] at hcb
  simp only [Nat.add_assoc, Nat.reduceAdd]
  obtain ⟨W0, hW0⟩ : ∃ W0, W1.alloc (.cells (Cfg.cells ⟨V, D, ch, L, cx, I⟩) 23) = W0 := ⟨_, rfl⟩
  rw [hW0] at hcb hS hsz0 ⊢
  have HS := Lib.hid hS
  clear hW0 hW1 hba hal hlv hlvb hbx hHw HC3 HH HC2 HC0 HC HEh HBk c0 c1 c2 c3 c4 c5 hsz hg hS
  refine wpIn_rangeFunc_tells rfl (by omega) (gf := 56) (lb := #[.pointer (some ⟨g + 2, 0, none⟩)]) rfl trivial (enters_of Try.func56 (by kernel_rfl) rfl)
    (HBt.out (g + 2) W0 hcb) KpB.trans (fun W l o o' h1 h2 h3 h4 => KpB.put W l o o' h2 h3) (Below.refl _ _) (fun _ => rfl)
    (fun pre W => LvS w v m g (headL m (pre.map (·.b))) W ∧ (headL m (pre.map (·.b))).length ≤ 1 + pre.length * 512) (fun _ _ _ => False) (OwnFrom.and (LvS.own (by omega)) (ownFrom_pure _ _)) (fun _ _ _ _ _ hs _ _ => hs)
    ⟨HS.out, by simp [headL]⟩
    (fun pre x a' W => (BL[pre.length]? = some x.b ∧ FnOK W0.heap.size W x) ∧ ∃ Bx, BoxB 0 Bx x W ∧ g + 1 < Bx ∧ a' = { tmps := #[.agg #[.int .i64 v.c.v, .int .i64 v.c.d, .int .i64 v.c.h, .int .i64 v.c.l, .int .i64 v.c.x, .int .i64 v.c.i, .slice v.sa v.na v.ca, .slice v.sp v.np v.cp, .int .i64 v.er, .int .i64 v.ec, .slice v.se v.ne v.ce, .slice v.sl v.nl v.cl, .slice v.sn v.nn v.cn, .int .i64 v.xr, .int .i64 v.xc, .slice v.so v.no v.co], .pointer (some ⟨w.heap.size, 0, none⟩), .slice none 0 0, .int .i64 0, .int .i64 0, .pointer (some ⟨g + 1, 0, none⟩), .pointer (some ⟨Bx, 0, none⟩), undef, .agg v.cells, .int .i64 0, .int .i64 0, .bool false, undef, .agg v.cells, .slice sph (headB m.cfg m.al m.ps).length caph, .slice (some ⟨g, 0, none⟩) 1 1, .pointer (some ⟨w.heap.size, 0, none⟩), .agg #[.int .i64 (V : Int), .int .i64 (D : Int), .int .i64 ch, .int .i64 (L : Int), .int .i64 cx, .int .i64 (I : Int)], .func (.func 56) #[] #[.pointer (some ⟨g + 2, 0, none⟩)], x.val, undef, undef, undef, undef, undef, undef, undef, undef, undef, undef, undef, undef, undef, undef], defers := [] })
    (fun pre x a' s X Y row hs hg hr => ⟨⟨hs.1.1, FnOK.own () X Y row hs.1.2 hg hr⟩, hs.2.imp fun Bx h => ⟨BoxB.own () X Y row h.1 hg hr, h.2⟩⟩)
    ?assign ?body ?done ?stop
  case assign =>
    rintro l pre x W K hI hG hK
    have HK := Lib.hid hK
    have HG := Lib.hid hG
    have HI := Lib.hid hI
    have h1 := hG.2.one
    clear hG hK hI
    obtain ⟨⟨kk, yy, rr, cc⟩, vf, mf⟩ := x
    dsimp only at h1
    obtain ⟨h1, h2⟩ := h1
    dsimp only [Bk.val, Bk.cells, blC]
    gi_wp2_with (refine wpListIn_store_new rfl 95 (.tmp 6) (.tmp 19) rfl #[.int .i64 (kk : Int), .int .i64 (yy : Int), .int .i64 (rr : Int), .int .i64 (cc : Int), vf, mf] zblk 95 rfl rfl rfl size_blk rfl (blC_one _ _ _ _ h1 h2) ?_)
    have hal : Below W.heap.size W (W.alloc (.cells #[.int .i64 (kk : Int), .int .i64 (yy : Int), .int .i64 (rr : Int), .int .i64 (cc : Int), vf, mf] 95)) := (Below.refl _ _).alloc (Nat.le_refl _) _
    exact HK.out _ _ ((KeepsOthers.alloc _ _).from _) (KpB.of_below hal) ⟨HI.out.1.later hal, HI.out.2⟩ ⟨⟨HG.out.1, HG.out.2.later hal⟩, W.heap.size, ⟨Nat.zero_le _, heap_alloc_new _ _⟩, by obtain ⟨⟨_, hq, _⟩, _⟩ := HI.out; exact hq.lt, rfl⟩
  case body =>
    rintro l pre x a' W hl hlr hI ⟨⟨hx, hfn⟩, Bx, hBx, hgx, rfl⟩
    obtain ⟨r0, hr0⟩ := hlr
    have hmem := List.mem_of_getElem? hx
    have hOb := HOk.out x.b hmem
    have hz := HAll.out x.b hmem
    obtain ⟨hmany, hc1, hrc⟩ := part_many hOb.one hz.1 hz.2
    have hc64 := hOb.cols
    have hR512 := part_rows hOb.one hz.1 hz.2
    obtain ⟨hI, hlen⟩ := hI
    have hpl : pre.length < BL.length := (List.getElem?_eq_some_iff.1 hx).1
    have HI := Lib.hid hI
    obtain ⟨val, hv1, hv2, hv3, hv4⟩ := hI
    have hgW : g + 1 < W.heap.size := hv1.lt
    obtain ⟨sp, cap, hcell, hNums⟩ := numbers_old HVw.out hv4 hOb.kind
    have HNa := Lib.hid (fun W' (h : Below W.heap.size W W') => (numbers_at W' W0.heap.size w.heap.size v m x (hv4.later h).md HN4.out (hfn.later h) hOb).1)
    have HSt : Hid (headL m ((pre ++ [x]).map (·.b)) = headL m (pre.map (·.b)) ++ leavesB x.b (m.part x.b.k x.b.y)) := Lib.hid (by unfold headL; simp)
    unfold leavesB at HSt
    obtain ⟨ls, hls⟩ : ∃ ls, headL m (pre.map (·.b)) = ls := ⟨_, rfl⟩
    obtain ⟨lst, hlst⟩ : ∃ lst, (m.part x.b.k x.b.y).l = lst := ⟨_, rfl⟩
    obtain ⟨A, hA⟩ : ∃ A, addrN v w.heap.size x.b = A := ⟨_, rfl⟩
    obtain ⟨N, hN⟩ : ∃ N, lst.length = N := ⟨_, rfl⟩
    rw [hls] at HSt HI hv3 hlen
    rw [hlst] at HSt hmany hcell hNums
    rw [hA] at hcell HNa
    rw [hN] at hmany hcell
    have HRow := Lib.hid hBx.2
    have HNs := Lib.hid hNums
    have HCell := Lib.hid hcell
    have HHw := Lib.hid hv4
    have HGx := Lib.hid hgx
    have HL := Lib.hid hr0
    have HBl := Lib.hid hl
    have hc3 : W.cell? ⟨Bx, 3, none⟩ = some (.int .i64 x.b.c) := by rw [cell_of_row _ _ _ _ _ _ hBx.2]; rfl
    have HC3 := Lib.hid hc3
    obtain ⟨C, hC⟩ : ∃ C, x.b.c = C := ⟨_, rfl⟩
    obtain ⟨R, hR⟩ : ∃ R, x.b.r = R := ⟨_, rfl⟩
    rw [hC] at HC3 HSt hc1 hc64 hmany hrc
    rw [hR] at HSt hmany hrc hR512
    have HLs : Hid (ls.length + R ≤ 900000) := Lib.hid (by have := HBLn.out; omega)
    have HGW := Lib.hid hgW
    have HLen : Hid (ls.length + R ≤ 1 + (pre.length + 1) * 512) := Lib.hid (by omega)
    have HMany := Lib.hid hmany
    have HRc := Lib.hid hrc
    have HNl := Lib.hid hN
    clear hmany hrc hN hR512 hlen hpl hgW hmem hOb hz hx hfn hBx hcell hNums hv1 hv2 hv3 hv4 hls hlst hA hgx hr0 hl hC hR hc3
    gi_wp2
    refine wpIn_region_quiet_tail (C := fun W' => Below W.heap.size W W') 6 (by kernel_rfl) (by kernel_rfl) (fun ⟨_, _, h⟩ => h) (by kernel_rfl) ⟨rfl, rfl, rfl, Nat.le_refl _, fun _ _ => rfl⟩ ?_
    simp only [List.take_succ_cons, List.take_zero, List.drop_succ_cons, List.drop_zero]
    refine q_val (.agg x.cells) rfl (fun W' hW' => exec_load_row 95 (.tmp 6) rfl Bx rfl 95 _ (0, 0) _ ((hW'.block Bx (Array.getElem?_eq_some_iff.1 HRow.out).1).trans HRow.out) Try.underlying95 rfl size_blk) ?_
    simp only [Act.put, List.setIfInBounds_toArray, List.set_cons_succ, List.set_cons_zero]
    refine q_call 41 #[.agg x.cells, .pointer (some ⟨w.heap.size, 0, none⟩)] (.pointer (some A)) rfl (fun _ _ => exec_call2 41 (.tmp 20) (.tmp 1) #[95, 102] _ _ rfl rfl rfl (cf Try.func41 (by kernel_rfl) (by kernel_rfl) _ _)) (fun W' hW' => (HNa.out W' hW').mono fun e W'' h => ⟨h.1, hW'.trans (h.2.mono hW'.size)⟩) ?_
    simp only [Act.put, List.setIfInBounds_toArray, List.set_cons_succ, List.set_cons_zero]
    refine q_val (.pointer (some A)) rfl (fun W' _ => exec_nilA (.tmp 21) rfl A rfl) ?_
    simp only [Act.put, List.setIfInBounds_toArray, List.set_cons_succ, List.set_cons_zero]
    refine q_val (.slice sp N cap) rfl (fun W' hW' => Bp.exec_load1 26 (.tmp 22) rfl A rfl _ ((hW'.cell (block_lt_of_cell HCell.out)).trans HCell.out) _ Try.underlying26 rfl) ?_
    simp only [Act.put, List.setIfInBounds_toArray, List.set_cons_succ, List.set_cons_zero]
    refine q_val (.pointer (some ⟨Bx, 3, none⟩)) rfl (fun _ _ => exec_bf3 (.tmp 6) rfl Bx rfl) ?_
    simp only [Act.put, List.setIfInBounds_toArray, List.set_cons_succ, List.set_cons_zero]
    refine q_val (.int .i64 C) rfl (fun W' hW' => Bp.exec_load1 3 (.tmp 24) rfl ⟨Bx, 3, none⟩ rfl _ ((hW'.cell (block_lt_of_cell HC3.out)).trans HC3.out) _ Try.underlying3 rfl) ?_
    simp only [Act.put, List.setIfInBounds_toArray, List.set_cons_succ, List.set_cons_zero]
    refine wpQuiet_nil ?_
    intro W2 hW2
    go_wp2_with (go_at_call 40; refine (chunk_any _ sp cap N C hc1 hc64).mono ?_; rintro e w' ⟨rfl, rfl⟩)
    have hS3 := (HI.out.later hW2).later (((Below.refl _ W2).alloc (Nat.le_refl _) (.cells #[.slice sp N cap] 26)).alloc (by simp) (.cells #[.int .i64 C] 3))
    have b1 := (Boxed.new W2 26 (.slice sp N cap)).alloc (.cells #[.int .i64 C] 3)
    have b2 := Boxed.new (W2.alloc (.cells #[.slice sp N cap] 26)) 3 (.int .i64 C)
    have hb3 := hW2.trans ((((Below.refl _ W2).alloc (Nat.le_refl _) (.cells #[.slice sp N cap] 26)).alloc (by simp) (.cells #[.int .i64 C] 3)).mono hW2.size)
    have hn2 := hW2.size
    simp only [World.size_alloc] at b2
    gi_wp2
    obtain ⟨n, hn⟩ : ∃ n, W2.heap.size = n := ⟨_, rfl⟩
    obtain ⟨W3, hW3⟩ : ∃ W3, (W2.alloc (.cells #[.slice sp N cap] 26)).alloc (.cells #[.int .i64 C] 3) = W3 := ⟨_, rfl⟩
    rw [hn] at b1 b2 hn2 ⊢
    rw [hW3] at b1 b2 hb3 hS3 ⊢
    have HB3 := Lib.hid hb3
    have HS3 := Lib.hid hS3
    have HB1 := Lib.hid b1
    have HB2 := Lib.hid b2
    have HN2 := Lib.hid hn2
    have hr3 := (hb3.block l (Array.getElem?_eq_some_iff.1 HL.out).1).trans HL.out
    have hcap := HNs.out.le
    rw [List.length_map, HNl.out] at hcap
    have hgn : g + 1 < n := by have := HGW.out; omega
    clear hW3 hn hW2 hb3 hS3 b1 b2 hn2
    refine wpIn_rangeFunc_ownN (l₀ := l) (r₀ := r0) rfl hr3 (by omega) (gf := 61) (lb := #[.pointer (some ⟨n, 0, none⟩), .pointer (some ⟨n + 1, 0, none⟩)]) rfl trivial (enters_of Try.func61 (by kernel_rfl) rfl)
      ((chunk_stops 3 (by omega) n (n + 1) sp cap N C R HMany.out hc1 (by rw [HMany.out]; exact HRc.out) hcap W3 HB1.out.cell HB2.out.cell).inRound l)
      keep_t (fun X l' o o' _ h2 h3 _ => keep_b X l' o o' h2 h3) (Below.refl _ _) (fun _ => rfl)
      (fun (pre' : List (Rw R)) X => (LvS w v m g (ls ++ pre'.map fun q => Cd.nums ((lst.drop (q.val * C)).take C)) X ∧ Boxed X n 26 (.slice sp N cap) ∧ Boxed X (n + 1) 3 (.int .i64 C)) ∧ KeepsFrom W0.heap.size W X ∧ KpB W0.heap.size (g + 2) W X) (fun _ _ _ => False)
      (OwnFrom.and (OwnFrom.and (LvS.own (by have := HB3.out.size; have := HGW.out; omega)) (OwnFrom.and (Own.from (boxed_own _ _ _) _) (Own.from (boxed_own _ _ _) _))) (OwnFrom.and (ownFrom_keepsFrom HB3.out.size) KpB.own)) (fun _ _ _ _ _ hs _ _ => hs)
      ⟨⟨by simpa using HS3.out, HB1.out, HB2.out⟩, below_keeps HB3.out, KpB.of_below HB3.out⟩
      (fun (q : Rw R) a' _ => a' = { tmps := #[.agg #[.int .i64 v.c.v, .int .i64 v.c.d, .int .i64 v.c.h, .int .i64 v.c.l, .int .i64 v.c.x, .int .i64 v.c.i, .slice v.sa v.na v.ca, .slice v.sp v.np v.cp, .int .i64 v.er, .int .i64 v.ec, .slice v.se v.ne v.ce, .slice v.sl v.nl v.cl, .slice v.sn v.nn v.cn, .int .i64 v.xr, .int .i64 v.xc, .slice v.so v.no v.co], .pointer (some ⟨w.heap.size, 0, none⟩), .slice none 0 0, .int .i64 0, .int .i64 0, .pointer (some ⟨g + 1, 0, none⟩), .pointer (some ⟨Bx, 0, none⟩), rowS sp cap C q.val, .agg v.cells, .int .i64 0, .int .i64 0, .bool false, undef, .agg v.cells, .slice sph (headB m.cfg m.al m.ps).length caph, .slice (some ⟨g, 0, none⟩) 1 1, .pointer (some ⟨w.heap.size, 0, none⟩), .agg #[.int .i64 (V : Int), .int .i64 (D : Int), .int .i64 ch, .int .i64 (L : Int), .int .i64 cx, .int .i64 (I : Int)], .func (.func 56) #[] #[.pointer (some ⟨g + 2, 0, none⟩)], x.val, .agg x.cells, .pointer (some A), .pointer (some A), .slice sp N cap, .pointer (some ⟨Bx, 3, none⟩), .int .i64 C, .func (.func 61) #[] #[.pointer (some ⟨n, 0, none⟩), .pointer (some ⟨n + 1, 0, none⟩)], rowS sp cap C q.val, undef, undef, undef, undef, undef, undef], defers := [] })
      (fun _ _ _ _ _ _ hs _ _ => hs)
      ?assign2 ?body2 ?done2 ?stop2
    case assign2 =>
      rintro l' pre' q X K hI hK
      have HK := Lib.hid hK
      have HI := Lib.hid hI
      clear hK hI
      gi_wp2
      exact HK.out _ _ (KeepsFrom.refl _ _) (fun _ _ _ h => h) HI.out rfl
    case body2 =>
      rintro l' pre' q a' X hl' hlr' ⟨⟨⟨val, hv1, hv2, hv3, hv4⟩, hb1, hb2⟩, hk, hkp⟩ rfl hlt
      obtain ⟨q, hq⟩ := q
      have hqC : q * C + C ≤ R * C := row_in hq
      have hlr : ((lst.drop (q * C)).take C).length = C := by rw [List.length_take, List.length_drop, HNl.out, HMany.out]; omega
      have hnr := fun X' (h : Below X.heap.size X X') => nums_row (Sl.below HNs.out (Nat.le_refl _) (hv4.later h).below) C q hc1 (by rw [HNl.out, HMany.out]; exact hqC)
      have hlsp : (ls ++ pre'.map fun q => Cd.nums ((lst.drop (q.val * C)).take C)).length ≤ 999990 := by rw [List.length_append, List.length_map]; have := HLs.out; omega
      have HLp : Hid (ls ++ (pre' ++ [(⟨q, hq⟩ : Rw R)]).map (fun q : Rw R => Cd.nums ((lst.drop (q.val * C)).take C)) = (ls ++ pre'.map fun q => Cd.nums ((lst.drop (q.val * C)).take C)) ++ [Cd.nums ((lst.drop (q * C)).take C)]) := Lib.hid (by simp)
      obtain ⟨lp, hlp⟩ : ∃ lp, (ls ++ pre'.map fun q => Cd.nums ((lst.drop (q.val * C)).take C)) = lp := ⟨_, rfl⟩
      rw [hlp] at HLp hv3 hlsp
      obtain ⟨lr, hlr2⟩ : ∃ lr, (lst.drop (q * C)).take C = lr := ⟨_, rfl⟩
      rw [hlr2] at HLp hlr
      simp only [hlr2] at hnr
      obtain ⟨rsp, hrsp⟩ : ∃ y, cutA sp cap (q * C) = y := ⟨_, rfl⟩
      simp only [hrsp] at hnr
      have hrow : rowS sp cap C q = .slice rsp C C := by unfold rowS; rw [hrsp]
      dsimp only
      rw [hrow]
      have HV1 := Lib.hid hv1
      have HV2 := Lib.hid hv2
      have HV3 := Lib.hid hv3
      have HV4 := Lib.hid hv4
      have HK1 := Lib.hid hb1
      have HK2 := Lib.hid hb2
      have HK := Lib.hid hk
      have HKp := Lib.hid hkp
      have HNr := Lib.hid hnr
      have HLr := Lib.hid hlr
      have HLsp := Lib.hid hlsp
      clear hv1 hv2 hv3 hv4 hb1 hb2 hk hkp hnr hlr hlsp hlp hlr2 hrsp hrow hqC hl' hlr'
      gi_wp2
      refine wpIn_region_spec (C := fun X' => Below X.heap.size X X') (Le := fun A B => Below A.heap.size A B) 4 (fun _ j X' y => (j = 0 → y = val) ∧ (j = 1 → y = .slice rsp C C) ∧ (j = 2 → PcT g X' y (Cd.nums lr)) ∧ (j = 3 → ∃ b u, y = .slice (some ⟨b, 0, none⟩) 1 1 ∧ X'.heap[b]? = some (.cells #[u] 24 (0, 0)) ∧ PcT g X' u (Cd.nums lr)))
        (by kernel_rfl) (by kernel_rfl) (fun ⟨_, _, h⟩ => h) (by kernel_rfl) ⟨rfl, rfl, rfl, Nat.le_refl _, fun _ _ => rfl⟩ (fun _ _ _ _ _ _ h => h)
        (fun _ _ _ _ _ hb h => ⟨h.1, h.2.1, fun e => (h.2.2.1 e).later hb, fun e => by obtain ⟨b, u, e1, h1, h2⟩ := h.2.2.2 e; exact ⟨b, u, e1, (hb.block b (Array.getElem?_eq_some_iff.1 h1).1).trans h1, h2.later hb⟩⟩)
        (fun j y => (j = 0 → y = val) ∧ (j = 1 → y = .slice rsp C C)) (fun _ _ _ _ h => ⟨h.1, h.2.1⟩) (fun j => if j = 0 then val else .slice rsp C C) (fun j => ⟨fun e => by rw [if_pos e], fun e => by rw [if_neg (by omega)]⟩) ?_ ?_
      · intro u hu
        have h0 : u 0 = val := (hu 0).1 rfl
        have h1 : u 1 = .slice rsp C C := (hu 1).2 rfl
        simp only [List.take_succ_cons, List.take_zero]
        refine Tn.spec_cons (fun Y hC hd => ⟨by rfl, ?_⟩) ?_
        · exact Tn.gives_val val Y (Bp.exec_load1 39 (.tmp 5) rfl ⟨g + 1, 0, none⟩ rfl _ (Boxed.cell (boxed_below HV1.out hC)) _ Try.underlying39 rfl) ⟨hC, Below.refl _ _, fun _ => rfl, fun h => by omega, fun h => by omega, fun h => by omega⟩
        simp only [Act.put, List.setIfInBounds_toArray, List.set_cons_succ, List.set_cons_zero, Nat.reduceAdd]
        rw [h0]
        refine Tn.spec_cons (fun Y hC hd => ⟨by rfl, ?_⟩) ?_
        · exact Tn.gives_val (.slice rsp C C) Y (by rfl) ⟨hC, Below.refl _ _, fun h => by omega, fun _ => rfl, fun h => by omega, fun h => by omega⟩
        simp only [Act.put, List.setIfInBounds_toArray, List.set_cons_succ, List.set_cons_zero, Nat.reduceAdd]
        rw [h1]
        refine Tn.spec_cons (fun Y hC hd => ⟨by rfl, ?_⟩) ?_
        · exact Tn.gives_call _ _ (exec_call1 42 (.tmp 29) #[26] _ rfl rfl (cf Try.func42 (by kernel_rfl) (by kernel_rfl) _ _)) ((Cd.numbersO_any Y rsp C C lr HLr.out (HNr.out Y hC) (by omega)).mono fun e2 Y' ⟨y, e3, h3, hb3⟩ => ⟨_, e3, hC.trans (hb3.mono hC.size), hb3, fun h => by omega, fun h => by omega, fun _ => PcT.own h3 (Cd.rng_nums _), fun h => by omega⟩)
        simp only [Act.put, List.setIfInBounds_toArray, List.set_cons_succ, List.set_cons_zero, Nat.reduceAdd]
        refine Tn.spec_cons (fun Y hC hd => ⟨by rfl, ?_⟩) ?_
        · have hp := (hd ⟨2, .data⟩ (by simp) (by kernel_rfl)).2.2.1 rfl
          obtain ⟨sp2, cap2, e2, _⟩ := id hp
          dsimp only at e2 hp
          rw [e2] at hp ⊢
          have hal : Below Y.heap.size Y (Y.alloc (.cells #[.slice sp2 (Cd.nums lr).length cap2] 24)) := (Below.refl _ _).alloc (Nat.le_refl _) _
          exact Tn.gives_val _ _ (exec_slice1 (.tmp 30) rfl sp2 (Cd.nums lr).length cap2 rfl) ⟨hC.trans (hal.mono hC.size), hal, fun h => by omega, fun h => by omega, fun h => by omega, fun _ => ⟨_, _, rfl, heap_alloc_new _ _, hp.later hal⟩⟩
        simp only [Act.put, List.setIfInBounds_toArray, List.set_cons_succ, List.set_cons_zero, Nat.reduceAdd]
        exact Tn.spec_nil
      · intro u Y hu hC hP
        have h0 : u 0 = val := (hu 0).1 rfl
        have h1 : u 1 = .slice rsp C C := (hu 1).2 rfl
        obtain ⟨b, u9, e3, hbk, hpc⟩ := (hP 3 (by decide)).2.2.2 rfl
        simp only [List.take_succ_cons, List.take_zero, List.drop_succ_cons, List.drop_zero, Tn.putAll, Act.put, List.setIfInBounds_toArray, List.set_cons_succ, List.set_cons_zero, Nat.reduceAdd]
        rw [h0, h1, e3]
        have hv1 := boxed_below HV1.out hC
        have hv3 := HV3.out.later hC
        have hv4 := HV4.out.later hC
        have hk1 := boxed_below HK1.out hC
        have hk2 := boxed_below HK2.out hC
        clear hu hP e3 h0 h1
        go_wp2_with (refine wpList_push_leaf rfl (.tmp 28) (.tmp 31) rfl g val u9 lp _ rfl hv3 hpc b rfl hbk HLsp.out ?_; intro v' Y' hr' hg'; obtain ⟨b9, n9, c9, rfl⟩ := hr'.snoc; have hbx := hv3.boxed hg' hv1 (by decide); have hcx := hbx.cell; have hfx := hbx.frozen)
        have hS' := LvS.push HVw.out hg0 hv1 HV2.out hv3 hv4 hg' hr' hr'.isSl
        have k1 := (hv3.boxed hg' hk1 (by decide)).other (B' := g + 1) (by omega) (.slice (some ⟨b9, 0, none⟩) n9 c9)
        have k2 := (hv3.boxed hg' hk2 (by decide)).other (B' := g + 1) (by omega) (.slice (some ⟨b9, 0, none⟩) n9 c9)
        have hkf : ∀ B, KeepsFrom B X (Y'.setCell ⟨g + 1, 0, none⟩ (.slice (some ⟨b9, 0, none⟩) n9 c9)) := fun B => ((below_keeps hC).trans (hv3.keepsFrom hg')).trans keepsFrom_cell
        refine ⟨hkf _, keep_boxes HK1.out HK2.out k1 k2, ⟨by rw [HLp.out]; exact hS', k1, k2⟩, HK.out.trans (hkf _), HKp.out.trans (((KpB.of_below hC).trans (KpB.grown hv3 hg')).trans (KpB.cell (a := ⟨g + 1, 0, none⟩) (by simp only; omega) (by simp only; omega)))⟩
    case done2 =>
      rintro ys X hys ⟨⟨hS, _, _⟩, hk, hkp⟩
      refine ⟨hk, hkp, ?_, ?_⟩
      · rw [HSt.out]
        have e : (ys.map fun q => Cd.nums ((lst.drop (q.val * C)).take C)) = (rowsL C R lst).map Cd.nums := by
          unfold rowsL
          rw [← hys, List.map_map, List.map_map]
          rfl
        rw [e] at hS
        exact hS
      · rw [HSt.out, List.length_append, List.length_map, rowsL_length, List.length_append, List.length_singleton]
        exact HLen.out
    case stop2 =>
      rintro c pre' X _ h
      exact h.elim
  case done =>
    rintro D2 ys W hD hys ⟨⟨val, h1, h2, h3, h4⟩, _⟩ hK
    rw [hys, ← HLd.out] at h3
    have hc := h1.cell
    have H3 := Lib.hid h3
    have H4 := Lib.hid h4
    have HG := Lib.hid hg0
    have HW0s : Hid (w.heap.size ≤ D2) := Lib.hid (by omega)
    clear h1 h2 h3 h4 hys hg0
    gi_wp2
    refine ⟨by simp, .inl ⟨_, _, rfl, run_takeDeferred hK, ?_⟩⟩
    exact ⟨_, results_tmp2 rfl _ _ _, val, g, rfl, H3.out.putd hK rfl, HG.out, H4.out.below.trans (belowK_b (w := w) (Nat.le_refl _) W D2 _ _ HW0s.out hK rfl rfl)⟩
  case stop =>
    rintro D c pre W _ _ h _
    exact h.elim
end Go.Proofs.Ytkfkjapkcjidnaa.Wg
