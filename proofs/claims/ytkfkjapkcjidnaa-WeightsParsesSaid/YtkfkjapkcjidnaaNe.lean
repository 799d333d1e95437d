import Derived.Test.YtkfkjapkcjidnaaNb
namespace Go.Proofs.Ytkfkjapkcjidnaa.Cd
/-! ### Numbers once more: its answer is a row of bytes of its own (its block is one of bytes) -/
section
open Go.ChangeShapes Go.WideShapes Go.ChangeAt Go.RowKit
set_option maxRecDepth 100000 in
set_option maxHeartbeats 4000000 in
theorem numbersO_any (w : World) (sp : Option Addr) (cap N : Nat) (l : List Int) (hN : l.length = N) (hP : Nums w sp cap l) (hs : N ≤ 1000) :
    Calls Try.prog 42 #[.slice sp N cap] w fun e w' => ∃ v, e = .returned v ∧ w'.ownsRow w.heap.size 5 1 v (8 * N) ((nums l).map (Value.int .u8)) ∧ Below w.heap.size w w' := by
  have HP : Hid (Nums w sp cap l) := hP
  have HN := Lib.hid hN
  clear hP hN
  obtain ⟨M, hM⟩ : ∃ M, 8 * N = M := ⟨_, rfl⟩
  have he8 : (8 : Int) * (N : Int) = (M : Int) := by omega
  have hMl : M ≤ 1000000 := by omega
  rw [hM]
  have HMm := Lib.hid hM
  clear hM
  go_enter Try.func42, Try.ntmps42
  go_wp2_with (refine wpList_make0 24 5 1 (.int .u8 0) Try.underlying24 info5 (by decide) rfl (.const (.int .i64 0)) (.tmp 9) rfl w.heap.size M rfl rfl hMl (Nat.le_refl _) ?_; intro w0 hown0 hg0)
  have hjn : Nn w l 0 (.slice (some ⟨w.heap.size, 0, none⟩) 0 M) w0 := ⟨hown0, Below.ofGrown hg0 (Nat.le_refl _) (fun _ h => by cases h)⟩
  clear hown0 hg0 he8
  go_loopw [3, 13] (fun v i wr => ∃ j : Nat, j ≤ N ∧ i = .int .i64 j ∧ Nn w l j v wr) (fun _ i _ => N - (intOf i).toNat)
  case atStart => exact ⟨0, by omega, rfl, hjn⟩
  case round =>
    clear hjn
    obtain ⟨j, hjk, rfl, hj⟩ := hrel
    obtain ⟨sv, cv, rfl, hxl, hsl, hbase⟩ := Sl.all1 hj.own
    have HJn := Lib.hid hj
    have HSl := Lib.hid hsl
    clear hj hsl hxl
    by_cases hlt : j < N
    · have hdt : decide (j < N) = true := by simp; omega
      obtain ⟨c, o, rfl, hcell⟩ := HP.out.at_ j (by rw [HN.out]; exact hlt)
      have hts := take_snocI l j (by rw [HN.out]; exact hlt)
      have hjs : nums (l.take (j + 1)) = nums (l.take j) ++ be 8 (l.getD j 0) := by rw [hts, nums_snoc]
      clear hts
      obtain ⟨P, hP⟩ : ∃ P, l.getD j 0 = P := ⟨_, rfl⟩
      rw [hP] at hcell hjs
      have HJs := Lib.hid hjs
      have hcl : c < w.heap.size := block_lt_of_cell hcell
      have hcr : wr.cell? ⟨c, o + j, none⟩ = some (.int .i64 P) := (HJn.out.below.cell hcl).trans hcell
      have hsz := HJn.out.below.size
      clear hP hjs hcell
      obtain ⟨n, hn⟩ : ∃ n, 8 * j = n := ⟨_, rfl⟩
      rw [hn] 
      have hnb : n + 8 ≤ 1000000 := by omega
      have HNn := Lib.hid hn
      clear hn
      go_wp2_with fail
      refine (word_of P wr).mono ?_
      rintro e w1 ⟨rfl, hb1⟩
      have HD8 := Lib.hid (be_length 8 P)
      obtain ⟨D, hD⟩ : ∃ D, be 8 P = D := ⟨_, rfl⟩
      rw [hD] at HD8 HJs ⊢
      clear hD
      have HZ := Lib.hid (show (Try.prog.info? 120).map (·.size) = some (rowB D).size by rw [rowB_size, HD8.out]; exact sizeWd)
      have HY := Lib.hid (show 8 = (rowB D).size by rw [rowB_size, HD8.out])
      have HX := Lib.hid (rowB_one D)
      have hsz1 : w.heap.size ≤ w1.heap.size := Nat.le_trans hsz hb1.size
      have HB1 := Lib.hid hb1
      clear hb1
      go_upto_region 6 with (refine wpList_store_row rfl 120 (.tmp 6) (.tmp 18) rfl w1.heap.size (rowB D) rfl rfl 120 _ (heap_alloc_new _ _) HZ.out HY.out HX.out ?_)
      refine gen_world (Q := fun w => Code.wp _ _ _ _ w) _ (fun W => Below w1.heap.size w1 W ∧ W.heap[w1.heap.size]? = some (.cells (rowB D) 120 (0, 0))) ⟨below_setRow ((Below.refl _ _).alloc (Nat.le_refl _) _) (Nat.le_refl _) _, setRow_heap _ _ _ _ _ _ (heap_alloc_new _ _)⟩ ?_
      rintro W ⟨hbW, hrow⟩
      have hbr : Below wr.heap.size wr W := HB1.out.trans (hbW.mono HB1.out.size)
      have hszW : w.heap.size ≤ W.heap.size := Nat.le_trans hsz1 hbW.size
      have HO := Lib.hid (owns_below HJn.out.own hbr)
      have HBW := Lib.hid (HJn.out.below.trans (hbr.mono hsz))
      have HSrc : Hid (Sl W (some ⟨w1.heap.size, 0, none⟩) 8 (D.map (Value.int .u8))) := by
        refine ⟨by simp [HD8.out], by unfold maxLen; omega, (fun h => by cases h), fun _ => ⟨_, _, rfl, fun i v hv => ?_⟩⟩
        rw [cell_of_row _ _ _ _ _ _ hrow, ← hv]
        simp [rowB]
      have HB4 := Lib.hid (show (D.map (Value.int .u8)).length = 8 by rw [List.length_map, HD8.out])
      rw [HNn.out] at HO
      have hr4 := run_arr0 w1.heap.size
      clear hbW hrow hbr hcr HB1 HZ HY HX HD8
      go_wp2_with (refine wpList_append_sl 24 5 1 (.int .u8 0) Try.underlying24 info5 rfl (by decide) rfl (.tmp 19) (.tmp 20) rfl w.heap.size (.slice sv n cv) n 8 _ _ rfl HO.out (some ⟨w1.heap.size, 0, none⟩) 8 rfl HB4.out HSrc.out (map_one _) hnb hszW ?_; intro v2 w2 hown2 hg2)
      have HB4' := Lib.hid (HBW.out.trans (Below.ofGrown hg2 hszW (fun g e => (HO.out.lt g e).1)))
      have HO4 := Lib.hid hown2
      clear hg2 hown2 hr4
      go_roundw
      case rel =>
        refine ⟨j + 1, by omega, by go_num, ?_, HB4'.out⟩
        have := HO4.out
        rw [← List.map_append, ← HJs.out, ← HNn.out] at this
        exact this
      case measure => simp [intOf]; omega
    · obtain rfl : j = N := by omega
      have hdf2 : decide (j < j) = false := by simp
      have hown := HJn.out.own
      rw [List.take_of_length_le (by rw [HN.out]; omega)] at hown
      have HOw := Lib.hid hown
      clear hlt hown
      go_wp2
      go_ret
      exact ⟨_, rfl, by rw [← HMm.out]; exact HOw.out, HJn.out.below⟩
end
end Go.Proofs.Ytkfkjapkcjidnaa.Cd
namespace Go.Proofs.Ytkfkjapkcjidnaa.Wg
set_option maxRecDepth 100000
open Go.ChangeShapes Go.WideShapes Go.ChangeAt Go.RowKit Go.Shelf Go.Proofs.Ytkfkjapkcjidnaa.Tn

/-! ### a row of leaves that grows -/
/-- a piece that no store into a row of pieces (beyond base) reaches: it lies below base, or its block is one of bytes -/
def PcT (base : Nat) (W : World) (u : Value) (l : List Int) : Prop :=
  ∃ sp cap, u = .slice sp l.length cap ∧ Cd.Bytes W sp cap l ∧ ∀ c o, sp = some ⟨c, o, none⟩ → 0 < l.length → c < base ∨ ∃ cs fr, W.heap[c]? = some (.cells cs 5 fr)
section
variable {base : Nat} {W W' : World} {u v : Value} {l : List Int} {ls : List (List Int)}
theorem PcT.over (h : PcT base W u l) {P : Nat → Prop} (hk : ∀ c, (c < base ∨ ∃ cs fr, W.heap[c]? = some (.cells cs 5 fr)) → (∀ o x, W.cell? ⟨c, o, none⟩ = some (.int .u8 x) → P c)) (hP : ∀ c, P c → W'.heap[c]? = W.heap[c]?) : PcT base W' u l := by
  obtain ⟨sp, cap, e, hb, ht⟩ := h
  by_cases h0 : 0 < l.length
  · obtain ⟨c, o, e1, hl⟩ := hb.sl.lies (by simpa using h0)
    have h1 := hl 0 (.int .u8 (l.getD 0 0)) (by simp [h0])
    have hc := hP c (hk c (ht c o e1 h0) _ _ h1)
    refine ⟨sp, cap, e, ⟨⟨hb.sl.le, hb.sl.max, hb.sl.nul, fun _ => ⟨c, o, e1, fun i v hv => ?_⟩⟩, hb.rng⟩, fun c' o' e2 _ => ?_⟩
    · have := hl i v hv
      unfold World.cell? at this ⊢
      simpa only [hc] using this
    · rw [e1] at e2
      cases e2
      rw [hc]
      exact ht c o e1 h0
  · refine ⟨sp, cap, e, ⟨⟨hb.sl.le, hb.sl.max, hb.sl.nul, fun h => absurd h (by simpa using h0)⟩, hb.rng⟩, fun c' o' _ h => absurd h h0⟩
theorem PcT.later (h : PcT base W u l) (hb : Below W.heap.size W W') : PcT base W' u l := h.over (P := fun c => c < W.heap.size) (fun _ _ _ _ hx => block_lt_of_cell hx) (fun c hc => hb.block c hc)
/-- a piece that was there ahead of base -/
theorem PcT.old {sp : Option Addr} {cap : Nat} (h : Cd.Bytes W sp cap l) : PcT W.heap.size W (.slice sp l.length cap) l := ⟨sp, cap, rfl, h, fun c o e h0 => by
  obtain ⟨c', o', e1, hl⟩ := h.sl.lies (by simpa using h0)
  have h1 := hl 0 (.int .u8 (l.getD 0 0)) (by simp [h0])
  rw [e] at e1
  cases e1
  exact Or.inl (block_lt_of_cell h1)⟩
/-- a piece that is a row of bytes of its own -/
theorem PcT.own {b n : Nat} (h : W.ownsRow b 5 1 v n (l.map (Value.int .u8))) (hr : Cd.rng l) : PcT base W v l := by
  obtain ⟨sp, cap, e, hl, hs, _⟩ := Cd.Sl.all1 h
  have hn : l.length = n := by simpa using hl
  refine ⟨sp, cap, by rw [hn]; exact e, ⟨hs, hr⟩, fun c o e1 h0 => Or.inr ?_⟩
  rcases h.2 with ⟨e2, _⟩ | ⟨g, cap2, cur, e2, _, hg, _⟩
  · rw [e2] at e; cases e; cases e1
  · rw [e2] at e
    cases e
    cases e1
    exact ⟨cur, _, hg⟩
/-- a row of leaves, beyond base -/
def LvR (base : Nat) (v : Value) (ls : List (List Int)) (W : World) : Prop :=
  ∃ vs : List Value, W.ownsRow base 24 1 v ls.length vs ∧ vs.length = ls.length ∧ (∀ i u, vs[i]? = some u → PcT base W u (ls.getD i [])) ∧ base ≤ W.heap.size
theorem LvR.later (h : LvR base v ls W) (hb : Below W.heap.size W W') : LvR base v ls W' := by
  obtain ⟨vs, h1, h2, h3, h4⟩ := h
  exact ⟨vs, owns_below h1 hb, h2, fun i u hu => (h3 i u hu).later hb, Nat.le_trans h4 hb.size⟩
theorem LvR.new (W : World) (u : Value) (l : List Int) (hu : PcT W.heap.size W u l) : LvR W.heap.size (.slice (some ⟨W.heap.size, 0, none⟩) 1 1) [l] (W.alloc (.cells #[u] 24)) := by
  have hb : Below W.heap.size W (W.alloc (.cells #[u] 24)) := (Below.refl _ _).alloc (Nat.le_refl _) _
  refine ⟨[u], ⟨rfl, .inr ⟨W.heap.size, 1, #[u], rfl, Nat.le_refl _, heap_alloc_new _ _, Nat.le_refl _, by unfold maxLen; omega, rfl, rfl⟩⟩, rfl, fun i x hx => ?_, hb.size⟩
  rcases i with _ | i
  · simp at hx
    subst hx
    exact hu.later hb
  · simp at hx
/-- what a row's block is -/
theorem LvR.block (h : LvR base v ls W) : v.ownBlock = none ∨ ∃ g cur, v.ownBlock = some g ∧ base ≤ g ∧ W.heap[g]? = some (.cells cur 24 (0, 0)) := by
  obtain ⟨vs, h1, _⟩ := h
  rcases h1.2 with ⟨rfl, _⟩ | ⟨g, cap, cur, rfl, hb, hg, _⟩
  · exact Or.inl rfl
  · exact Or.inr ⟨g, cur, rfl, hb, hg⟩
/-- all blocks but such a row's stay over a step that turns it alone -/
theorem LvR.keeps (h : LvR base v ls W) (hg : W.grownBy W' v.ownBlock) {c : Nat} {o : Obj} (hc : W.heap[c]? = some o) (hne : c < base ∨ ∀ cs fr, o ≠ .cells cs 24 fr) : W'.heap[c]? = some o := by
  have hl := (Array.getElem?_eq_some_iff.1 hc).1
  rcases h.block with hb | ⟨g, cur, hb, h1, h2⟩
  · exact (hg.block c hl (by rw [hb]; simp)).trans hc
  · refine (hg.block c hl (fun e => ?_)).trans hc
    rw [hb] at e
    cases e
    rcases hne with h3 | h3
    · omega
    · rw [h2] at hc
      cases hc
      exact h3 _ _ rfl
theorem LvR.below (h : LvR base v ls W) (hg : W.grownBy W' v.ownBlock) : Below base W W' := ⟨hg.os, hg.tape, hg.output, hg.size, fun k hk => by
  rcases h.block with hb | ⟨g, cur, hb, h1, h2⟩
  · by_cases hl : k < W.heap.size
    · exact hg.block k hl (by rw [hb]; simp)
    · exfalso
      obtain ⟨_, _, _, _, h4⟩ := h
      omega
  · have hl : k < W.heap.size := by
      obtain ⟨_, _, _, _, h4⟩ := h
      omega
    exact hg.block k hl (fun e => by rw [hb] at e; cases e; omega)⟩
theorem PcT.grown (hr : LvR base v ls W) (hg : W.grownBy W' v.ownBlock) {u : Value} {l : List Int} (h : PcT base W u l) : PcT base W' u l :=
  h.over (P := fun c => ∃ o, W.heap[c]? = some o ∧ (c < base ∨ ∀ cs fr, o ≠ .cells cs 24 fr)) (fun c hc o x hx => by
    have hl := block_lt_of_cell hx
    refine ⟨W.heap[c], by simp [hl], ?_⟩
    rcases hc with h1 | ⟨cs, fr, h1⟩
    · exact Or.inl h1
    · refine Or.inr fun cs' fr' e => ?_
      rw [Array.getElem?_eq_getElem hl] at h1
      rw [Option.some.inj h1] at e
      cases e) (fun c ⟨o, ho, hne⟩ => (hr.keeps hg ho hne).trans ho.symm)
theorem KpB.grown {n0 bc : Nat} (hr : LvR base v ls W) (hg : W.grownBy W' v.ownBlock) : KpB n0 bc W W' := ⟨hg.size, fun k cs t _ ht hk => hr.keeps hg hk (Or.inr fun cs' fr' e => by
  cases e
  rcases ht with h | h | h | h | h <;> exact absurd h (by decide))⟩
theorem LvR.boxed (hr : LvR base v ls W) (hg : W.grownBy W' v.ownBlock) {b : Nat} {t : TypeId} {x : Value} (h : Boxed W b t x) (ht : t ≠ 24) : Boxed W' b t x := hr.keeps hg h (Or.inr fun cs fr e => by cases e; exact ht rfl)
/-- a store into a box -/
theorem LvR.set (hr : LvR base v ls W) {b : Nat} {t : TypeId} {x : Value} (hb : Boxed W b t x) (hx : ∀ y, x ≠ .int .u8 y) (ht : t ≠ 24) (y : Value) : LvR base v ls (W.setCell ⟨b, 0, none⟩ y) := by
  obtain ⟨vs, h1, h2, h3, h4⟩ := hr
  have keep : ∀ j, j ≠ b → (W.setCell ⟨b, 0, none⟩ y).heap[j]? = W.heap[j]? := fun j hj => by simp [World.setCell, Array.getElem?_modify, Ne.symm hj]
  refine ⟨vs, ⟨h1.1, ?_⟩, h2, fun i u hu => (h3 i u hu).over (P := fun c => c ≠ b) (fun c _ o z hz e => ?_) keep, by simpa [World.setCell] using h4⟩
  · rcases h1.2 with h | ⟨g, cap, cur, e, hbg, hg, hrest⟩
    · exact .inl h
    · exact .inr ⟨g, cap, cur, e, hbg, (keep g (fun e2 => by subst e2; rw [hb] at hg; cases hg; exact ht rfl)).trans hg, hrest⟩
  · subst e
    rw [cell_of_row _ _ _ _ _ _ hb] at hz
    rcases o with _ | o
    · simp at hz; exact hx z hz
    · simp at hz
theorem LvR.own {B : Nat} {α : Type} {f : α → List (List Int)} : OwnFrom B (fun (s : α) W => LvR base v (f s) W) := fun s X Y row hs hg hr => by
  obtain ⟨vs, h1, h2, h3, h4⟩ := hs
  have kp : ∀ c cs t fr, X.heap[c]? = some (Obj.cells cs t fr) → Y.heap[c]? = some (Obj.cells cs t fr) := fun c cs t fr hk => (hg.block c (Array.getElem?_eq_some_iff.1 hk).1 (fun e => by obtain ⟨_, o, ho, hc⟩ := hr c e.symm; rw [hk] at ho; cases ho; cases hc)).trans hk
  refine ⟨vs, ⟨h1.1, ?_⟩, h2, fun i u hu => (h3 i u hu).over (P := fun c => ∃ cs t fr, X.heap[c]? = some (Obj.cells cs t fr)) (fun c _ o z hz => ?_) (fun c ⟨cs, t, fr, hc⟩ => (kp _ _ _ _ hc).trans hc.symm), Nat.le_trans h4 hg.size⟩
  · rcases h1.2 with h | ⟨g, cap, cur, e, hbg, hgg, hrest⟩
    · exact .inl h
    · exact .inr ⟨g, cap, cur, e, hbg, kp _ _ _ _ hgg, hrest⟩
  · unfold World.cell? at hz
    rcases hc : X.heap[c]? with _ | o
    · simp [hc] at hz
    · cases o with
      | cells cs t fr => exact ⟨cs, t, fr, rfl⟩
      | _ => simp [hc] at hz
end
end Go.Proofs.Ytkfkjapkcjidnaa.Wg
namespace Go.Proofs.Ytkfkjapkcjidnaa.Wg
set_option maxRecDepth 100000
open Go.ChangeShapes Go.WideShapes Go.ChangeAt Go.RowKit Go.Shelf Go.Proofs.Ytkfkjapkcjidnaa.Tn
attribute [local go_sem] Oper.semAt_some

/-! ### the leaves of a model -/
/-- the rows of a list of numbers -/
def rowsL (C R : Nat) (l : List Int) : List (List Int) := (List.range R).map fun q => (l.drop (q * C)).take C
/-- a part's leaves -/
def leavesB (b : Bl) (p : Mt) : List (List Int) := (rowsL b.c b.r p.l).map Cd.nums
def leavesD (m : Md) : List (List Int) := headB m.cfg m.al m.ps :: m.cfg.blks.flatMap fun b => leavesB b (m.part b.k b.y)
/-- where a part's numbers stand -/
def addrN (v : Wv) (g : Nat) (b : Bl) : Addr := if isVec b.k then ⟨(addrP v g b).1, (addrP v g b).2, none⟩ else ⟨(addrP v g b).1, (addrP v g b).2 + 2, none⟩
theorem numbers_at (w : World) (n0 g : Nat) (v : Wv) (m : Md) (x : Bk) (hm : Model w g v m) (hn : v.nl ≤ 4) (hx : FnOK n0 w x) (hb : OkB v x.b) :
    (Calls Try.prog 41 #[x.val, .pointer (some ⟨g, 0, none⟩)] w fun e w' => e = .returned (.pointer (some (addrN v g x.b))) ∧ Below w.heap.size w w') ∧
      ∃ sp cap, w.cell? (addrN v g x.b) = some (.slice sp (m.part x.b.k x.b.y).l.length cap) ∧ Nums w sp cap (m.part x.b.k x.b.y).l := by
  have hp := hm.part hb.kind
  have hc := clos_of hm hn hx (fun h2 h3 => by rcases hb.kind with h | h | h | h <;> omega)
  obtain ⟨⟨k, y, r, c⟩, vf, mf⟩ := x
  dsimp only at hp hc ⊢
  unfold addrN
  cases hk : isVec k with
  | true =>
    obtain ⟨hc1, rfl⟩ := hc.1 hk
    unfold PartAt at hp
    rw [if_pos hk] at hp
    rw [if_pos rfl]
    exact ⟨numbersV_any w g k y r c vf _ _ hc1, hp⟩
  | false =>
    obtain ⟨hc1, rfl⟩ := hc.2 hk
    unfold PartAt at hp
    rw [if_neg (by rw [hk]; decide)] at hp
    obtain ⟨_, _, h⟩ := hp
    rw [if_neg (by decide)]
    exact ⟨numbersM_any w g k y r c mf _ _ hc1, h⟩
theorem partsE_all {m : Md} : ∀ {l : List Bl}, partsE m l = 0 → ∀ b ∈ l, szB b (m.part b.k b.y) = 0 ∧ nmB b (m.part b.k b.y) = 0
  | [], _, _, h => by cases h
  | c :: l, h, b, hb => by
    have h0 : partE c (m.part c.k c.y) = 0 := by
      by_cases hz : partE c (m.part c.k c.y) = 0
      · exact hz
      · rw [partsE_no hz] at h; exact absurd h hz
    rw [partsE_yes h0] at h
    rcases List.mem_cons.1 hb with rfl | h1
    · unfold partE at h0
      by_cases hs : szB b (m.part b.k b.y) = 0
      · rw [if_neg (by omega)] at h0
        exact ⟨hs, h0⟩
      · rw [if_pos hs] at h0
        exact absurd h0 hs
    · exact partsE_all h b h1
/-- a part that may be has as many numbers as its sizes say -/
theorem part_many {b : Bl} {p : Mt} (h1 : isVec b.k = true → b.r = 1) (hs : szB b p = 0) (hn : nmB b p = 0) : p.l.length = b.r * b.c ∧ 1 ≤ b.c ∧ b.r * b.c ≤ 32768 := by
  unfold szB at hs
  unfold nmB at hn
  cases hk : isVec b.k with
  | true =>
    rw [hk, if_pos rfl] at hs hn
    have hl : p.l.length = b.c := by
      by_cases h : p.l.length = b.c
      · exact h
      · rw [if_neg h] at hs; cases hs
    have : ¬ (p.l.length < 1 ∨ 512 < p.l.length) := fun h => by unfold chkV at hn; rw [if_pos h] at hn; cases hn
    rw [h1 hk]
    omega
  | false =>
    rw [hk, if_neg (by decide)] at hs hn
    have hrc : p.r = b.r ∧ p.c = b.c := by
      by_cases h : p.r = b.r ∧ p.c = b.c
      · exact h
      · rw [if_neg h] at hs; cases hs
    have hz : sizeM p.r p.c p.l.length := by
      by_cases h : sizeM p.r p.c p.l.length
      · exact h
      · rw [chkM_size h] at hn; cases hn
    obtain ⟨a1, a2, a3, a4, a5⟩ := hz
    rw [hrc.1, hrc.2] at a5
    have e : ((p.l.length : Nat) : Int) = ((b.r * b.c : Nat) : Int) := by rw [a5]; simp
    have hle : b.r * b.c ≤ 512 * 64 := Nat.mul_le_mul (by omega) (by omega)
    exact ⟨by omega, by omega, by omega⟩
/-- of a model that may be -/
theorem chk_zero {m : Md} (h : m.chk = 0) : m.headE = 0 ∧ partsE m m.cfg.blks = 0 := by
  by_cases h0 : m.headE = 0
  · exact ⟨h0, (chk_yes h0).symm.trans h⟩
  · rw [chk_no h0] at h
    exact absurd h h0
theorem rowsL_length (C R : Nat) (l : List Int) : (rowsL C R l).length = R := by simp [rowsL]
theorem leavesB_length (b : Bl) (p : Mt) : (leavesB b p).length = b.r := by simp [leavesB, rowsL_length]

/-! ### a leaf more -/
theorem info39 : (Try.prog.info? 24).map (fun i => (i.zero, i.size, i.bytes)) = some (some (.slice none 0 0), 1, 24) := by kernel_rfl
theorem wpList_push_leaf {W : World} {ops : Array Oper} {rest : List Oper} {o : Oper} {a : Act} {Q : Exit → Act → World → Prop} (hgd : o.guard = none) (s x : Operand) (ho : o.op = .call { callee := .builtin .append, args := #[s, x], argTypes := #[39, 39] })
    (base : Nat) (v u : Value) (ls : List (List Int)) (l : List Int) (hs : a.eval s = v) (hv : LvR base v ls W) (hu : PcT base W u l)
    (b : Nat) (hx : a.eval x = .slice (some ⟨b, 0, none⟩) 1 1) (hbk : W.heap[b]? = some (.cells #[u] 24 (0, 0))) (hn : ls.length ≤ 999990)
    (h : ∀ v' w', LvR base v' (ls ++ [l]) w' → W.grownBy w' v.ownBlock → wpList Try.prog ops Q rest (a.put o.dst v') w') : wpList Try.prog ops Q (o :: rest) a W := by
  have hsl : Sl W (some ⟨b, 0, none⟩) 1 [u] := by
    refine ⟨by simp, by unfold maxLen; omega, (fun h => by cases h), fun _ => ⟨_, _, rfl, fun i y hy => ?_⟩⟩
    rw [cell_of_row _ _ _ _ _ _ hbk, ← hy]
    simp
  have hr := hv
  obtain ⟨vs, h1, h2, h3, h4⟩ := hv
  have h1u : u.oneCell' = true := by
    obtain ⟨sp, cap, rfl, _⟩ := hu
    rfl
  refine wpList_append_sl 39 24 24 (.slice none 0 0) Try.underlying39 info39 rfl (by decide) hgd s x ho base v ls.length 1 vs [u] hs h1 (some ⟨b, 0, none⟩) 1 hx rfl hsl (fun y hy => by simp at hy; rw [hy]; exact h1u) (by omega) h4 ?_
  intro v' w' k1 k2
  refine h v' w' ⟨vs ++ [u], by rw [List.length_append]; exact k1, by simp [h2], fun i y hy => ?_, Nat.le_trans h4 k2.size⟩ k2
  by_cases hi : i < vs.length
  · rw [List.getElem?_append_left hi] at hy
    have e : (ls ++ [l]).getD i [] = ls.getD i [] := by
      rw [List.getD_eq_getElem?_getD, List.getElem?_append_left (by omega), ← List.getD_eq_getElem?_getD]
    rw [e]
    exact PcT.grown hr k2 (h3 i y hy)
  · have hi2 : i = vs.length := by
      have := (List.getElem?_eq_some_iff.1 hy).1
      simp at this
      omega
    subst hi2
    rw [List.getElem?_append_right (Nat.le_refl _)] at hy
    simp at hy
    subst hy
    have e : (ls ++ [l]).getD vs.length [] = l := by
      rw [List.getD_eq_getElem?_getD, List.getElem?_append_right (by omega), h2]
      simp
    rw [e]
    exact PcT.grown hr k2 hu
theorem LvR.keepsFrom {base B : Nat} {v : Value} {ls : List (List Int)} {W W' : World} (h : LvR base v ls W) (hg : W.grownBy W' v.ownBlock) : KeepsFrom B W W' :=
  ⟨hg.size, fun _ _ _ hk ho => h.keeps hg hk (Or.inr fun cs fr e => by rw [e] at ho; cases ho)⟩
theorem Hw.past {w W W' : World} {v : Wv} {m : Md} {base : Nat} (hv : WvOK w v m) (h : Hw w v m W) (hb : Below base W W') (hlt : w.heap.size < base) : Hw w v m W' := by
  have h1 := h.below.trans (hb.mono (by omega))
  have := h.hi
  exact ⟨h1, (hb.block _ hlt).trans h.md.row, hv.later h1⟩
/-- what stands between two rounds of Leaves -/
def LvS (w : World) (v : Wv) (m : Md) (base : Nat) (ls : List (List Int)) (W : World) : Prop := ∃ val, Boxed W (base + 1) 39 val ∧ (∀ y, val ≠ .int .u8 y) ∧ LvR base val ls W ∧ Hw w v m W
theorem LvS.later {w W W' : World} {v : Wv} {m : Md} {base : Nat} {ls : List (List Int)} (h : LvS w v m base ls W) (hb : Below W.heap.size W W') : LvS w v m base ls W' := by
  obtain ⟨val, h1, h2, h3, h4⟩ := h
  exact ⟨val, boxed_below h1 hb, h2, h3.later hb, h4.later hb⟩
theorem LvS.own {w : World} {v : Wv} {m : Md} {base n : Nat} {α : Type} {f : α → List (List Int)} (hn : w.heap.size ≤ n) : OwnFrom n (fun (s : α) W => LvS w v m base (f s) W) := fun s X Y row hs hg hr => by
  obtain ⟨val, h1, h2, h3, h4⟩ := hs
  exact ⟨val, row_own' () X Y row h1 hg hr, h2, LvR.own (B := n) (f := f) s X Y row h3 hg hr, Hw.own (α := Unit) hn () X Y row h4 hg hr⟩
theorem KpB.own {B n0 bc : Nat} {Wb : World} {α : Type} : OwnFrom B (fun (_ : α) W => KpB n0 bc Wb W) := fun _ X Y row hs hg hr =>
  ⟨Nat.le_trans hs.size hg.size, fun k cs t hk ht e => row_own' () X Y row (hs.same k cs t hk ht e) hg hr⟩
/-- a leaf more, and the box -/
theorem LvS.push {w W W' : World} {v : Wv} {m : Md} {base : Nat} {ls ls' : List (List Int)} {val v' : Value} (hv : WvOK w v m) (hlt : w.heap.size < base) (hb : Boxed W (base + 1) 39 val) (h2 : ∀ y, val ≠ .int .u8 y) (hr : LvR base val ls W) (hw : Hw w v m W)
    (hg : W.grownBy W' val.ownBlock) (hr' : LvR base v' ls' W') (h3 : ∀ y, v' ≠ .int .u8 y) : LvS w v m base ls' (W'.setCell ⟨base + 1, 0, none⟩ v') :=
  ⟨v', (hr.boxed hg hb (by decide)).set _, h3, hr'.set (hr.boxed hg hb (by decide)) h2 (by decide) v', (Hw.past hv hw (hr.below hg) hlt).set hv (by omega) v'⟩
theorem LvR.isSl {base : Nat} {v : Value} {ls : List (List Int)} {W : World} (h : LvR base v ls W) : ∀ y, v ≠ .int .u8 y := fun y e => by
  obtain ⟨vs, h1, _⟩ := h
  rcases h1.2 with ⟨rfl, _⟩ | ⟨g, cap, cur, rfl, _⟩ <;> cases e

/-! ### Leaves of what is no model -/
set_option maxHeartbeats 8000000 in
theorem leaves_no (w : World) (v : Wv) (m : Md) (hv : WvOK w v m) (ha : m.al.length ≤ 1000) (hp : m.ps.length ≤ 1000) (hE : m.chk ≠ 0) :
    Calls Try.prog 18 #[.agg v.cells] w fun e w' => e = .returned (.tuple #[.slice none 0 0, .int .i64 m.chk]) ∧ Below w.heap.size w w' := by
  have HB := Lib.hid (Hw.made hv)
  have HC := Lib.hid (fun W (h : Hw w v m W) => check_any W v m (hv.later h.below) ha hp)
  obtain ⟨E, hEE⟩ : ∃ E, m.chk = E := ⟨_, rfl⟩
  rw [hEE] at HC hE ⊢
  have n1 : (E == 0) = false := by simpa using hE
  have n2 : (E != 0) = true := by simpa using hE
  clear hv ha hp hE hEE
  unfold Wv.cells at HB HC ⊢
  go_enter Try.func18, Try.ntmps18
  go_upto_region 1 with fail
  refine gen_w (Q := fun w => Code.wp _ _ _ _ w) _ (Hw w v m) HB.out ?_
  clear HB
  intro w1 hx
  have HX := Lib.hid hx
  have HR := Lib.hid hx.md.row
  clear hx
  unfold Wv.cells at HR
  go_wp2_with (first
    | (refine wpList_load_row rfl 31 (.tmp 1) rfl w.heap.size rfl 31 _ (0, 0) _ HR.out Try.underlying31 rfl size_wts ?_)
    | (refine (HC.out w1 HX.out).mono ?_; rintro e w2 ⟨rfl, hb2⟩; have HX2 := Lib.hid (HX.out.later hb2); clear hb2))
  exact bodyPost_ret (v := .tuple #[.slice none 0 0, .int .i64 E]) (by simp [results, Try.results18, go_sem]) rfl ⟨rfl, HX2.out.below⟩
end Go.Proofs.Ytkfkjapkcjidnaa.Wg
