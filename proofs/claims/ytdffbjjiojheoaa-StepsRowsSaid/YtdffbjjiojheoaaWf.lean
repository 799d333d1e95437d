import Derived.Test.YtdffbjjiojheoaaWe
namespace Go.Proofs.Ytdffbjjiojheoaa.Wg
set_option maxRecDepth 100000
open Go.ChangeShapes Go.WideShapes Go.ChangeAt Go.RowKit Go.Shelf Go.Proofs.Ytdffbjjiojheoaa.Tn
attribute [local go_sem] Oper.semAt_some

/-! ### all parts, told one by one -/
/-- the types of what the iterator reads between two rounds -/
def Tk (t : TypeId) : Prop := t = 3 ∨ t = 117 ∨ t = 31 ∨ t = 140 ∨ t = 142
/-- what a round keeps: such blocks beyond n0, and block bc -/
structure KpB (n0 bc : Nat) (W W' : World) : Prop where
  size : W.heap.size ≤ W'.heap.size
  same : ∀ k cs t, n0 ≤ k ∨ k = bc → Tk t → W.heap[k]? = some (.cells cs t (0, 0)) → W'.heap[k]? = some (.cells cs t (0, 0))
theorem KpB.refl (n0 bc : Nat) (W : World) : KpB n0 bc W W := ⟨Nat.le_refl _, fun _ _ _ _ _ h => h⟩
theorem KpB.trans {n0 bc : Nat} {A B C : World} (h : KpB n0 bc A B) (k : KpB n0 bc B C) : KpB n0 bc A C := ⟨Nat.le_trans h.size k.size, fun j cs t hj ht e => k.same j cs t hj ht (h.same j cs t hj ht e)⟩
theorem KpB.of_below {n0 bc : Nat} {W W' : World} (h : Below W.heap.size W W') : KpB n0 bc W W' := ⟨h.size, fun _ _ _ _ _ e => (h.block _ (Array.getElem?_eq_some_iff.1 e).1).trans e⟩
theorem KpB.put {n0 bc : Nat} (W : World) (l : Nat) (o o' : Obj) (h : W.heap[l]? = some o) (ho : o.isCells = false) : KpB n0 bc W (W.putObj l o') :=
  ⟨by simp [World.putObj], fun j cs t _ _ e => by
    have hne : j ≠ l := fun e2 => by rw [e2, h] at e; cases e; cases ho
    exact (World.putObj_heap_other hne).trans e⟩
theorem LayFn.kept {n0 n1 bc : Nat} {W W' : World} {x : Bk} (h : LayFn n1 W x) (hn : n0 ≤ n1) (hk : KpB n0 bc W W') : LayFn n1 W' x := by
  obtain ⟨bi, bl, h1, h2, h3, h4, h5⟩ := h
  refine ⟨bi, bl, h1, h2, hk.same _ _ _ (Or.inl (by omega)) ?_ h3, hk.same _ _ _ (Or.inl (by omega)) (Or.inl rfl) h4, h5⟩
  split
  · exact Or.inr (Or.inr (Or.inr (Or.inl rfl)))
  · exact Or.inr (Or.inr (Or.inr (Or.inr rfl)))
theorem LayFn.ge {n0 n1 : Nat} {W : World} {x : Bk} (h : LayFn n1 W x) (hn : n0 ≤ n1) : LayFn n0 W x := by
  obtain ⟨bi, bl, h1, h2, h3⟩ := h
  exact ⟨bi, bl, by omega, by omega, h3⟩
theorem LayAt.kept {n0 n1 bc : Nat} {W W' : World} {d i : Int} {y g : Nat} {xs : List Bk} (h : LayAt n1 d i y g xs W) (hn : n0 ≤ n1) (hg : n0 ≤ g) (hk : KpB n0 bc W W') : LayAt n1 d i y g xs W' :=
  ⟨hk.same _ _ _ (Or.inl hg) (Or.inr (Or.inl rfl)) h.row, h.parts, fun x hx => (h.fns x hx).kept hn hk⟩
theorem LayAt.later {n1 : Nat} {W W' : World} {d i : Int} {y g : Nat} {xs : List Bk} (h : LayAt n1 d i y g xs W) (hb : Below W.heap.size W W') : LayAt n1 d i y g xs W' :=
  ⟨(hb.block _ (Array.getElem?_eq_some_iff.1 h.row).1).trans h.row, h.parts, fun x hx => (h.fns x hx).later hb⟩
theorem LayAt.length {n1 : Nat} {W : World} {d i : Int} {y g : Nat} {xs : List Bk} (h : LayAt n1 d i y g xs W) : xs.length = 9 := by
  have := congrArg List.length h.parts
  simpa [layB_length] using this
theorem flat_at : ∀ (xs : List Bk) (j m : Nat) (x : Bk), xs[j]? = some x → m < 6 → (xs.flatMap fun x => x.cells.toList)[j * 6 + m]? = x.cells[m]?
  | [], j, m, x, h, _ => by simp at h
  | a :: xs, 0, m, x, h, hm => by
    obtain rfl : a = x := by simpa using h
    rw [List.flatMap_cons, List.getElem?_append_left (by simp [Bk.cells, blC]; omega)]
    simp
  | a :: xs, j + 1, m, x, h, hm => by
    rw [List.flatMap_cons, List.getElem?_append_right (by simp [Bk.cells, blC]; omega)]
    have e : (j + 1) * 6 + m - a.cells.toList.length = j * 6 + m := by simp [Bk.cells, blC]; omega
    rw [e]
    exact flat_at xs j m x (by simpa using h) hm
theorem LayAt.at_ {n1 : Nat} {W : World} {d i : Int} {y g : Nat} {xs : List Bk} (h : LayAt n1 d i y g xs W) {j : Nat} {x : Bk} (hj : xs[j]? = some x) {m : Nat} (hm : m < 6) : W.cell? ⟨g, j * 6 + m, none⟩ = x.cells[m]? := by
  rw [cell_of_row _ _ _ _ _ _ h.row]
  simp only [List.getElem?_toArray]
  exact flat_at xs j m x hj hm
/-- a store of a whole struct into a block that has just been made -/
theorem alloc_setRow (w : World) (old cs : Array Value) (t : TypeId) : (w.alloc (.cells old t)).setRow w.heap.size cs = w.alloc (.cells cs t) := by
  unfold World.alloc World.setRow
  congr 1
  apply Array.ext
  · simp
  · intro k h1 h2
    rw [Array.getElem_modify, Array.getElem_push]
    split
    · rename_i h3
      subst h3
      simp
    · rename_i h3
      have h4 : k < w.heap.size := by simp at h2; omega
      rw [Array.getElem_push, dif_pos h4, dif_pos h4]
section
variable {F : Fence} {n : Nat} {P : Program} {ops : Array Oper} {rest : List Oper} {o : Oper} {a : Act} {w : World} {Q : Exit → Act → World → Prop}
theorem wpListIn_store_row (hgd : o.guard = none) (ty : TypeId) (x y : Operand) (ho : o.op = .store ty x y) (g : Nat) (cells : Array Value) (hx : a.eval x = .pointer (some ⟨g, 0, none⟩)) (hy : a.eval y = .agg cells)
    (t : TypeId) (old : Array Value) (hg : w.heap[g]? = some (.cells old t (0, 0))) (hi : (P.info? ty).map (·.size) = some cells.size) (hold : old.size = cells.size) (h1 : cells.all (·.oneCell') = true)
    (h : wpListIn F n P ops Q rest (a.put o.dst undef) (w.setRow g cells)) : wpListIn F n P ops Q (o :: rest) a w := by
  refine wpListIn_plain hgd fun K hK => ?_
  unfold Oper.wpIn
  refine ⟨by simp [Oper.about, ho], ?_⟩
  rw [Oper.semAt_plain F _ _ (by rw [ho]; intro c hc; cases hc)]
  unfold execOp
  simp only [ho, hx, hy, Instr.storeAt, Instr.sureAddr, Sem.run_bind, Sem.run_pure, Result.andThen_ok, run_storeVar_row w g t ty old cells hg hi hold h1]
  exact hK _ _ h
theorem wpListIn_store_new {w0 : World} (hgd : o.guard = none) (ty : TypeId) (x y : Operand) (ho : o.op = .store ty x y) (cells : Array Value) (old : Array Value) (t : TypeId) (hw : w = w0.alloc (.cells old t)) (hx : a.eval x = .pointer (some ⟨w0.heap.size, 0, none⟩)) (hy : a.eval y = .agg cells)
    (hi : (P.info? ty).map (·.size) = some cells.size) (hold : old.size = cells.size) (h1 : cells.all (·.oneCell') = true)
    (h : wpListIn F n P ops Q rest (a.put o.dst undef) (w0.alloc (.cells cells t))) : wpListIn F n P ops Q (o :: rest) a w := by
  subst hw
  refine wpListIn_store_row hgd ty x y ho w0.heap.size cells hx hy t old (heap_alloc_new _ _) hi hold h1 ?_
  rw [alloc_setRow]
  exact h
theorem wpListIn_load_row (hgd : Region.wanted o (yielded ops a.tmps) = true) (ty : TypeId) (x : Operand) (ho : o.op = .load ty x) (g : Nat) (hx : a.eval x = .pointer (some ⟨g, 0, none⟩)) (t : TypeId) (cs : Array Value) (fr : Nat × Nat) (d : TypeDesc) (hg : w.heap[g]? = some (.cells cs t fr))
    (hu : P.underlying ty = some d) (hd : (match d with | .struct _ | .array _ _ => true | _ => false) = true) (hi : (P.info? ty).map (·.size) = some cs.size)
    (h : wpListIn F n P ops Q rest (a.put o.dst (.agg cs)) w) : wpListIn F n P ops Q (o :: rest) a w := by
  refine wpListIn_step fun K hK => ?_
  rw [if_pos hgd]
  unfold Oper.wpIn
  refine ⟨by simp [Oper.about, ho], ?_⟩
  rw [Oper.semAt_plain F _ _ (by rw [ho]; intro c hc; cases hc)]
  unfold execOp
  simp only [ho, hx, Instr.loadAt, Instr.sureAddr, Sem.run_bind, Sem.run_pure, Result.andThen_ok, run_loadVar_row w g t ty cs fr d hg hu hd hi]
  exact hK _ _ h
end
/-- a config in a block -/
theorem cfg_cells {W : World} {bc : Nat} {c : Cfg} (h : W.heap[bc]? = some (.cells c.cells 31 (0, 0))) :
    W.cell? ⟨bc, 0, none⟩ = some (.int .i64 c.v) ∧ W.cell? ⟨bc, 1, none⟩ = some (.int .i64 c.d) ∧ W.cell? ⟨bc, 2, none⟩ = some (.int .i64 c.h) ∧ W.cell? ⟨bc, 3, none⟩ = some (.int .i64 c.l) ∧ W.cell? ⟨bc, 4, none⟩ = some (.int .i64 c.x) ∧ W.cell? ⟨bc, 5, none⟩ = some (.int .i64 c.i) := by
  refine ⟨?_, ?_, ?_, ?_, ?_, ?_⟩ <;> · rw [cell_of_row _ _ _ _ _ _ h]; rfl
/-- what lies in memory beside a part -/
def FnOK (n0 : Nat) (W : World) (x : Bk) : Prop :=
  (x.b.k = 1 ∧ x.vf = .nilFunc ∧ x.mf = .func (.func 73) #[] #[]) ∨ (x.b.k = 11 ∧ x.vf = .func (.func 75) #[] #[] ∧ x.mf = .nilFunc) ∨ (x.b.k = 12 ∧ x.vf = .nilFunc ∧ x.mf = .func (.func 76) #[] #[]) ∨ ((2 ≤ x.b.k ∧ x.b.k ≤ 10) ∧ LayFn n0 W x)
/-- so many parts have been told, or no more are wanted -/
def Went (L : List Bl) (J Jx : List Bk → World → Prop) (n0 bc : Nat) (c : Cfg) (more : Bool) (q : Nat) (W : World) : Prop :=
  W.heap[bc]? = some (.cells c.cells 31 (0, 0)) ∧ n0 ≤ W.heap.size ∧ ((more = true ∧ ∃ ys : List Bk, ys.map (·.b) = L.take q ∧ J ys W) ∨ (more = false ∧ ∃ pre, Jx pre W))
section
variable {L : List Bl} {J Jx : List Bk → World → Prop} {n0 bc : Nat} {c : Cfg} {more : Bool} {q : Nat} {W W' : World}
theorem abides_below {B : Nat} (h : AbidesFrom B J) {s : List Bk} (hs : J s W) (hb : Below W.heap.size W W') : J s W' := h s W W' none hs ⟨hb.os, hb.tape, hb.output, hb.size, fun k hk _ => hb.block k hk⟩ (fun r e => by cases e)
theorem Went.later {B : Nat} (h : Went L J Jx n0 bc c more q W) (hJ : AbidesFrom B J) (hJx : AbidesFrom B Jx) (hb : Below W.heap.size W W') : Went L J Jx n0 bc c more q W' := by
  obtain ⟨h1, h2, h3⟩ := h
  refine ⟨(hb.block _ (Array.getElem?_eq_some_iff.1 h1).1).trans h1, Nat.le_trans h2 hb.size, ?_⟩
  rcases h3 with ⟨h4, ys, h5, h6⟩ | ⟨h4, pre, h5⟩
  · exact Or.inl ⟨h4, ys, h5, abides_below hJ h6 hb⟩
  · exact Or.inr ⟨h4, pre, abides_below hJx h5 hb⟩
theorem Went.no (h : Went L J Jx n0 bc c false q W) (q' : Nat) : Went L J Jx n0 bc c false q' W := by
  obtain ⟨h1, h2, ⟨h4, _⟩ | h4⟩ := h
  · cases h4
  · exact ⟨h1, h2, Or.inr h4⟩
theorem went_next {ys : List Bk} {x : Bk} {e : Ending} (hcb : W.heap[bc]? = some (.cells c.cells 31 (0, 0))) (hn0 : n0 ≤ W.heap.size) (hys : ys.map (·.b) = L.take q) (hx : L[q]? = some x.b)
    (h : (e = .returned (.bool true) ∧ J (ys ++ [x]) W' ∧ KpB n0 bc W W') ∨ (e = .returned (.bool false) ∧ Jx (ys ++ [x]) W' ∧ KpB n0 bc W W')) : ∃ mr, e = .returned (.bool mr) ∧ KpB n0 bc W W' ∧ Went L J Jx n0 bc c mr (q + 1) W' := by
  have hkb : ∀ (_ : KpB n0 bc W W'), W'.heap[bc]? = some (.cells c.cells 31 (0, 0)) ∧ n0 ≤ W'.heap.size := fun hk => ⟨hk.same _ _ _ (Or.inr rfl) (Or.inr (Or.inr (Or.inl rfl))) hcb, Nat.le_trans hn0 hk.size⟩
  rcases h with ⟨rfl, h1, h2⟩ | ⟨rfl, h1, h2⟩
  · refine ⟨true, rfl, h2, (hkb h2).1, (hkb h2).2, Or.inl ⟨rfl, ys ++ [x], ?_, h1⟩⟩
    rw [List.map_append, hys, List.take_add_one, hx]
    rfl
  · exact ⟨false, rfl, h2, (hkb h2).1, (hkb h2).2, Or.inr ⟨rfl, _, h1⟩⟩
theorem Went.yes (h : Went L J Jx n0 bc c true q W) : ∃ ys : List Bk, ys.map (·.b) = L.take q ∧ J ys W := by
  obtain ⟨_, _, ⟨_, h4⟩ | ⟨h4, _⟩⟩ := h
  · exact h4
  · cases h4
theorem took_len {ys : List Bk} {L : List Bl} {q : Nat} (h : ys.map (·.b) = L.take q) (hq : q ≤ L.length) : ys.length = q := by
  have := congrArg List.length h
  rw [List.length_map, List.length_take] at this
  omega
end
set_option maxHeartbeats 8000000 in
theorem blocks1_in (m : Nat) (_hm : 1 ≤ m) (l bc n0 V D L I : Nat) (ch cx : Int) (hL : L ≤ 4) (J Jx : List Bk → World → Prop)
    (hY : ∀ pre x W, J pre W → ((blks V D L I)[pre.length]? = some x.b ∧ FnOK n0 W x) → YieldAt Fence.wide (m - 1) Try.prog l #[x.val] W fun e W' => (e = .returned (.bool true) ∧ J (pre ++ [x]) W' ∧ KpB n0 bc W W') ∨ (e = .returned (.bool false) ∧ Jx (pre ++ [x]) W' ∧ KpB n0 bc W W'))
    (W : World) (hn0 : n0 ≤ W.heap.size) (hJ : AbidesFrom W.heap.size J) (hJx : AbidesFrom W.heap.size Jx) (cb : W.heap[bc]? = some (.cells (Cfg.cells ⟨V, D, ch, L, cx, I⟩) 31 (0, 0))) (h0 : J [] W) :
    CallsIn Fence.wide m Try.prog 72 #[.func (.yield l) #[] #[], .pointer (some ⟨bc, 0, none⟩)] W fun e W' => (∃ v, e = .returned v) ∧ ((∃ ys : List Bk, ys.map (·.b) = blks V D L I ∧ J ys W') ∨ (∃ pre, True ∧ Jx pre W')) := by
  obtain ⟨c, hc⟩ : ∃ c : Cfg, (⟨V, D, ch, L, cx, I⟩ : Cfg) = c := ⟨_, rfl⟩
  have cvv : c.v = (V : Int) := by rw [← hc]
  have cdd : c.d = (D : Int) := by rw [← hc]
  have cll : c.l = (L : Int) := by rw [← hc]
  have cii : c.i = (I : Int) := by rw [← hc]
  obtain ⟨BL, hBL⟩ : ∃ BL, blks V D L I = BL := ⟨_, rfl⟩
  have hlen : BL.length = 9 * L + 3 := by rw [← hBL]; exact blks_length V D L I
  have hb0 : BL[0]? = some ⟨1, 0, V, D⟩ := by rw [← hBL]; rfl
  have hbl : ∀ y j, y < L → j < 9 → BL[1 + 9 * y + j]? = (layB D I y)[j]? := by rw [← hBL]; exact fun y j hy hj => blks_lay V D L I hy hj
  have hbn : BL[1 + 9 * L]? = some ⟨11, 0, 1, D⟩ := by rw [← hBL]; exact blks_norm V D L I
  have hbo : BL[1 + 9 * L + 1]? = some ⟨12, 0, V, D⟩ := by rw [← hBL]; exact blks_out V D L I
  rw [hBL] at hY ⊢
  rw [hc] at cb
  have HY := Lib.hid hY
  have HJ : Hid (AbidesFrom W.heap.size J) := hJ
  have HJx : Hid (AbidesFrom W.heap.size Jx) := hJx
  have Hlen := Lib.hid hlen
  have Hb0 := Lib.hid hb0
  have Hbl := Lib.hid hbl
  have Hbn := Lib.hid hbn
  have Hbo := Lib.hid hbo
  have Hv := Lib.hid cvv
  have Hd := Lib.hid cdd
  have Hl := Lib.hid cll
  have Hi := Lib.hid cii
  have HL := Lib.hid hL
  clear hY hJ hJx hlen hb0 hbl hbn hbo hBL hc cvv cdd cll cii hL
  have HW0 : Hid (W.heap.size = W.heap.size) := Lib.hid rfl
  obtain ⟨fn, tmps, assign, body, hy, hR⟩ := HY.out [] ⟨⟨1, 0, V, D⟩, .nilFunc, .func (.func 73) #[] #[]⟩ W h0 ⟨Hb0.out, Or.inl ⟨rfl, rfl, rfl⟩⟩
  have hy : (Instr.yield l #[.agg #[.int .i64 1, .int .i64 0, .int .i64 (V : Int), .int .i64 (D : Int), .nilFunc, .func (.func 73) #[] #[]]]).run Try.prog W = .ok (.round l fn tmps assign body) W := hy
  have HR := Lib.hid (hR.mono fun e W' h => went_next (L := BL) (c := c) (q := 0) cb hn0 (by rfl) Hb0.out h)
  obtain ⟨c0, c1, c2, c3, c4, c5⟩ := cfg_cells cb
  rw [Hv.out] at c0
  rw [Hd.out] at c1
  clear hR h0 cb hn0 c2 c3 c4 c5 HW0
  refine callsIn_of_wp Try.func72 rfl trivial ?_ rfl
  simp only [Try.ntmps72, List.size_toArray, List.length_cons, List.length_nil, Nat.reduceAdd, Nat.reduceSub, Array.replicate_succ, Array.replicate_zero, List.push_toArray, List.append_toArray, List.nil_append, List.cons_append]
  gi_wp2
  refine HR.out.mono ?_
  rintro e W3 ⟨mr, rfl, _, hw3⟩
  have HW3 := Lib.hid hw3
  obtain ⟨_, _, _, c3, _, _⟩ := cfg_cells hw3.1
  rw [Hl.out] at c3
  clear hw3 HR hy
  gi_wp2
  gi_loopw [3, 4, 6, 16] (fun mv _ _ iv wr => ∃ (mr : Bool) (i : Nat), i ≤ L ∧ mv = .bool mr ∧ iv = .int .i64 i ∧ Went BL J Jx n0 bc c mr (1 + 9 * i) wr) (fun _ _ _ iv _ => L - (intOf iv).toNat)
  case atStart => exact ⟨mr, 0, by omega, rfl, rfl, HW3.out⟩
  case round =>
    clear HW3 c3 c0 c1
    obtain ⟨mr, i, hi, rfl, rfl, hw⟩ := hrel
    have HW := Lib.hid hw
    obtain ⟨c0, c1, c2, c3, c4, c5⟩ := cfg_cells hw.1
    clear hw
    by_cases hil : i < L
    · have hd1 : decide (i < L) = true := by simpa using hil
      have hd2 : decide ((i : Int) < (L : Int)) = true := by simp; omega
      have hlb := layerBlocks_any wr c i (by rw [Hd.out]; omega) (by rw [Hi.out]; omega)
      obtain ⟨n1, hn1⟩ : ∃ n1, wr.heap.size = n1 := ⟨_, rfl⟩
      rw [hn1] at hlb
      have HN1 := Lib.hid hn1
      have HLb := Lib.hid hlb
      clear hn1 hlb
      unfold Cfg.cells at HLb
      gi_wp2_with (refine ⟨trivial, ?_⟩; gi_at_call 74; refine (callsIn_wide.2 HLb.out).mono ?_; rintro e w4 ⟨g, xs, rfl, hg, hla, hb4⟩; have HW4 := Lib.hid (HW.out.later HJ.out HJx.out (by rw [HN1.out]; exact hb4)); have HN : Hid (n0 ≤ n1) := Lib.hid (by rw [← HN1.out]; exact HW.out.2.1); have HG : Hid (n0 ≤ g) := Lib.hid (Nat.le_trans HN.out hg); have HLa := Lib.hid hla; clear hg hla hb4 HLb c0 c1 c2 c3 c4 c5)
      gi_loopw [3, 6, 23] (fun mv _ jv w5 => ∃ (mr : Bool) (j : Nat), j ≤ 9 ∧ mv = .bool mr ∧ jv = .int .i64 j ∧ Went BL J Jx n0 bc c mr (1 + 9 * i + j) w5 ∧ LayAt n1 c.d c.i i g xs w5) (fun _ _ jv _ => 9 - (intOf jv).toNat)
      case atStart => exact ⟨mr, 0, by omega, rfl, rfl, HW4.out, HLa.out⟩
      case round =>
        clear HW4 HLa HW
        obtain ⟨mr, j, hj, rfl, rfl, hw, hla⟩ := hrel
        have HW := Lib.hid hw
        have HLa := Lib.hid hla
        have hxl := hla.length
        clear hw hla
        by_cases hj9 : j < 9
        · have hd3 : decide (j < 9) = true := by simpa using hj9
          have hd4 : decide ((j : Int) < 9) = true := by simp; omega
          obtain ⟨x, hx⟩ : ∃ x, xs[j]? = some x := ⟨xs[j], by simp [hxl, hj9]⟩
          have HX := Lib.hid hx
          have hbx : BL[1 + 9 * i + j]? = some x.b := by
            rw [Hbl.out i j hil hj9]
            have h2 := HLa.out.parts
            rw [Hd.out, Hi.out] at h2
            have h3 : layB (D : Int).toNat (I : Int).toNat i = layB D I i := rfl
            rw [h3] at h2
            rw [← h2, List.getElem?_map, hx]
            rfl
          have hfn : FnOK n0 wr x := by
            have h1 := HLa.out.fns x (List.mem_of_getElem? hx)
            refine Or.inr (Or.inr (Or.inr ⟨?_, h1.ge HN.out⟩))
            have h2 := HLa.out.parts
            have h3 : (xs.map (·.b))[j]? = some x.b := by rw [List.getElem?_map, hx]; rfl
            rw [h2] at h3
            have h4 := List.mem_of_getElem? h3
            simp only [layB, List.mem_cons, List.not_mem_nil, or_false] at h4
            rcases h4 with h4 | h4 | h4 | h4 | h4 | h4 | h4 | h4 | h4 <;> rw [h4] <;> exact of_decide_eq_true rfl
          have Hbx := Lib.hid hbx
          have Hfn := Lib.hid hfn
          obtain ⟨⟨k, y, r, cc⟩, vf, mf⟩ := x
          have q0 : wr.cell? ⟨g, j * 6, none⟩ = some (.int .i64 (k : Int)) := HLa.out.at_ HX.out (m := 0) (by decide)
          have q1 : wr.cell? ⟨g, j * 6 + 1, none⟩ = some (.int .i64 (y : Int)) := HLa.out.at_ HX.out (m := 1) (by decide)
          have q2 : wr.cell? ⟨g, j * 6 + 2, none⟩ = some (.int .i64 (r : Int)) := HLa.out.at_ HX.out (m := 2) (by decide)
          have q3 : wr.cell? ⟨g, j * 6 + 3, none⟩ = some (.int .i64 (cc : Int)) := HLa.out.at_ HX.out (m := 3) (by decide)
          have q4 : wr.cell? ⟨g, j * 6 + 4, none⟩ = some vf := HLa.out.at_ HX.out (m := 4) (by decide)
          have q5 : wr.cell? ⟨g, j * 6 + 5, none⟩ = some mf := HLa.out.at_ HX.out (m := 5) (by decide)
          clear hx hbx hfn hxl
          obtain ⟨bi, bl, hsh⟩ : ∃ bi bl, (vf = .func (.func 85) #[] #[.pointer (some ⟨bi, 0, none⟩), .pointer (some ⟨bl, 0, none⟩)] ∧ mf = .nilFunc) ∨ (vf = .nilFunc ∧ mf = .func (.func 87) #[] #[.pointer (some ⟨bi, 0, none⟩), .pointer (some ⟨bl, 0, none⟩)]) := by
            have h1 := HLa.out.fns _ (List.mem_of_getElem? HX.out)
            obtain ⟨bi, bl, _, _, _, _, h5, h6⟩ := h1
            refine ⟨bi, bl, ?_⟩
            cases hk : isVec k with
            | true => exact Or.inl (h5 hk)
            | false => exact Or.inr (h6 hk)
          clear HX
          rcases hsh with ⟨rfl, rfl⟩ | ⟨rfl, rfl⟩
          · have hal : Below wr.heap.size wr (wr.alloc (.cells #[.int .i64 (k : Int), .int .i64 (y : Int), .int .i64 (r : Int), .int .i64 (cc : Int), .func (.func 85) #[] #[.pointer (some ⟨bi, 0, none⟩), .pointer (some ⟨bl, 0, none⟩)], .nilFunc] 117)) := (Below.refl _ _).alloc (Nat.le_refl _) _
            have HWa := Lib.hid (HW.out.later HJ.out HJx.out hal)
            have HLaa := Lib.hid (HLa.out.later hal)
            obtain ⟨W6, hW6⟩ : ∃ W6, wr.alloc (.cells #[.int .i64 (k : Int), .int .i64 (y : Int), .int .i64 (r : Int), .int .i64 (cc : Int), .func (.func 85) #[] #[.pointer (some ⟨bi, 0, none⟩), .pointer (some ⟨bl, 0, none⟩)], .nilFunc] 117) = W6 := ⟨_, rfl⟩
            rw [hW6] at HWa HLaa
            have hrow : W6.heap[wr.heap.size]? = some (.cells #[.int .i64 (k : Int), .int .i64 (y : Int), .int .i64 (r : Int), .int .i64 (cc : Int), .func (.func 85) #[] #[.pointer (some ⟨bi, 0, none⟩), .pointer (some ⟨bl, 0, none⟩)], .nilFunc] 117 (0, 0)) := by rw [← hW6]; exact heap_alloc_new _ _
            have hfn6 : FnOK n0 W6 ⟨⟨k, y, r, cc⟩, .func (.func 85) #[] #[.pointer (some ⟨bi, 0, none⟩), .pointer (some ⟨bl, 0, none⟩)], .nilFunc⟩ := by
              rw [hW6] at hal
              rcases Hfn.out with h1 | h1 | h1 | ⟨h1, h2⟩
              · exact Or.inl h1
              · exact Or.inr (Or.inl h1)
              · exact Or.inr (Or.inr (Or.inl h1))
              · exact Or.inr (Or.inr (Or.inr ⟨h1, h2.later hal⟩))
            rw [← hW6] at HWa HLaa hrow hfn6
            have Hrow := Lib.hid hrow
            clear hW6 hal HW HLa Hfn hrow
            cases mr with
            | true =>
              obtain ⟨ys, hys, hj6⟩ := HWa.out.yes
              have hyl := took_len hys (by rw [Hlen.out]; omega)
              obtain ⟨fn, tmps, assign, body, hy, hR⟩ := HY.out ys _ _ hj6 ⟨by rw [hyl]; exact Hbx.out, hfn6⟩
              have hy : (Instr.yield l #[.agg #[.int .i64 (k : Int), .int .i64 (y : Int), .int .i64 (r : Int), .int .i64 (cc : Int), .func (.func 85) #[] #[.pointer (some ⟨bi, 0, none⟩), .pointer (some ⟨bl, 0, none⟩)], .nilFunc]]).run Try.prog _ = .ok (.round l fn tmps assign body) _ := hy
              have HR := Lib.hid (hR.mono fun e W' h => went_next (L := BL) (c := c) (q := 1 + 9 * i + j) HWa.out.1 HWa.out.2.1 hys Hbx.out h)
              have HLaa2 := HLaa
              clear hR hj6 hyl hys hfn6 HLaa
              gi_wp2_with (first | (refine wpListIn_store_new rfl 117 (.tmp 6) (.tmp 26) rfl #[.int .i64 (k : Int), .int .i64 (y : Int), .int .i64 (r : Int), .int .i64 (cc : Int), .func (.func 85) #[] #[.pointer (some ⟨bi, 0, none⟩), .pointer (some ⟨bl, 0, none⟩)], .nilFunc] zblk 117 rfl rfl rfl size_blk rfl (blC_one _ _ _ _ rfl rfl) ?_) | (refine wpListIn_load_row rfl 117 (.tmp 6) rfl wr.heap.size rfl 117 _ (0, 0) _ Hrow.out Try.underlying117 rfl size_blk ?_))
              refine HR.out.mono ?_
              rintro e W7 ⟨mr2, rfl, hk7, hw7⟩
              have HW7 := Lib.hid hw7
              have HLa7 := Lib.hid (HLaa2.out.kept HN.out HG.out hk7)
              clear hk7 hw7 hy HR
              gi_wp2
              go_roundw
              case rel => exact ⟨mr2, j + 1, by omega, rfl, by go_num, by rw [show 1 + 9 * i + (j + 1) = 1 + 9 * i + j + 1 by omega]; exact HW7.out, HLa7.out⟩
              case measure => simp [intOf]; omega
            | false =>
              have HWn := Lib.hid (HWa.out.no (1 + 9 * i + (j + 1)))
              clear hfn6 HWa
              gi_wp2_with (first | (refine wpListIn_store_new rfl 117 (.tmp 6) (.tmp 26) rfl #[.int .i64 (k : Int), .int .i64 (y : Int), .int .i64 (r : Int), .int .i64 (cc : Int), .func (.func 85) #[] #[.pointer (some ⟨bi, 0, none⟩), .pointer (some ⟨bl, 0, none⟩)], .nilFunc] zblk 117 rfl rfl rfl size_blk rfl (blC_one _ _ _ _ rfl rfl) ?_) | (refine wpListIn_skip (by rfl) (by rfl) ?_))
              go_roundw
              case rel => exact ⟨false, j + 1, by omega, rfl, by go_num, HWn.out, HLaa.out⟩
              case measure => simp [intOf]; omega
          · have hal : Below wr.heap.size wr (wr.alloc (.cells #[.int .i64 (k : Int), .int .i64 (y : Int), .int .i64 (r : Int), .int .i64 (cc : Int), .nilFunc, .func (.func 87) #[] #[.pointer (some ⟨bi, 0, none⟩), .pointer (some ⟨bl, 0, none⟩)]] 117)) := (Below.refl _ _).alloc (Nat.le_refl _) _
            have HWa := Lib.hid (HW.out.later HJ.out HJx.out hal)
            have HLaa := Lib.hid (HLa.out.later hal)
            obtain ⟨W6, hW6⟩ : ∃ W6, wr.alloc (.cells #[.int .i64 (k : Int), .int .i64 (y : Int), .int .i64 (r : Int), .int .i64 (cc : Int), .nilFunc, .func (.func 87) #[] #[.pointer (some ⟨bi, 0, none⟩), .pointer (some ⟨bl, 0, none⟩)]] 117) = W6 := ⟨_, rfl⟩
            rw [hW6] at HWa HLaa
            have hrow : W6.heap[wr.heap.size]? = some (.cells #[.int .i64 (k : Int), .int .i64 (y : Int), .int .i64 (r : Int), .int .i64 (cc : Int), .nilFunc, .func (.func 87) #[] #[.pointer (some ⟨bi, 0, none⟩), .pointer (some ⟨bl, 0, none⟩)]] 117 (0, 0)) := by rw [← hW6]; exact heap_alloc_new _ _
            have hfn6 : FnOK n0 W6 ⟨⟨k, y, r, cc⟩, .nilFunc, .func (.func 87) #[] #[.pointer (some ⟨bi, 0, none⟩), .pointer (some ⟨bl, 0, none⟩)]⟩ := by
              rw [hW6] at hal
              rcases Hfn.out with h1 | h1 | h1 | ⟨h1, h2⟩
              · exact Or.inl h1
              · exact Or.inr (Or.inl h1)
              · exact Or.inr (Or.inr (Or.inl h1))
              · exact Or.inr (Or.inr (Or.inr ⟨h1, h2.later hal⟩))
            rw [← hW6] at HWa HLaa hrow hfn6
            have Hrow := Lib.hid hrow
            clear hW6 hal HW HLa Hfn hrow
            cases mr with
            | true =>
              obtain ⟨ys, hys, hj6⟩ := HWa.out.yes
              have hyl := took_len hys (by rw [Hlen.out]; omega)
              obtain ⟨fn, tmps, assign, body, hy, hR⟩ := HY.out ys _ _ hj6 ⟨by rw [hyl]; exact Hbx.out, hfn6⟩
              have hy : (Instr.yield l #[.agg #[.int .i64 (k : Int), .int .i64 (y : Int), .int .i64 (r : Int), .int .i64 (cc : Int), .nilFunc, .func (.func 87) #[] #[.pointer (some ⟨bi, 0, none⟩), .pointer (some ⟨bl, 0, none⟩)]]]).run Try.prog _ = .ok (.round l fn tmps assign body) _ := hy
              have HR := Lib.hid (hR.mono fun e W' h => went_next (L := BL) (c := c) (q := 1 + 9 * i + j) HWa.out.1 HWa.out.2.1 hys Hbx.out h)
              have HLaa2 := HLaa
              clear hR hj6 hyl hys hfn6 HLaa
              gi_wp2_with (first | (refine wpListIn_store_new rfl 117 (.tmp 6) (.tmp 26) rfl #[.int .i64 (k : Int), .int .i64 (y : Int), .int .i64 (r : Int), .int .i64 (cc : Int), .nilFunc, .func (.func 87) #[] #[.pointer (some ⟨bi, 0, none⟩), .pointer (some ⟨bl, 0, none⟩)]] zblk 117 rfl rfl rfl size_blk rfl (blC_one _ _ _ _ rfl rfl) ?_) | (refine wpListIn_load_row rfl 117 (.tmp 6) rfl wr.heap.size rfl 117 _ (0, 0) _ Hrow.out Try.underlying117 rfl size_blk ?_))
              refine HR.out.mono ?_
              rintro e W7 ⟨mr2, rfl, hk7, hw7⟩
              have HW7 := Lib.hid hw7
              have HLa7 := Lib.hid (HLaa2.out.kept HN.out HG.out hk7)
              clear hk7 hw7 hy HR
              gi_wp2
              go_roundw
              case rel => exact ⟨mr2, j + 1, by omega, rfl, by go_num, by rw [show 1 + 9 * i + (j + 1) = 1 + 9 * i + j + 1 by omega]; exact HW7.out, HLa7.out⟩
              case measure => simp [intOf]; omega
            | false =>
              have HWn := Lib.hid (HWa.out.no (1 + 9 * i + (j + 1)))
              clear hfn6 HWa
              gi_wp2_with (first | (refine wpListIn_store_new rfl 117 (.tmp 6) (.tmp 26) rfl #[.int .i64 (k : Int), .int .i64 (y : Int), .int .i64 (r : Int), .int .i64 (cc : Int), .nilFunc, .func (.func 87) #[] #[.pointer (some ⟨bi, 0, none⟩), .pointer (some ⟨bl, 0, none⟩)]] zblk 117 rfl rfl rfl size_blk rfl (blC_one _ _ _ _ rfl rfl) ?_) | (refine wpListIn_skip (by rfl) (by rfl) ?_))
              go_roundw
              case rel => exact ⟨false, j + 1, by omega, rfl, by go_num, HWn.out, HLaa.out⟩
              case measure => simp [intOf]; omega
        · obtain rfl : j = 9 := by omega
          have hdf : decide ((9 : Nat) < 9) = false := by decide
          have hdf2 : decide (((9 : Nat) : Int) < 9) = false := by decide
          rw [show (((9 : Nat) : Int)) = 9 from rfl]
          have hdf3 : decide ((9 : Int) < 9) = false := by decide
          have hi4 : i + 1 ≤ 4 := by have := HL.out; omega
          clear hj9 hxl hj HLa
          gi_wp2
          go_roundw
          case rel => exact ⟨mr, i + 1, by omega, rfl, by go_num, by rw [show 1 + 9 * (i + 1) = 1 + 9 * i + 9 by omega]; exact HW.out⟩
          case measure => simp [intOf]; omega
    · obtain rfl : i = L := by omega
      have hdf : decide (i < i) = false := by simp
      have hdf2 : decide ((i : Int) < (i : Int)) = false := by simp
      clear hil hi c2 c3 c4 c5
      rw [Hv.out] at c0
      rw [Hd.out] at c1
      cases mr with
      | false =>
        have HWn := Lib.hid (HW.out.no 0)
        clear HW
        gi_wp2_with (refine wpListIn_skip (by rfl) (by rfl) ?_)
        go_end0
        obtain ⟨_, _, ⟨h1, _⟩ | ⟨_, pre, h1⟩⟩ := HWn.out
        · cases h1
        · exact ⟨⟨_, rfl⟩, .inr ⟨pre, trivial, h1⟩⟩
      | true =>
        obtain ⟨ys, hys, hj6⟩ := HW.out.yes
        have hyl := took_len hys (by rw [Hlen.out]; omega)
        obtain ⟨fn, tmps, assign, body, hy, hR⟩ := HY.out ys ⟨⟨11, 0, 1, D⟩, .func (.func 75) #[] #[], .nilFunc⟩ wr hj6 ⟨by rw [hyl]; exact Hbn.out, Or.inr (Or.inl ⟨rfl, rfl, rfl⟩)⟩
        have hy : (Instr.yield l #[.agg #[.int .i64 11, .int .i64 0, .int .i64 1, .int .i64 (D : Int), .func (.func 75) #[] #[], .nilFunc]]).run Try.prog wr = .ok (.round l fn tmps assign body) wr := hy
        have HR := Lib.hid (hR.mono fun e W' h => went_next (L := BL) (c := c) (q := 1 + 9 * i) HW.out.1 HW.out.2.1 hys Hbn.out h)
        clear hR hj6 hyl hys HW
        gi_wp2
        refine HR.out.mono ?_
        rintro e W7 ⟨mr2, rfl, _, hw7⟩
        have HW7 := Lib.hid hw7
        obtain ⟨c0, c1, _, _, _, _⟩ := cfg_cells hw7.1
        rw [Hv.out] at c0
        rw [Hd.out] at c1
        clear hw7 hy HR
        cases mr2 with
        | false =>
          have HWn := Lib.hid (HW7.out.no 0)
          clear HW7
          gi_wp2
          go_end0
          obtain ⟨_, _, ⟨h1, _⟩ | ⟨_, pre, h1⟩⟩ := HWn.out
          · cases h1
          · exact ⟨⟨_, rfl⟩, .inr ⟨pre, trivial, h1⟩⟩
        | true =>
          obtain ⟨ys, hys, hj6⟩ := HW7.out.yes
          have hyl := took_len hys (by rw [Hlen.out]; omega)
          obtain ⟨fn, tmps, assign, body, hy, hR⟩ := HY.out ys ⟨⟨12, 0, V, D⟩, .nilFunc, .func (.func 76) #[] #[]⟩ W7 hj6 ⟨by rw [hyl]; exact Hbo.out, Or.inr (Or.inr (Or.inl ⟨rfl, rfl, rfl⟩))⟩
          have hy : (Instr.yield l #[.agg #[.int .i64 12, .int .i64 0, .int .i64 (V : Int), .int .i64 (D : Int), .nilFunc, .func (.func 76) #[] #[]]]).run Try.prog W7 = .ok (.round l fn tmps assign body) W7 := hy
          have HR := Lib.hid (hR.mono fun e W' h => went_next (L := BL) (c := c) (q := 1 + 9 * i + 1) HW7.out.1 HW7.out.2.1 hys Hbo.out h)
          clear hR hj6 hyl hys HW7
          gi_wp2
          refine HR.out.mono ?_
          rintro e W8 ⟨mr3, rfl, _, hw8⟩
          have HW8 := Lib.hid hw8
          clear hw8 hy HR
          gi_wp2
          go_end0
          obtain ⟨_, _, ⟨_, ys, h1, h2⟩ | ⟨_, pre, h1⟩⟩ := HW8.out
          · exact ⟨⟨_, rfl⟩, .inl ⟨ys, by rw [h1, List.take_of_length_le (by rw [Hlen.out]; omega)], h2⟩⟩
          · exact ⟨⟨_, rfl⟩, .inr ⟨pre, trivial, h1⟩⟩
end Go.Proofs.Ytdffbjjiojheoaa.Wg
