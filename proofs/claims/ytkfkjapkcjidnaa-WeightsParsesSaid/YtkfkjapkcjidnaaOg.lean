import Derived.Test.YtkfkjapkcjidnaaOd
namespace Go.Proofs.Ytkfkjapkcjidnaa.Wg
set_option maxRecDepth 100000
open Go.ChangeShapes Go.WideShapes Go.ChangeAt Go.RowKit Go.Shelf Go.Proofs.Ytkfkjapkcjidnaa.Tn
attribute [local go_sem] Oper.semAt_some

/-! ### what stands between two rounds of read -/
theorem run_cutL (sp : Option Addr) (m cap k : Nat) (hk : k ≤ m) (w : World) : (Instr.slice 39 (.slice sp m cap) (some (.int .i64 (k : Int))) none none).run Try.prog w = .ok (.slice (cutA sp cap k) (m - k) (cap - k)) w := by
  cases hq : Try.prog.info? 24 with
  | none => have := size39; simp [hq] at this
  | some i =>
    have hi : i.size = 1 := by have := size39; simpa [hq] using this
    simp only [Instr.slice, run_underlying Try.underlying39, Instr.sliceBounds, Instr.sliceBound, asIntOf, sizeOf, typeInfo, Sem.run_bind, Result.andThen_ok, Sem.run_pure, Sem.run_ite]
    simp [hq, hi, hk, cutA]
theorem run_headL (sp : Option Addr) (m cap k : Nat) (hk : k ≤ cap) (w : World) : (Instr.slice 39 (.slice sp m cap) none (some (.int .i64 (k : Int))) none).run Try.prog w = .ok (.slice sp k cap) w := by
  cases hq : Try.prog.info? 24 with
  | none => have := size39; simp [hq] at this
  | some i =>
    have hi : i.size = 1 := by have := size39; simpa [hq] using this
    have hadd : sp.map (fun x => x.add 0) = sp := by
      rcases sp with _ | ⟨b, o, s⟩
      · rfl
      · simp [Addr.add]
    simp only [Instr.slice, run_underlying Try.underlying39, Instr.sliceBounds, Instr.sliceBound, asIntOf, sizeOf, typeInfo, Sem.run_bind, Result.andThen_ok, Sem.run_pure, Sem.run_ite]
    simp [hq, hi, hk, hadd]
theorem pieces_cut {W : World} {sp : Option Addr} {cap : Nat} {ls : List (List Int)} (h : Cd.Pieces W sp cap ls) (k : Nat) (hk : k ≤ ls.length) : Cd.Pieces W (cutA sp cap k) (cap - k) (ls.drop k) := by
  obtain ⟨vs, h1, h2, h3⟩ := h.ex
  refine ⟨vs.drop k, by simp [h1], h2.cut k (by omega), fun i v hv => ?_⟩
  rw [List.getElem?_drop] at hv
  have := h3 _ v hv
  rwa [List.getD_eq_getElem?_getD, ← List.getElem?_drop, ← List.getD_eq_getElem?_getD] at this
/-- what reads as leaves, whatever becomes of the model under way -/
def LvP (w : World) (g : Nat) (sp : Option Addr) (cap : Nat) (ls : List (List Int)) : Prop := ∀ W, Fr (fun j => j = g) w.heap.size w W → Cd.Pieces W sp cap ls
theorem LvP.cut {w : World} {g cap : Nat} {sp : Option Addr} {ls : List (List Int)} (h : LvP w g sp cap ls) (k : Nat) (hk : k ≤ ls.length) : LvP w g (cutA sp cap k) (cap - k) (ls.drop k) := fun W hW => pieces_cut (h W hW) k hk
/-- the numbers of a part's leaves -/
def numsR (b : Bl) (ls : List (List Int)) (q : Nat) : List Int := (ls.take q).flatMap fun l => Cd.ints l b.c
/-- a part, out of its leaves -/
def partR (b : Bl) (ls : List (List Int)) : Mt := ⟨if isVec b.k then 0 else b.r, if isVec b.k then 0 else b.c, numsR b ls b.r⟩
theorem numsR_length (b : Bl) (ls : List (List Int)) (q : Nat) (hq : q ≤ ls.length) : (numsR b ls q).length = q * b.c := by
  unfold numsR
  induction q with
  | zero => simp
  | succ q ih =>
    rw [List.take_add_one, List.flatMap_append, List.length_append, ih (by omega), List.getElem?_eq_getElem (by omega), Nat.add_mul]
    simp [Cd.ints_length]
theorem numsR_succ (b : Bl) (ls : List (List Int)) (q : Nat) (hq : q < ls.length) : numsR b ls (q + 1) = numsR b ls q ++ Cd.ints (ls.getD q []) b.c := by
  unfold numsR
  rw [List.take_add_one, List.flatMap_append, List.getElem?_eq_getElem hq, List.getD_eq_getElem?_getD, List.getElem?_eq_getElem hq]
  simp
/-- do a part's leaves fit? -/
def fitB (b : Bl) (ls : List (List Int)) : Prop := ∀ q, q < b.r → (ls.getD q []).length = 8 * b.c
def fits (BL : List Bl) (ls : List (List Int)) : Prop := ∀ i b, BL[i]? = some b → fitB b (ls.drop (rowsB (BL.take i)))
/-- the cells of a part of which so many rows are there -/
def stQ (b : Bl) (q : Nat) (val : Value) : St := ⟨if isVec b.k then 0 else (q : Int), if isVec b.k then 0 else if q = 0 then 0 else (b.c : Int), val⟩
/-- the parts of which all rows are there -/
structure RdS (n2 : Nat) (BL : List Bl) (ls : List (List Int)) (st : Nat → Nat → St) (β : Nat → Nat) (k : Nat) (W : World) : Prop where
  done : ∀ i b, i < k → BL[i]? = some b → ∃ c, st b.k b.y = stQ b b.r (.slice (some ⟨β i, 0, none⟩) (b.r * b.c) c) ∧ Nums W (some ⟨β i, 0, none⟩) c (numsR b (ls.drop (rowsB (BL.take i))) b.r)
  todo : ∀ i b, k ≤ i → BL[i]? = some b → st b.k b.y = stQ b 0 (.slice none 0 0)
  lo : ∀ i, i < k → n2 ≤ β i ∧ ∃ cs, W.heap[β i]? = some (.cells cs 3 (0, 0))
  asc : ∀ i j, i < j → j < k → β i < β j
theorem RdS.over {n2 : Nat} {BL : List Bl} {ls : List (List Int)} {st : Nat → Nat → St} {β : Nat → Nat} {k : Nat} {W W' : World} (h : RdS n2 BL ls st β k W) (hk : ∀ j, n2 ≤ j → j < W.heap.size → W'.heap[j]? = W.heap[j]?) : RdS n2 BL ls st β k W' := by
  have hlt : ∀ i, i < k → n2 ≤ β i ∧ β i < W.heap.size := fun i hi => by
    obtain ⟨h1, cs, h2⟩ := h.lo i hi
    exact ⟨h1, (Array.getElem?_eq_some_iff.1 h2).1⟩
  refine ⟨fun i b hi hb => ?_, h.todo, fun i hi => ?_, h.asc⟩
  · obtain ⟨c, e, hn⟩ := h.done i b hi hb
    refine ⟨c, e, hn.le, hn.max, hn.nul, fun h0 => ?_⟩
    obtain ⟨c', o, e2, hl⟩ := hn.lies h0
    refine ⟨c', o, e2, fun i' v hv => (World.cell?_of_block ?_).trans (hl i' v hv)⟩
    cases e2
    exact hk _ (hlt i hi).1 (hlt i hi).2
  · obtain ⟨h1, cs, h2⟩ := h.lo i hi
    exact ⟨h1, cs, (hk _ h1 (hlt i hi).2).trans h2⟩
/-- what stands between two rounds of read -/
structure RdI (w : World) (g lb L be n2 : Nat) (hh : Hr) (BL : List Bl) (ls : List (List Int)) (k : Nat) (W : World) : Prop where
  sz : n2 ≤ W.heap.size
  fr : Fr (fun j => j = g) w.heap.size w W
  bw : Boxed W w.heap.size 102 (.pointer (some ⟨g, 0, none⟩))
  bl : ∃ sp cap, Boxed W (w.heap.size + 1) 39 (.slice sp (ls.length - rowsB (BL.take k)) cap) ∧ LvP w g sp cap (ls.drop (rowsB (BL.take k)))
  be : Boxed W be 35 (.int .i64 0)
  st : ∃ st β, RdG W g lb L hh st ∧ RdS n2 BL ls st β k W
  fit : ∀ i b, i < k → BL[i]? = some b → fitB b (ls.drop (rowsB (BL.take i)))
/-- where read is left -/
def RdX (w : World) (g be : Nat) (BL : List Bl) (ls : List (List Int)) (c : Code) (W : World) : Prop := c = .exit 0 ∧ Fr (fun j => j = g) w.heap.size w W ∧ Boxed W be 35 (.int .i64 11) ∧ ¬ fits BL ls
theorem fr_own {X : Nat → Prop} {n B : Nat} {w : World} {α : Type} (hn : n ≤ w.heap.size) (hB : n ≤ B) : OwnFrom B (fun (_ : α) W => Fr X n w W) := fun _ A C row hs hg hr => hs.trans (Fr.grown hg (Nat.le_trans hn hs.size) fun r e => Or.inl (by have := (hr r e).1; omega))
theorem rdI_own {w : World} {g lb L be n2 B : Nat} {hh : Hr} {BL : List Bl} {ls : List (List Int)} {α : Type} {f : α → Nat} (hB : w.heap.size ≤ B) : OwnFrom B (fun (s : α) W => RdI w g lb L be n2 hh BL ls (f s) W) := fun _ A C row hs hg hr => by
  have keep : ∀ (k : Nat) (cs : Array Value) (t : TypeId) (fr : Nat × Nat), A.heap[k]? = some (Obj.cells cs t fr) → C.heap[k]? = some (Obj.cells cs t fr) := fun k cs t fr hk =>
    (hg.block k (Array.getElem?_eq_some_iff.1 hk).1 (fun e => by obtain ⟨_, o, ho, hc⟩ := hr k e.symm; rw [hk] at ho; cases ho; cases hc)).trans hk
  obtain ⟨sp, cap, h1, h2⟩ := hs.bl
  obtain ⟨st, β, h3, h4⟩ := hs.st
  refine ⟨Nat.le_trans hs.sz hg.size, fr_own (α := Unit) (Nat.le_refl _) hB () A C row hs.fr hg hr, keep _ _ _ _ hs.bw, ⟨sp, cap, keep _ _ _ _ h1, h2⟩, keep _ _ _ _ hs.be, ⟨st, β, RdG.own (f := fun _ : Unit => st) () A C row h3 hg hr, ?_⟩, hs.fit⟩
  refine ⟨fun i b hi hb => ?_, h4.todo, fun i hi => ?_, h4.asc⟩
  · obtain ⟨c, e, hn⟩ := h4.done i b hi hb
    exact ⟨c, e, (ck_own hg hr).sl hn⟩
  · obtain ⟨h5, cs, h6⟩ := h4.lo i hi
    exact ⟨h5, cs, keep _ _ _ _ h6⟩
theorem rdX_own {w : World} {g be B : Nat} {BL : List Bl} {ls : List (List Int)} {c : Code} {α : Type} (hB : w.heap.size ≤ B) : OwnFrom B (fun (_ : α) W => RdX w g be BL ls c W) := fun _ A C row hs hg hr =>
  ⟨hs.1, fr_own (α := Unit) (Nat.le_refl _) hB () A C row hs.2.1 hg hr, row_own' () A C row hs.2.2.1 hg hr, hs.2.2.2⟩
theorem Fr.kpB {X : Nat → Prop} {n0 bc : Nat} {A B : World} (h : Fr X A.heap.size A B) (hX : ∀ j, X j → j < n0 ∧ j ≠ bc) : KpB n0 bc A B := ⟨h.size, fun j cs t hj _ e => (h.block j (Array.getElem?_eq_some_iff.1 e).1 fun hx => by have := hX j hx; rcases hj with h | h <;> omega).trans e⟩
theorem Fr.keepsFrom {X : Nat → Prop} {n0 : Nat} {A B : World} (h : Fr X A.heap.size A B) (hX : ∀ j, X j → j < n0) : KeepsFrom n0 A B := ⟨h.size, fun j o hj e _ => (h.block j (Array.getElem?_eq_some_iff.1 e).1 fun hx => by have := hX j hx; omega).trans e⟩
end Go.Proofs.Ytkfkjapkcjidnaa.Wg
namespace Go.Proofs.Ytkfkjapkcjidnaa.Wg
set_option maxRecDepth 100000
open Go.ChangeShapes Go.WideShapes Go.ChangeAt Go.RowKit Go.Shelf Go.Proofs.Ytkfkjapkcjidnaa.Tn
attribute [local go_sem] Oper.semAt_some

/-! ### read: not so many leaves -/
/-- a model's cells ahead of its parts -/
def Hr.cells (h : Hr) : Array Value := headC h.c h.sa h.na h.ca h.sp h.np h.cp
theorem hr_cfg {W : World} {g : Nat} {h : Hr} {cs : Array Value} (hg : W.heap[g]? = some (.cells cs 31 (0, 0))) (h0 : ∀ j, j < 6 → cs[j]? = h.cells[j]?) : W.cell? ⟨g, 0, none⟩ = some (.int .i64 h.c.v) ∧ W.cell? ⟨g, 1, none⟩ = some (.int .i64 h.c.d) ∧ W.cell? ⟨g, 2, none⟩ = some (.int .i64 h.c.h) ∧ W.cell? ⟨g, 3, none⟩ = some (.int .i64 h.c.l) ∧ W.cell? ⟨g, 4, none⟩ = some (.int .i64 h.c.x) ∧ W.cell? ⟨g, 5, none⟩ = some (.int .i64 h.c.i) := by
  refine ⟨?_, ?_, ?_, ?_, ?_, ?_⟩ <;> (rw [cell_of_row _ _ _ _ _ _ hg, h0 _ (by decide)]; rfl)
/-- the boxes of a call of read -/
structure RdB (w : World) (g : Nat) (h : Hr) (sp : Option Addr) (N cap : Nat) (W : World) : Prop where
  below : Below w.heap.size w W
  bw : Boxed W w.heap.size 102 (.pointer (some ⟨g, 0, none⟩))
  bl : Boxed W (w.heap.size + 1) 39 (.slice sp N cap)
  row : W.heap[g]? = some (.cells h.cells 31 (0, 0))
theorem RdB.later {w W W' : World} {g N cap : Nat} {h : Hr} {sp : Option Addr} (k : RdB w g h sp N cap W) (hb : Below W.heap.size W W') : RdB w g h sp N cap W' :=
  ⟨k.below.trans (hb.mono k.below.size), boxed_below k.bw hb, boxed_below k.bl hb, (hb.block _ (Array.getElem?_eq_some_iff.1 k.row).1).trans k.row⟩
theorem RdB.new (w : World) {g N cap : Nat} {h : Hr} {sp : Option Addr} (hr : w.heap[g]? = some (.cells h.cells 31 (0, 0))) : RdB w g h sp N cap ((w.alloc (.cells #[.pointer (some ⟨g, 0, none⟩)] 102)).alloc (.cells #[.slice sp N cap] 39)) := by
  have h1 : Below w.heap.size w (w.alloc (.cells #[.pointer (some ⟨g, 0, none⟩)] 102)) := (Below.refl _ _).alloc (Nat.le_refl _) _
  have h2 : Below (w.alloc (.cells #[.pointer (some ⟨g, 0, none⟩)] 102)).heap.size (w.alloc (.cells #[.pointer (some ⟨g, 0, none⟩)] 102)) ((w.alloc (.cells #[.pointer (some ⟨g, 0, none⟩)] 102)).alloc (.cells #[.slice sp N cap] 39)) := (Below.refl _ _).alloc (Nat.le_refl _) _
  have h3 := Boxed.new (w.alloc (.cells #[.pointer (some ⟨g, 0, none⟩)] 102)) 39 (.slice sp N cap)
  rw [World.size_alloc] at h3
  exact ⟨h1.trans (h2.mono h1.size), boxed_below (Boxed.new _ _ _) h2, h3, (h2.block _ (Nat.lt_of_lt_of_le (Array.getElem?_eq_some_iff.1 hr).1 h1.size)).trans ((h1.block _ (Array.getElem?_eq_some_iff.1 hr).1).trans hr)⟩
set_option maxHeartbeats 8000000 in
theorem read_no (w : World) (g : Nat) (h : Hr) (hr : w.heap[g]? = some (.cells h.cells 31 (0, 0))) (sp : Option Addr) (N cap : Nat) (hno : h.c.chk ≠ 0 ∨ N ≠ rowsB h.c.blks) :
    Calls Try.prog 33 #[.pointer (some ⟨g, 0, none⟩), .slice sp N cap] w fun e w' => e = .returned (.int .i64 11) ∧ Below w.heap.size w w' := by
  have HM := Lib.hid (fun W => many_any W h.c)
  have HB := Lib.hid (RdB.new (sp := sp) (N := N) (cap := cap) w hr)
  unfold Cfg.cells at HM
  clear hr
  go_enter Try.func33, Try.ntmps33
  go_wp2
  go_step3
  go_upto_region 1 with fail
  refine gen_w (Q := fun w => Code.wp _ _ _ _ w) _ (RdB w g h sp N cap) HB.out ?_
  clear HB
  intro w1 hx
  have HX := Lib.hid hx
  obtain ⟨c0, c1, c2, c3, c4, c5⟩ := hr_cfg hx.row (fun _ _ => rfl)
  have b0 := hx.bw.cell
  have b1 := hx.bl.cell
  clear hx
  by_cases hk : h.c.chk = 0
  · have hne := hno.resolve_left (fun e => e hk)
    have e : manyV h.c = #[.int .i64 ((1 + rowsB h.c.blks : Nat) : Int), .int .i64 0] := by unfold manyV; rw [if_neg (by omega)]
    have hle := Cfg.rows_le (Cfg.ok_of_chk hk)
    obtain ⟨R, hR⟩ : ∃ R, rowsB h.c.blks = R := ⟨_, rfl⟩
    rw [hR] at e hne hle
    rw [e] at HM
    have hw : IntKind.i64.wrap (((1 + R : Nat) : Int) - 1) = (R : Int) := by rw [IntWalk.i64_in _ (by omega)]; omega
    have n1 : ((N : Int) == (R : Int)) = false := by rw [beq_eq_false_iff_ne]; omega
    have n2 : ((N : Int) != (R : Int)) = true := by rw [bne_iff_ne]; omega
    obtain ⟨M, hM⟩ : ∃ M : Int, ((1 + R : Nat) : Int) = M := ⟨_, rfl⟩
    rw [hM] at HM hw
    clear e hne hle hR hk hno hM
    go_wp2_with (first
      | (go_at_call 28; refine (HM.out _).mono ?_; rintro e w2 ⟨rfl, hb2⟩; have HX2 := Lib.hid (HX.out.later (hb2.trans (((Below.refl w2.heap.size w2).alloc (Nat.le_refl _) (.cells #[.int .i64 0] 35)).mono hb2.size))); have b1 := HX2.out.bl.cell; clear hb2))
    rw [Exit.noGoto_ret]
    go_ret
    exact ⟨rfl, HX2.out.below⟩
  · have e : manyV h.c = #[.int .i64 0, .int .i64 h.c.chk] := by unfold manyV; rw [if_pos hk]
    rw [e] at HM
    obtain ⟨E, hE⟩ : ∃ E, h.c.chk = E := ⟨_, rfl⟩
    rw [hE] at HM hk
    have n1 : (E == 0) = false := by simpa using hk
    have n2 : (E != 0) = true := by simpa using hk
    clear e hE hk hno
    go_wp2_with (first
      | (go_at_call 28; refine (HM.out _).mono ?_; rintro e w2 ⟨rfl, hb2⟩; have HX2 := Lib.hid (HX.out.later hb2); clear hb2))
    rw [Exit.noGoto_ret]
    go_ret
    exact ⟨rfl, HX2.out.below.alloc HX2.out.below.size _⟩
end Go.Proofs.Ytkfkjapkcjidnaa.Wg
namespace Go.Proofs.Ytkfkjapkcjidnaa.Wg
set_option maxRecDepth 100000
open Go.ChangeShapes Go.WideShapes Go.ChangeAt Go.RowKit Go.Shelf Go.Proofs.Ytkfkjapkcjidnaa.Tn
attribute [local go_sem] Oper.semAt_some

/-! ### parts are told once -/
def idxB (L : Nat) (b : Bl) : Nat := if b.k = 1 then 0 else if b.k = 11 then 1 + 9 * L else if b.k = 12 then 1 + 9 * L + 1 else 1 + 9 * b.y + (b.k - 2)
theorem layB_key {d i y j : Nat} {b : Bl} (h : (layB d i y)[j]? = some b) : b.k = j + 2 ∧ b.y = y ∧ j < 9 := by
  unfold layB at h
  rcases j with _ | _ | _ | _ | _ | _ | _ | _ | _ | j
  all_goals first
    | (simp at h; subst h; exact ⟨rfl, rfl, by decide⟩)
    | (simp at h)
theorem blks_idx {v d l i n : Nat} {b : Bl} (h : (blks v d l i)[n]? = some b) : n = idxB l b := by
  have hn : n < 9 * l + 3 := by have := (List.getElem?_eq_some_iff.1 h).1; rwa [blks_length] at this
  unfold idxB
  by_cases h0 : n = 0
  · subst h0
    have : b = ⟨1, 0, v, d⟩ := by unfold blks at h; simpa using h.symm
    rw [this, if_pos rfl]
  · by_cases h1 : n = 1 + 9 * l
    · rw [h1, blks_norm] at h
      cases h
      rw [if_neg (by simp), if_pos rfl, h1]
    · by_cases h2 : n = 1 + 9 * l + 1
      · rw [h2, blks_out] at h
        cases h
        rw [if_neg (by simp), if_neg (by simp), if_pos rfl, h2]
      · obtain ⟨y, j, hj, e⟩ : ∃ y j, j < 9 ∧ n = 1 + 9 * y + j := ⟨(n - 1) / 9, (n - 1) % 9, by omega, by omega⟩
        rw [e, blks_lay v d l i (by omega) hj] at h
        obtain ⟨k1, k2, _⟩ := layB_key h
        rw [if_neg (by omega), if_neg (by omega), if_neg (by omega)]
        omega
theorem blks_key {v d l i n m : Nat} {a b : Bl} (h : (blks v d l i)[n]? = some a) (h' : (blks v d l i)[m]? = some b) (e1 : a.k = b.k) (e2 : a.y = b.y) : n = m := by
  rw [blks_idx h, blks_idx h']
  unfold idxB
  rw [e1, e2]
/-- a part's rows and columns -/
theorem blks_rc {v d l i : Nat} {b : Bl} (hv : 1 ≤ v ∧ v ≤ 512) (hd : 1 ≤ d ∧ d ≤ 64) (hi : 1 ≤ i ∧ i ≤ 64) (h : b ∈ blks v d l i) : 1 ≤ b.r ∧ b.r ≤ 512 ∧ 1 ≤ b.c ∧ b.c ≤ 64 := by
  unfold blks at h
  simp only [List.mem_cons, List.mem_append, List.not_mem_nil, or_false] at h
  rcases h with rfl | h | rfl | rfl
  · dsimp only; omega
  · induction l with
    | zero => simp [laysB] at h
    | succ l ih =>
      rw [laysB, List.mem_append] at h
      rcases h with h | h
      · exact ih h
      · simp only [layB, List.mem_cons, List.not_mem_nil, or_false] at h
        rcases h with rfl | rfl | rfl | rfl | rfl | rfl | rfl | rfl | rfl <;> (dsimp only; omega)
  · dsimp only; omega
  · dsimp only; omega
/-- rows behind those of so many parts -/
theorem rowsB_split {BL : List Bl} {i : Nat} {b : Bl} (h : BL[i]? = some b) : rowsB (BL.take (i + 1)) = rowsB (BL.take i) + b.r := by
  rw [List.take_add_one, h]
  unfold rowsB
  simp
/-! ### what stands between two rounds over a part's leaves -/
section
variable {n0 : Nat} {w W W' wr : World} {g lb L be : Nat} {hh : Hr} {st : Nat → Nat → St} {x : Bk}
structure RdN (W : World) (g lb L be : Nat) (hh : Hr) (st : Nat → Nat → St) (b : Bl) (lsb : List (List Int)) (q : Nat) (val : Value) (wr : World) : Prop where
  fr : Fr (fun j => j = g ∨ j = lb ∨ j = be) W.heap.size W wr
  rd : RdG wr g lb L hh (putS st b.k b.y (stQ b q val))
  own : wr.ownsRow W.heap.size 3 1 val (numsR b lsb q).length ((numsR b lsb q).map fun v => Value.int .i64 v)
  be : Boxed wr be 35 (.int .i64 0)
  fit : ∀ q', q' < q → (lsb.getD q' []).length = 8 * b.c
theorem RdI.later {n2 : Nat} {BL : List Bl} {ls : List (List Int)} {k : Nat} (h : RdI w g lb L be n2 hh BL ls k W) (hb : Below W.heap.size W W') : RdI w g lb L be n2 hh BL ls k W' := by
  obtain ⟨sp, cap, h1, h2⟩ := h.bl
  obtain ⟨st, β, h3, h4⟩ := h.st
  exact ⟨Nat.le_trans h.sz hb.size, h.fr.trans (Fr.of_below hb h.fr.size), boxed_below h.bw hb, ⟨sp, cap, boxed_below h1 hb, h2⟩, boxed_below h.be hb, ⟨st, β, h3.later hb, h4.over fun j _ hj => hb.block j hj⟩, h.fit⟩
theorem owns_far {base n j c : Nat} {v u : Value} {xs : List Value} (ho : W.ownsRow base 3 1 v n xs) (hc : c < base) : (W.setCell ⟨c, j, none⟩ u).ownsRow base 3 1 v n xs := by
  obtain ⟨h0, h1⟩ := ho
  refine ⟨h0, ?_⟩
  rcases h1 with h1 | ⟨g', cap, cur, h2, h3, h4, h5⟩
  · exact Or.inl h1
  · exact Or.inr ⟨g', cap, cur, h2, h3, (heap_setCell_far (by omega)).trans h4, h5⟩
theorem owns_ge {base n j : Nat} {v : Value} {xs : List Value} (ho : W.ownsRow base 3 1 v n xs) (e : v.ownBlock = some j) : base ≤ j := by
  rcases ho.2 with ⟨rfl, _⟩ | ⟨g', cap, cur, rfl, h, _⟩
  · simp [Value.ownBlock] at e
  · have : g' = j := by simpa [Value.ownBlock] using e
    omega
theorem FnOK.kept {n1 bc : Nat} (h : FnOK n1 W x) (hn : n0 ≤ n1) (hk : KpB n0 bc W W') : FnOK n1 W' x := by
  rcases h with h | h | h | ⟨h1, h2⟩
  · exact Or.inl h
  · exact Or.inr (Or.inl h)
  · exact Or.inr (Or.inr (Or.inl h))
  · exact Or.inr (Or.inr (Or.inr ⟨h1, h2.kept hn hk⟩))
theorem add_any (w : World) (n0 g lb L : Nat) (h : Hr) (st : Nat → Nat → St) (x : Bk) (hL : L ≤ 4) (hS : RdG w g lb L h st) (hx : FnOK n0 w x) (hb : OkL L x.b) (base : Nat) (lst lr : List Int) (hown : w.ownsRow base 3 1 (st x.b.k x.b.y).val lst.length (lst.map fun v => Value.int .i64 v)) (hbs : base ≤ w.heap.size)
    (q : Nat) (hq : isVec x.b.k = false → (st x.b.k x.b.y).r = (q : Int)) (hq1 : q ≤ 100000) (sp : Option Addr) (cap C : Nat) (hr : Sl w sp cap (lr.map fun v => Value.int .i64 v)) (hsp : ∀ c o, sp = some ⟨c, o, none⟩ → c ≠ g ∧ c ≠ lb) (hC : lr.length = C) (hlen : lst.length + C ≤ 100000) :
    Calls Try.prog 51 #[x.val, .pointer (some ⟨g, 0, none⟩), .slice sp C cap] w (AddPost w g lb L h st x.b base lst lr) := by
  cases hk : isVec x.b.k with
  | true => exact addV_any w n0 g lb L h st x hL hS hx hb hk base lst lr hown hbs sp cap C hr hC hlen
  | false => exact addM_any w n0 g lb L h st x hL hS hx hb hk base lst lr hown hbs q (hq hk) hq1 sp cap C hr hsp hC hlen
/-- one leaf more: what comes of add -/
theorem RdN.add {w3 : World} {lsb : List (List Int)} {q : Nat} {val : Value} {g' bc : Nat} (hn : RdN W g lb L be hh st x.b lsb q val wr) (hb3 : Below wr.heap.size wr w3) (hr : Cd.Nums w3 (some ⟨g', 0, none⟩) x.b.c (Cd.ints (lsb.getD q []) x.b.c)) (hg' : wr.heap.size ≤ g') (hx : FnOK n0 W x)
    (hX : ∀ j, (j = g ∨ j = lb ∨ j = be) → j < n0 ∧ j ≠ bc) (hnW : n0 ≤ W.heap.size) (hne : be ≠ g ∧ be ≠ lb) (hL : L ≤ 4) (hok : OkL L x.b) (hq : q < x.b.r) (hrc : x.b.r ≤ 512 ∧ x.b.c ≤ 64) (hql : q < lsb.length) (hfit : (lsb.getD q []).length = 8 * x.b.c) :
    Calls Try.prog 51 #[x.val, .pointer (some ⟨g, 0, none⟩), .slice (some ⟨g', 0, none⟩) x.b.c x.b.c] (w3.setCell ⟨be, 0, none⟩ (.int .i64 0)) fun e w5 => (∃ v, e = .returned v) ∧ ∃ val', RdN W g lb L be hh st x.b lsb (q + 1) val' w5 := by
  have hgl := hX g (Or.inl rfl)
  have hll := hX lb (Or.inr (Or.inl rfl))
  have hel := hX be (Or.inr (Or.inr rfl))
  have hF4 : Fr (fun j => j = g ∨ j = lb ∨ j = be) W.heap.size W (w3.setCell ⟨be, 0, none⟩ (.int .i64 0)) := (hn.fr.trans (Fr.of_below hb3 hn.fr.size)).trans (Fr.setCell _ (Or.inr (Or.inr (Or.inr rfl))))
  have hS4 : RdG (w3.setCell ⟨be, 0, none⟩ (.int .i64 0)) g lb L hh (putS st x.b.k x.b.y (stQ x.b q val)) := (hn.rd.later hb3).over (heap_setCell_far hne.1.symm) (heap_setCell_far hne.2.symm)
  have hO4 := owns_far (j := 0) (u := .int .i64 0) (owns_below hn.own hb3) (show be < W.heap.size by omega)
  have hx4 : FnOK n0 (w3.setCell ⟨be, 0, none⟩ (.int .i64 0)) x := hx.kept (Nat.le_refl _) (hF4.kpB hX)
  have hg3 := Nat.le_trans hn.fr.size hg'
  have hsl : Sl (w3.setCell ⟨be, 0, none⟩ (.int .i64 0)) (some ⟨g', 0, none⟩) x.b.c ((Cd.ints (lsb.getD q []) x.b.c).map fun v => Value.int .i64 v) := ⟨hr.le, hr.max, hr.nul, fun h0 => by
    obtain ⟨c', o', e, hl⟩ := hr.lies h0
    refine ⟨c', o', e, fun i v hv => (World.cell?_of_block (heap_setCell_far ?_)).trans (hl i v hv)⟩
    cases e
    dsimp only
    omega⟩
  have hlq := numsR_length x.b lsb q (by omega)
  have hmul : q * x.b.c ≤ 512 * 64 := Nat.mul_le_mul (by omega) hrc.2
  have hil : (Cd.ints (lsb.getD q []) x.b.c).length = x.b.c := Cd.ints_length _ _
  refine (add_any (w3.setCell ⟨be, 0, none⟩ (.int .i64 0)) n0 g lb L hh (putS st x.b.k x.b.y (stQ x.b q val)) x hL hS4 hx4 hok W.heap.size (numsR x.b lsb q) (Cd.ints (lsb.getD q []) x.b.c) (by rw [putS_same]; exact hO4) hF4.size q (fun hv => by rw [putS_same]; unfold stQ; rw [hv]; rfl) (by omega) (some ⟨g', 0, none⟩) x.b.c x.b.c hsl (fun c o e => by cases e; omega) hil (by omega)).mono ?_
  rintro e w5 ⟨hv, val', h1, h2, h3⟩
  rw [putS_same] at h1 h3
  rw [putS_twice] at h1
  refine ⟨hv, val', ⟨hF4.trans ⟨h3.os, h3.tape, h3.output, h3.size, fun j hj hx => h3.block j (Nat.lt_of_lt_of_le hj hF4.size) fun e => ?_⟩, ?_, ?_, ?_, fun q' hq' => ?_⟩⟩
  · rcases e with e | e | e
    · exact hx (Or.inl e)
    · exact hx (Or.inr (Or.inl e))
    · have := owns_ge hO4 e
      omega
  · have e : (⟨if isVec x.b.k then (stQ x.b q val).r else (stQ x.b q val).r + 1, if isVec x.b.k then (stQ x.b q val).c else (x.b.c : Int), val'⟩ : St) = stQ x.b (q + 1) val' := by
      unfold stQ
      cases isVec x.b.k <;> simp
    rw [e] at h1
    exact h1
  · rw [numsR_succ x.b lsb q hql, List.length_append]
    exact h2
  · refine (h3.block be (Nat.lt_of_lt_of_le (by omega) hF4.size) fun e => ?_).trans (Boxed.set _ (boxed_below hn.be hb3))
    rcases e with e | e | e
    · exact hne.1 e
    · exact hne.2 e
    · have := owns_ge hO4 e
      omega
  · by_cases h : q' = q
    · rw [h]; exact hfit
    · exact hn.fit q' (by omega)
/-- a round's end -/
theorem RdI.next {n2 k cap : Nat} {BL : List Bl} {ls : List (List Int)} {sp : Option Addr} {β : Nat → Nat} {b : Bl} {val : Value} (hI : RdI w g lb L be n2 hh BL ls k W) (hbl : Boxed W (w.heap.size + 1) 39 (.slice sp (ls.length - rowsB (BL.take k)) cap)) (hlv : LvP w g sp cap (ls.drop (rowsB (BL.take k)))) (hrs : RdS n2 BL ls st β k W) (hx : BL[k]? = some b)
    (hn : RdN W g lb L be hh st b (ls.drop (rowsB (BL.take k))) b.r val wr) (hkey : ∀ (i j : Nat) (a b : Bl), BL[i]? = some a → BL[j]? = some b → a.k = b.k → a.y = b.y → i = j) (hrc : 1 ≤ b.r ∧ 1 ≤ b.c) (hle : rowsB (BL.take k) + b.r ≤ ls.length) (hp : g < w.heap.size ∧ w.heap.size + 1 < be ∧ be < lb ∧ lb < n2) :
    RdI w g lb L be n2 hh BL ls (k + 1) (wr.setCell ⟨w.heap.size + 1, 0, none⟩ (.slice (cutA sp cap b.r) (ls.length - rowsB (BL.take k) - b.r) (cap - b.r))) := by
  have hsz := hI.sz
  have far : ∀ j, j ≠ w.heap.size + 1 → j < W.heap.size → j ≠ g → j ≠ lb → j ≠ be → (wr.setCell ⟨w.heap.size + 1, 0, none⟩ (.slice (cutA sp cap b.r) (ls.length - rowsB (BL.take k) - b.r) (cap - b.r))).heap[j]? = W.heap[j]? := fun j h1 h2 h3 h4 h5 => (heap_setCell_far h1).trans (hn.fr.block j h2 (by rintro (h | h | h) <;> omega))
  have hb1 : Boxed wr (w.heap.size + 1) 39 (.slice sp (ls.length - rowsB (BL.take k)) cap) := (hn.fr.block _ (by omega) (by rintro (h | h | h) <;> omega)).trans hbl
  have hlen := numsR_length b (ls.drop (rowsB (BL.take k))) b.r (by rw [List.length_drop]; omega)
  have hpos : 1 ≤ b.r * b.c := Nat.mul_pos hrc.1 hrc.2
  obtain ⟨sv, cv, hv, _, hsl, _⟩ := Sl.all1 hn.own
  obtain ⟨ob, e1, hge, cur, hcur⟩ : ∃ ob, sv = some ⟨ob, 0, none⟩ ∧ W.heap.size ≤ ob ∧ ∃ cur, wr.heap[ob]? = some (.cells cur 3 (0, 0)) := by
    rcases hn.own.2 with ⟨e, h0⟩ | ⟨g', cap', cur, e, h3, h4, _⟩
    · rw [hv] at e
      injection e with _ e
      omega
    · rw [hv] at e
      injection e with e
      exact ⟨g', e, h3, cur, h4⟩
  subst e1
  rw [hlen] at hv
  have hRs := hrs.over (W' := wr.setCell ⟨w.heap.size + 1, 0, none⟩ (.slice (cutA sp cap b.r) (ls.length - rowsB (BL.take k) - b.r) (cap - b.r))) (fun j h1 h2 => far j (by omega) h2 (by omega) (by omega) (by omega))
  refine ⟨Nat.le_trans hsz (Nat.le_trans hn.fr.size (by simp [World.setCell])), ?_, ?_, ⟨cutA sp cap b.r, cap - b.r, ?_, ?_⟩, ?_, ⟨putS st b.k b.y (stQ b b.r val), fun i => if i = k then ob else β i, ?_, ?_⟩, fun i a hi ha => ?_⟩
  · refine hI.fr.trans (Fr.trans (B := wr) ⟨hn.fr.os, hn.fr.tape, hn.fr.output, hn.fr.size, fun j hj hx => hn.fr.block j (by omega) (by rintro (h | h | h) <;> omega)⟩ (Fr.setCell _ (Or.inl (by simp))))
  · exact (far _ (by omega) (by omega) (by omega) (by omega) (by omega)).trans hI.bw
  · rw [rowsB_split hx, show ls.length - (rowsB (BL.take k) + b.r) = ls.length - rowsB (BL.take k) - b.r by omega]
    exact Boxed.set _ hb1
  · have := hlv.cut b.r (by rw [List.length_drop]; omega)
    rw [List.drop_drop] at this
    rw [rowsB_split hx]
    exact this
  · exact (heap_setCell_far (by omega)).trans hn.be
  · exact hn.rd.over (heap_setCell_far (by omega)) (heap_setCell_far (by omega))
  · refine ⟨fun i a hi ha => ?_, fun i a hi ha => ?_, fun i hi => ?_, fun i j hij hj => ?_⟩
    · by_cases hik : i = k
      · subst hik
        obtain rfl : a = b := Option.some.inj (ha.symm.trans hx)
        refine ⟨cv, by rw [putS_same, if_pos rfl, hv], ?_⟩
        rw [if_pos rfl]
        refine ⟨hsl.le, hsl.max, hsl.nul, fun h0 => ?_⟩
        obtain ⟨c', o', e, hl⟩ := hsl.lies h0
        refine ⟨c', o', e, fun i v hv => (World.cell?_of_block (heap_setCell_far ?_)).trans (hl i v hv)⟩
        cases e
        dsimp only
        omega
      · obtain ⟨c, h1, h2⟩ := hRs.done i a (by omega) ha
        rw [if_neg hik]
        exact ⟨c, by rw [putS_other (fun h => hik (hkey i k a b ha hx h.1 h.2))]; exact h1, h2⟩
    · rw [putS_other (fun h => by have := hkey i k a b ha hx h.1 h.2; omega)]
      exact hRs.todo i a (by omega) ha
    · by_cases hik : i = k
      · rw [if_pos hik]
        exact ⟨by omega, cur, (heap_setCell_far (by omega)).trans hcur⟩
      · rw [if_neg hik]
        exact hRs.lo i (by omega)
    · have hi : i ≠ k := by omega
      rw [if_neg hi]
      by_cases hjk : j = k
      · rw [if_pos hjk]
        obtain ⟨_, cs, h2⟩ := hrs.lo i (by omega)
        have := (Array.getElem?_eq_some_iff.1 h2).1
        omega
      · rw [if_neg hjk]
        exact hrs.asc i j hij (by omega)
  · by_cases hik : i = k
    · subst hik
      obtain rfl : a = b := Option.some.inj (ha.symm.trans hx)
      exact hn.fit
    · exact hI.fit i a (by omega) ha
/-- what a round keeps -/
theorem RdN.keeps {b : Bl} {lsb : List (List Int)} {q : Nat} {val : Value} {bc : Nat} (hn : RdN W g lb L be hh st b lsb q val wr) (hX : ∀ j, (j = g ∨ j = lb ∨ j = be) → j < n0 ∧ j ≠ bc) : KeepsFrom n0 W wr ∧ KpB n0 bc W wr := ⟨hn.fr.keepsFrom fun j hj => (hX j hj).1, hn.fr.kpB hX⟩
theorem RdN.frw {b : Bl} {lsb : List (List Int)} {q : Nat} {val : Value} (hn : RdN W g lb L be hh st b lsb q val wr) (hf : Fr (fun j => j = g) w.heap.size w W) (hp : w.heap.size ≤ lb ∧ w.heap.size ≤ be) : Fr (fun j => j = g) w.heap.size w wr :=
  hf.trans ⟨hn.fr.os, hn.fr.tape, hn.fr.output, hn.fr.size, fun j hj hx => hn.fr.block j (Nat.lt_of_lt_of_le hj hf.size) (by rintro (h | h | h) <;> omega)⟩
end
end Go.Proofs.Ytkfkjapkcjidnaa.Wg
namespace Go.Proofs.Ytkfkjapkcjidnaa.Wg
set_option maxRecDepth 100000
open Go.ChangeShapes Go.WideShapes Go.ChangeAt Go.RowKit Go.Shelf Go.Proofs.Ytkfkjapkcjidnaa.Tn
attribute [local go_sem] Oper.semAt_some

/-! ### layers of nothing -/
def zLy : Array Value := #[.slice none 0 0, .int .i64 0, .int .i64 0, .slice none 0 0, .int .i64 0, .int .i64 0, .slice none 0 0, .int .i64 0, .int .i64 0, .slice none 0 0, .int .i64 0, .int .i64 0, .slice none 0 0, .slice none 0 0, .int .i64 0, .int .i64 0, .slice none 0 0, .int .i64 0, .int .i64 0, .slice none 0 0, .int .i64 0, .int .i64 0, .slice none 0 0]
theorem infoLy : (Try.prog.info? 65).map (fun i => (i.zero, i.size, i.bytes)) = some (some (.agg zLy), 23, 328) := by kernel_rfl
theorem made_get (L y j : Nat) (hy : y < L) (hj : j < 23) : (madeCells zLy (L * 23))[y * 23 + j]? = zLy[j]? := by
  have h1 : y * 23 + j < L * 23 := by omega
  have h2 : zLy.size = 23 := rfl
  have h3 : (y * 23 + j) % 23 = j := by omega
  unfold madeCells
  rw [Array.getElem?_map, Array.getElem?_range, if_pos h1, Option.map_some, h2, h3, getElem!_pos zLy j (by omega), Array.getElem?_eq_getElem (by omega)]
theorem exec_makeLy {a : Act} {o : Oper} {W : World} (x y : Operand) (ho : o.op = .makeSlice 29 x y) (L : Nat) (hx : a.eval x = .int .i64 (L : Int)) (hy : a.eval y = .int .i64 (L : Int)) (hL : L ≤ 4) : (execOp a.eval o).run Try.prog W = .ok (.value (.slice (some ⟨W.heap.size, 0, none⟩) L L)) (W.alloc (.cells (madeCells zLy (L * 23)) 65)) := by
  obtain ⟨i0, hi, hz0, hz1, hz2⟩ := info_parts infoLy
  have hb : (i0.bytes : Int) * (L : Int) ≤ 281474976710656 := by
    rw [hz2]
    omega
  have hrun := run_makeSlice (P := Try.prog) W 29 65 i0 _ Try.underlying29 hi hz0 .i64 .i64 (L : Int) (L : Int) (by omega) (by omega) (by rw [hz1]; simp; omega) hb (by omega)
  rw [hz1] at hrun
  simp only [Int.toNat_natCast] at hrun
  unfold execOp
  simp [ho, hx, hy, hrun, Result.andThen]
  rfl
theorem zLy_at (k : Nat) (h2 : 2 ≤ k) (h3 : k ≤ 10) : (isVec k = true → zLy[offK k]? = some (.slice none 0 0)) ∧ (isVec k = false → zLy[offK k]? = some (.int .i64 0) ∧ zLy[offK k + 1]? = some (.int .i64 0) ∧ zLy[offK k + 2]? = some (.slice none 0 0)) ∧ offK k < 23 ∧ (isVec k = false → offK k + 2 < 23) := by
  obtain rfl | rfl | rfl | rfl | rfl | rfl | rfl | rfl | rfl : k = 2 ∨ k = 3 ∨ k = 4 ∨ k = 5 ∨ k = 6 ∨ k = 7 ∨ k = 8 ∨ k = 9 ∨ k = 10 := by omega
  all_goals exact ⟨fun h => (by first | rfl | cases h), fun h => (by first | exact ⟨rfl, rfl, rfl⟩ | cases h), by decide, fun _ => by decide⟩
/-- a model of which no part is there yet -/
theorem RdG.new {W : World} {g lb L : Nat} {h : Hr} (hr : W.heap[g]? = some (.cells h.cells 31 (0, 0))) (hl : W.heap[lb]? = some (.cells (madeCells zLy (L * 23)) 65 (0, 0))) : RdG (W.setCell ⟨g, 11, none⟩ (.slice (some ⟨lb, 0, none⟩) L L)) g lb L h (fun _ _ => ⟨0, 0, .slice none 0 0⟩) := by
  have hne : lb ≠ g := fun e => by
    rw [e, hr] at hl
    injection hl with e1
    injection e1 with _ e2
    exact absurd e2 (by decide)
  have hl' := (heap_setCell_far (j := 11) (v := .slice (some ⟨lb, 0, none⟩) L L) hne).trans hl
  refine ⟨by rw [heap_setCell_row hr]; rfl, ⟨_, hl'⟩, fun y k hy h2 h3 => ?_⟩
  obtain ⟨z0, z1, z2, z6⟩ := zLy_at k h2 h3
  have hc : ∀ j, j < 23 → (W.setCell ⟨g, 11, none⟩ (.slice (some ⟨lb, 0, none⟩) L L)).cell? ⟨lb, y * 23 + j, none⟩ = zLy[j]? := fun j hj => by rw [cell_of_row _ _ _ _ _ _ hl', made_get L y j hy hj]
  unfold StAt
  cases hv : isVec k with
  | true =>
    rw [if_pos rfl]
    exact (hc _ z2).trans (z0 hv)
  | false =>
    rw [if_neg (by decide)]
    obtain ⟨z3, z4, z5⟩ := z1 hv
    have z7 := z6 hv
    exact ⟨(hc _ z2).trans z3, by rw [Nat.add_assoc]; exact (hc _ (by omega)).trans z4, by rw [Nat.add_assoc]; exact (hc _ z7).trans z5⟩
theorem run_wf0 (g : Nat) (W : World) : (Instr.fieldAt 31 (.pointer (some ⟨g, 0, none⟩)) 0).run Try.prog W = .ok (.pointer (some ⟨g, 0, none⟩)) W := by kernel_rfl
theorem run_wf4 (g : Nat) (W : World) : (Instr.fieldAt 31 (.pointer (some ⟨g, 0, none⟩)) 4).run Try.prog W = .ok (.pointer (some ⟨g, 11, none⟩)) W := by kernel_rfl
theorem run_wcf3 (g : Nat) (W : World) : (Instr.fieldAt 23 (.pointer (some ⟨g, 0, none⟩)) 3).run Try.prog W = .ok (.pointer (some ⟨g, 3, none⟩)) W := by kernel_rfl
section
variable {a : Act} {o : Oper} {W : World}
theorem exec_wf0 (x : Operand) (ho : o.op = .fieldAddr 31 x 0) (g : Nat) (hx : a.eval x = .pointer (some ⟨g, 0, none⟩)) : (execOp a.eval o).run Try.prog W = .ok (.value (.pointer (some ⟨g, 0, none⟩))) W := by
  unfold execOp
  simp only [ho, hx, Sem.run_bind, run_wf0, Result.andThen_ok, Sem.run_pure]
theorem exec_wf4 (x : Operand) (ho : o.op = .fieldAddr 31 x 4) (g : Nat) (hx : a.eval x = .pointer (some ⟨g, 0, none⟩)) : (execOp a.eval o).run Try.prog W = .ok (.value (.pointer (some ⟨g, 11, none⟩))) W := by
  unfold execOp
  simp only [ho, hx, Sem.run_bind, run_wf4, Result.andThen_ok, Sem.run_pure]
theorem exec_wcf3 (x : Operand) (ho : o.op = .fieldAddr 23 x 3) (g : Nat) (hx : a.eval x = .pointer (some ⟨g, 0, none⟩)) : (execOp a.eval o).run Try.prog W = .ok (.value (.pointer (some ⟨g, 3, none⟩))) W := by
  unfold execOp
  simp only [ho, hx, Sem.run_bind, run_wcf3, Result.andThen_ok, Sem.run_pure]
end
/-! ### read -/
/-- what read answers, of as many leaves as there are rows -/
def ReadPost (w : World) (g : Nat) (hh : Hr) (ls : List (List Int)) (e : Ending) (w' : World) : Prop :=
  Fr (fun j => j = g) w.heap.size w w' ∧ ((e = .returned (.int .i64 11) ∧ ¬ fits hh.c.blks ls) ∨ (e = .returned (.int .i64 0) ∧ fits hh.c.blks ls ∧ ∃ lb n2 st β, w.heap.size ≤ lb ∧ lb < n2 ∧ RdG w' g lb hh.c.l.toNat hh st ∧ RdS n2 hh.c.blks ls st β hh.c.blks.length w'))
set_option maxHeartbeats 8000000 in
theorem read_in (w : World) (g : Nat) (hh : Hr) (hr : w.heap[g]? = some (.cells hh.cells 31 (0, 0))) (sp : Option Addr) (cap N : Nat) (ls : List (List Int)) (hP : LvP w g sp cap ls) (hlen : ∀ l ∈ ls, l.length ≤ 100000) (hck : hh.c.chk = 0) (hN : ls.length = N) (hn : N = rowsB hh.c.blks) :
    CallsIn Fence.wide 6 Try.prog 33 #[.pointer (some ⟨g, 0, none⟩), .slice sp N cap] w (ReadPost w g hh ls) := by
  have hO := Cfg.ok_of_chk hck
  have hle := Cfg.rows_le hO
  have HM := Lib.hid (fun W => many_any W hh.c)
  have e : manyV hh.c = #[.int .i64 ((1 + N : Nat) : Int), .int .i64 0] := by unfold manyV; rw [if_neg (by omega), hn]
  rw [e] at HM
  unfold Cfg.cells at HM
  have hw : IntKind.i64.wrap (((1 + N : Nat) : Int) - 1) = (N : Int) := by rw [IntWalk.i64_in _ (by omega)]; omega
  have n2 : ((N : Int) != (N : Int)) = false := by simp
  have n3 : (N != N) = false := by simp
  have HB := Lib.hid (RdB.new (sp := sp) (N := N) (cap := cap) w hr)
  have HGl := Lib.hid (Array.getElem?_eq_some_iff.1 hr).1
  obtain ⟨V, D, ch, L, cx, I, hcf⟩ : ∃ (V D : Nat) (ch : Int) (L : Nat) (cx : Int) (I : Nat), hh.c = ⟨V, D, ch, L, cx, I⟩ := by
    obtain ⟨h1, h2, h3, h4, h5, h6⟩ := hO
    obtain ⟨a, ha⟩ := Int.eq_ofNat_of_zero_le (show 0 ≤ hh.c.v by omega)
    obtain ⟨b, hb⟩ := Int.eq_ofNat_of_zero_le (show 0 ≤ hh.c.d by omega)
    obtain ⟨c, hc⟩ := Int.eq_ofNat_of_zero_le (show 0 ≤ hh.c.l by omega)
    obtain ⟨d, hd⟩ := Int.eq_ofNat_of_zero_le (show 0 ≤ hh.c.i by omega)
    refine ⟨a, b, hh.c.h, c, hh.c.x, d, ?_⟩
    rw [← ha, ← hb, ← hc, ← hd]
  have HHc := Lib.hid hcf
  rw [hcf] at hO HM
  dsimp only at HM
  have hL4 : L ≤ 4 := by have := hO.l.2; simp only at this; omega
  have hD64 : D ≤ 64 := by have := hO.d.2; simp only at this; omega
  have hI64 : I ≤ 64 := by have := hO.i.2; simp only at this; omega
  have hV : V ≤ 512 := by have := hO.v.2; simp only at this; omega
  have hbl : hh.c.blks = blks V D L I := by rw [hcf]; rfl
  rw [hbl] at hn hle
  have HBk : Hid (∀ W, Calls Try.prog 37 #[.agg #[.int .i64 (V : Int), .int .i64 (D : Int), .int .i64 ch, .int .i64 (L : Int), .int .i64 cx, .int .i64 (I : Int)]] W fun e w' => e = .returned (.func (.func 56) #[] #[.pointer (some ⟨W.heap.size, 0, none⟩)]) ∧ w' = W.alloc (.cells (Cfg.cells ⟨V, D, ch, L, cx, I⟩) 23)) := Lib.hid (fun W => blocks_any W ⟨V, D, ch, L, cx, I⟩)
  have HBt := Lib.hid (fun (bc : Nat) (W : World) (cb : W.heap[bc]? = _) => blocks_tells 5 (by omega) bc V D L I ch cx hL4 W cb)
  obtain ⟨M, hM⟩ : ∃ M : Int, ((1 + N : Nat) : Int) = M := ⟨_, rfl⟩
  rw [hM] at HM hw
  unfold ReadPost
  rw [hbl]
  have HL : Hid (hh.c.l.toNat = L) := Lib.hid (by rw [hcf]; rfl)
  rw [HL.out]
  clear hcf
  have HNr := Lib.hid hn
  have HNl := Lib.hid hN
  have HLen := Lib.hid hlen
  have HP := Lib.hid hP
  have HLe : Hid (N ≤ 2900) := Lib.hid (by omega)
  have HBd : Hid (L ≤ 4 ∧ D ≤ 64 ∧ I ≤ 64 ∧ V ≤ 512) := Lib.hid ⟨hL4, hD64, hI64, hV⟩
  have HB1d : Hid (1 ≤ V ∧ 1 ≤ D ∧ 1 ≤ I) := Lib.hid (by have h1 := hO.v.1; have h2 := hO.d.1; have h3 := hO.i.1; simp only at h1 h2 h3; omega)
  clear e hM hck hr hO hbl hn hN hlen hP hle hL4 hD64 hI64 hV
  have HKey : Hid (∀ (i j : Nat) (a b : Bl), (blks V D L I)[i]? = some a → (blks V D L I)[j]? = some b → a.k = b.k → a.y = b.y → i = j) := Lib.hid (fun i j a b h1 h2 h3 h4 => blks_key h1 h2 h3 h4)
  have HRc : Hid (∀ b, b ∈ blks V D L I → 1 ≤ b.r ∧ b.r ≤ 512 ∧ 1 ≤ b.c ∧ b.c ≤ 64) := Lib.hid (fun b hb => blks_rc ⟨HB1d.out.1, HBd.out.2.2.2⟩ ⟨HB1d.out.2.1, HBd.out.2.1⟩ ⟨HB1d.out.2.2, HBd.out.2.2.1⟩ hb)
  have HOkL : Hid (∀ b, b ∈ blks V D L I → OkL L b) := Lib.hid (fun b hb => blks_okL hb)
  obtain ⟨BL, hBL⟩ : ∃ BL, blks V D L I = BL := ⟨_, rfl⟩
  rw [hBL] at HKey HRc HOkL HBt HNr ⊢
  clear hBL
  refine callsIn_of_wp_marks Try.func33 rfl trivial ?_ rfl
  simp only [Try.ntmps33, List.size_toArray, List.length_cons, List.length_nil, Nat.reduceAdd, Nat.reduceSub, Array.replicate_succ, Array.replicate_zero, List.push_toArray, List.append_toArray, List.nil_append, List.cons_append]
  gi_wp2
  refine wpIn_scope_straight ?_
  obtain ⟨w1, hw1⟩ : ∃ w1, (w.alloc (.cells #[.pointer (some ⟨g, 0, none⟩)] 102)).alloc (.cells #[.slice sp N cap] 39) = w1 := ⟨_, rfl⟩
  rw [hw1] at HB ⊢
  obtain ⟨c0, c1, c2, c3, c4, c5⟩ := hr_cfg HB.out.row (fun _ _ => rfl)
  rw [HHc.out] at c0 c1 c2 c3 c4 c5
  dsimp only at c0 c1 c2 c3 c4 c5
  have b0 := HB.out.bw.cell
  have b1 := HB.out.bl.cell
  clear hw1
  gi_wp2_with (refine ⟨trivial, ?_⟩; gi_at_call 28; refine (callsIn_wide.2 (HM.out _)).mono ?_; rintro e w2 ⟨rfl, hb2⟩; have HX2 := Lib.hid (HB.out.later hb2); have b0 := HX2.out.bw.cell; have HX3 := Lib.hid (HB.out.later (hb2.trans (((Below.refl w2.heap.size w2).alloc (Nat.le_refl _) (.cells #[.int .i64 0] 35)).mono hb2.size))); have b1 := HX3.out.bl.cell; have b0' := HX3.out.bw.cell; clear hb2)
  have HC3 := Lib.hid (hr_cfg HX3.out.row (fun _ _ => rfl)).2.2.2.1
  rw [HHc.out] at HC3
  dsimp only at HC3
  have HBe := Lib.hid (Boxed.new w2 35 (.int .i64 0))
  obtain ⟨be, hbe⟩ : ∃ be, w2.heap.size = be := ⟨_, rfl⟩
  obtain ⟨w3, hw3⟩ : ∃ w3, w2.alloc (.cells #[.int .i64 0] 35) = w3 := ⟨_, rfl⟩
  have HBz : Hid (w.heap.size + 1 < be ∧ w3.heap.size = be + 1) := Lib.hid ⟨by rw [← hbe]; exact (Array.getElem?_eq_some_iff.1 HX2.out.bl).1, by rw [← hw3, ← hbe]; simp⟩
  rw [hbe] at HBe
  rw [hw3] at HX3 HC3 HBe ⊢
  simp only [hbe]
  clear hbe hw3 b0 b1 b0' c0 c1 c2 c3 c4 c5 HX2 HB HM n2 n3 hw
  refine wpIn_wide.2 ?_
  refine Tn.wp_region_spec (C := fun W => Below w3.heap.size w3 W) (Le := fun A B => Below A.heap.size A B) 9
    (fun _ j W v => (j ≠ 6 → v = ([.pointer (some ⟨g, 0, none⟩), .pointer (some ⟨g, 0, none⟩), .pointer (some ⟨g, 0, none⟩), .pointer (some ⟨g, 0, none⟩), .pointer (some ⟨g, 3, none⟩), .int .i64 L, undef, .pointer (some ⟨g, 0, none⟩), .pointer (some ⟨g, 11, none⟩)] : List Value).getD j undef) ∧ (j = 6 → ∃ lb, v = .slice (some ⟨lb, 0, none⟩) L L ∧ w3.heap.size ≤ lb ∧ W.heap[lb]? = some (.cells (madeCells zLy (L * 23)) 65 (0, 0))))
    (by kernel_rfl) (by kernel_rfl) ⟨rfl, rfl, rfl, Nat.le_refl _, fun _ _ => rfl⟩ (fun _ _ _ _ _ _ h => h)
    (fun _ _ A B v hl h => ⟨h.1, fun e => by obtain ⟨lb, h1, h2, h3⟩ := h.2 e; exact ⟨lb, h1, h2, (hl.block _ (Array.getElem?_eq_some_iff.1 h3).1).trans h3⟩⟩)
    (fun j v => (j ≠ 6 → v = ([.pointer (some ⟨g, 0, none⟩), .pointer (some ⟨g, 0, none⟩), .pointer (some ⟨g, 0, none⟩), .pointer (some ⟨g, 0, none⟩), .pointer (some ⟨g, 3, none⟩), .int .i64 L, undef, .pointer (some ⟨g, 0, none⟩), .pointer (some ⟨g, 11, none⟩)] : List Value).getD j undef) ∧ (j = 6 → ∃ lb, v = .slice (some ⟨lb, 0, none⟩) L L)) (fun _ _ _ _ h => ⟨h.1, fun e => by obtain ⟨lb, h1, _⟩ := h.2 e; exact ⟨lb, h1⟩⟩) (fun j => if j = 6 then .slice (some ⟨0, 0, none⟩) L L else ([.pointer (some ⟨g, 0, none⟩), .pointer (some ⟨g, 0, none⟩), .pointer (some ⟨g, 0, none⟩), .pointer (some ⟨g, 0, none⟩), .pointer (some ⟨g, 3, none⟩), .int .i64 L, undef, .pointer (some ⟨g, 0, none⟩), .pointer (some ⟨g, 11, none⟩)] : List Value).getD j undef) (fun j => ⟨fun e => by rw [if_neg e], fun e => by rw [if_pos e]; exact ⟨0, rfl⟩⟩) ?_ ?_
  · intro u hu
    have e0 : u 0 = .pointer (some ⟨g, 0, none⟩) := (hu 0).1 (by decide)
    have e1 : u 1 = .pointer (some ⟨g, 0, none⟩) := (hu 1).1 (by decide)
    have e2 : u 2 = .pointer (some ⟨g, 0, none⟩) := (hu 2).1 (by decide)
    have e3 : u 3 = .pointer (some ⟨g, 0, none⟩) := (hu 3).1 (by decide)
    have e4 : u 4 = .pointer (some ⟨g, 3, none⟩) := (hu 4).1 (by decide)
    have e5 : u 5 = .int .i64 L := (hu 5).1 (by decide)
    have e7 : u 7 = .pointer (some ⟨g, 0, none⟩) := (hu 7).1 (by decide)
    have e8 : u 8 = .pointer (some ⟨g, 11, none⟩) := (hu 8).1 (by decide)
    simp only [List.take_succ_cons, List.take_zero]
    refine Tn.spec_cons (fun Y hC hd => ⟨by rfl, Tn.gives_val (.pointer (some ⟨g, 0, none⟩)) Y (Bp.exec_load1 102 (.tmp 2) rfl ⟨w.heap.size, 0, none⟩ rfl _ (boxed_below HX3.out.bw hC).cell _ Try.underlying102 rfl) ⟨hC, Below.refl _ _, fun _ => rfl, fun e => by cases e⟩⟩) ?_
    simp only [Act.put, List.setIfInBounds_toArray, List.set_cons_succ, List.set_cons_zero, Nat.reduceAdd]
    rw [e0]
    refine Tn.spec_cons (fun Y hC hd => ⟨by rfl, Tn.gives_val (.pointer (some ⟨g, 0, none⟩)) Y (Bp.exec_load1 102 (.tmp 2) rfl ⟨w.heap.size, 0, none⟩ rfl _ (boxed_below HX3.out.bw hC).cell _ Try.underlying102 rfl) ⟨hC, Below.refl _ _, fun _ => rfl, fun e => by cases e⟩⟩) ?_
    simp only [Act.put, List.setIfInBounds_toArray, List.set_cons_succ, List.set_cons_zero, Nat.reduceAdd]
    rw [e1]
    refine Tn.spec_cons (fun Y hC hd => ⟨by rfl, Tn.gives_val (.pointer (some ⟨g, 0, none⟩)) Y (exec_nilA (.tmp 29) rfl ⟨g, 0, none⟩ rfl) ⟨hC, Below.refl _ _, fun _ => rfl, fun e => by cases e⟩⟩) ?_
    simp only [Act.put, List.setIfInBounds_toArray, List.set_cons_succ, List.set_cons_zero, Nat.reduceAdd]
    rw [e2]
    refine Tn.spec_cons (fun Y hC hd => ⟨by rfl, Tn.gives_val (.pointer (some ⟨g, 0, none⟩)) Y (exec_wf0 (.tmp 30) rfl g rfl) ⟨hC, Below.refl _ _, fun _ => rfl, fun e => by cases e⟩⟩) ?_
    simp only [Act.put, List.setIfInBounds_toArray, List.set_cons_succ, List.set_cons_zero, Nat.reduceAdd]
    rw [e3]
    refine Tn.spec_cons (fun Y hC hd => ⟨by rfl, Tn.gives_val (.pointer (some ⟨g, 3, none⟩)) Y (exec_wcf3 (.tmp 31) rfl g rfl) ⟨hC, Below.refl _ _, fun _ => rfl, fun e => by cases e⟩⟩) ?_
    simp only [Act.put, List.setIfInBounds_toArray, List.set_cons_succ, List.set_cons_zero, Nat.reduceAdd]
    rw [e4]
    refine Tn.spec_cons (fun Y hC hd => ⟨by rfl, Tn.gives_val (.int .i64 L) Y (Bp.exec_load1 3 (.tmp 32) rfl ⟨g, 3, none⟩ rfl _ ((hC.cell (block_lt_of_cell HC3.out)).trans HC3.out) _ Try.underlying3 rfl) ⟨hC, Below.refl _ _, fun _ => rfl, fun e => by cases e⟩⟩) ?_
    simp only [Act.put, List.setIfInBounds_toArray, List.set_cons_succ, List.set_cons_zero, Nat.reduceAdd]
    rw [e5]
    refine Tn.spec_cons (fun Y hC hd => ⟨by rfl, Tn.gives_val (.slice (some ⟨Y.heap.size, 0, none⟩) L L) _ (exec_makeLy (.tmp 33) (.tmp 33) rfl L rfl rfl HBd.out.1) ⟨hC.alloc hC.size _, (Below.refl _ _).alloc (Nat.le_refl _) _, fun e => absurd rfl e, fun _ => ⟨_, rfl, hC.size, heap_alloc_new _ _⟩⟩⟩) ?_
    simp only [Act.put, List.setIfInBounds_toArray, List.set_cons_succ, List.set_cons_zero, Nat.reduceAdd]
    refine Tn.spec_cons (fun Y hC hd => ⟨by rfl, Tn.gives_val (.pointer (some ⟨g, 0, none⟩)) Y (exec_nilA (.tmp 28) rfl ⟨g, 0, none⟩ rfl) ⟨hC, Below.refl _ _, fun _ => rfl, fun e => by cases e⟩⟩) ?_
    simp only [Act.put, List.setIfInBounds_toArray, List.set_cons_succ, List.set_cons_zero, Nat.reduceAdd]
    rw [e7]
    refine Tn.spec_cons (fun Y hC hd => ⟨by rfl, Tn.gives_val (.pointer (some ⟨g, 11, none⟩)) Y (exec_wf4 (.tmp 35) rfl g rfl) ⟨hC, Below.refl _ _, fun _ => rfl, fun e => by cases e⟩⟩) ?_
    simp only [Act.put, List.setIfInBounds_toArray, List.set_cons_succ, List.set_cons_zero, Nat.reduceAdd]
    rw [e8]
    exact Tn.spec_nil
  · intro u Y hu hC hP
    have e0 : u 0 = .pointer (some ⟨g, 0, none⟩) := (hu 0).1 (by decide)
    have e1 : u 1 = .pointer (some ⟨g, 0, none⟩) := (hu 1).1 (by decide)
    have e2 : u 2 = .pointer (some ⟨g, 0, none⟩) := (hu 2).1 (by decide)
    have e3 : u 3 = .pointer (some ⟨g, 0, none⟩) := (hu 3).1 (by decide)
    have e4 : u 4 = .pointer (some ⟨g, 3, none⟩) := (hu 4).1 (by decide)
    have e5 : u 5 = .int .i64 L := (hu 5).1 (by decide)
    have e7 : u 7 = .pointer (some ⟨g, 0, none⟩) := (hu 7).1 (by decide)
    have e8 : u 8 = .pointer (some ⟨g, 11, none⟩) := (hu 8).1 (by decide)
    obtain ⟨lb, e6, hlb, hrl⟩ := (hP 6 (by decide)).2 rfl
    simp only [List.take_succ_cons, List.take_zero, List.drop_succ_cons, List.drop_zero, Tn.putAll, Act.put, List.setIfInBounds_toArray, List.set_cons_succ, List.set_cons_zero, Nat.reduceAdd]
    rw [e0, e1, e2, e3, e4, e5, e6, e7, e8]
    have HY := Lib.hid (HX3.out.later hC)
    have HBeY := Lib.hid (boxed_below HBe.out hC)
    have HRl := Lib.hid hrl
    have HLb : Hid (be + 1 ≤ lb ∧ lb < Y.heap.size) := Lib.hid ⟨by have := HBz.out.2; omega, (Array.getElem?_eq_some_iff.1 hrl).1⟩
    have c11 : Y.cell? ⟨g, 11, none⟩ = some (.slice none 0 0) := by rw [cell_of_row _ _ _ _ _ _ HY.out.row]; rfl
    have f11 : Y.frozen? ⟨g, 11, none⟩ = false := by simp [World.frozen?, HY.out.row]
    clear hu hC hP hlb hrl e0 e1 e2 e3 e4 e5 e6 e7 e8 HX3 HC3 HBe
    go_wp2_with fail
    have hS := RdG.new HY.out.row HRl.out
    have hb0 : Boxed (Y.setCell ⟨g, 11, none⟩ (.slice (some ⟨lb, 0, none⟩) L L)) w.heap.size 102 (.pointer (some ⟨g, 0, none⟩)) := (heap_setCell_far (by have := HGl.out; omega)).trans HY.out.bw
    have hb1 : Boxed (Y.setCell ⟨g, 11, none⟩ (.slice (some ⟨lb, 0, none⟩) L L)) (w.heap.size + 1) 39 (.slice sp N cap) := (heap_setCell_far (by have := HGl.out; omega)).trans HY.out.bl
    have hbe : Boxed (Y.setCell ⟨g, 11, none⟩ (.slice (some ⟨lb, 0, none⟩) L L)) be 35 (.int .i64 0) := (heap_setCell_far (by have := HGl.out; have := HBz.out.1; omega)).trans HBeY.out
    have hfr : Fr (fun j => j = g) w.heap.size w (Y.setCell ⟨g, 11, none⟩ (.slice (some ⟨lb, 0, none⟩) L L)) := (Fr.of_below HY.out.below (Nat.le_refl _)).trans (Fr.setCell _ (Or.inr rfl))
    have hsz : (Y.setCell ⟨g, 11, none⟩ (.slice (some ⟨lb, 0, none⟩) L L)).heap.size = Y.heap.size := by simp [World.setCell]
    have hlb2 : be + 1 ≤ lb ∧ lb < (Y.setCell ⟨g, 11, none⟩ (.slice (some ⟨lb, 0, none⟩) L L)).heap.size := by rw [hsz]; exact HLb.out
    obtain ⟨W1, hW1⟩ : ∃ W1, Y.setCell ⟨g, 11, none⟩ (.slice (some ⟨lb, 0, none⟩) L L) = W1 := ⟨_, rfl⟩
    rw [hW1] at hS hb0 hb1 hbe hfr hlb2 ⊢
    clear hW1 hsz HY HBeY HRl HLb c11 f11
    obtain ⟨c0, c1, c2, c3, c4, c5⟩ := hr_cfg (h := hh) hS.row (fun j hj => by
      obtain rfl | rfl | rfl | rfl | rfl | rfl : j = 0 ∨ j = 1 ∨ j = 2 ∨ j = 3 ∨ j = 4 ∨ j = 5 := by omega
      all_goals rfl)
    rw [HHc.out] at c0 c1 c2 c3 c4 c5
    dsimp only at c0 c1 c2 c3 c4 c5
    have b0 := hb0.cell
    have HS := Lib.hid hS
    have HB0 := Lib.hid hb0
    have HB1 := Lib.hid hb1
    have HBe := Lib.hid hbe
    have HFr := Lib.hid hfr
    have HLb := Lib.hid hlb2
    clear hS hb0 hb1 hbe hfr hlb2
    gi_wp2
    refine wpIn_label ?_
    gi_wp2_with (refine ⟨trivial, ?_⟩; gi_at_call 37; refine (callsIn_wide.2 (HBk.out _)).mono ?_; rintro e w' ⟨rfl, rfl⟩)
    have hcb := heap_alloc_new W1 (.cells (Cfg.cells ⟨V, D, ch, L, cx, I⟩) 23)
    have hba := (Below.refl _ W1).alloc (Nat.le_refl _) (.cells (Cfg.cells ⟨V, D, ch, L, cx, I⟩) 23)
    have hsz : (W1.alloc (.cells (Cfg.cells ⟨V, D, ch, L, cx, I⟩) 23)).heap.size = W1.heap.size + 1 := by simp
    have hI0 : RdI w g lb L be (W1.heap.size + 1) hh BL ls 0 (W1.alloc (.cells (Cfg.cells ⟨V, D, ch, L, cx, I⟩) 23)) := by
      refine ⟨by rw [hsz]; exact Nat.le_refl _, HFr.out.trans (Fr.of_below hba HFr.out.size), boxed_below HB0.out hba, ⟨sp, cap, ?_, ?_⟩, boxed_below HBe.out hba, ⟨fun _ _ => ⟨0, 0, .slice none 0 0⟩, fun _ => 0, HS.out.later hba, ⟨fun i b hi => by omega, fun i b _ _ => ?_, fun i hi => by omega, fun i j _ hj => by omega⟩⟩, fun i b hi => by omega⟩
      · have e : ls.length - rowsB (BL.take 0) = N := by rw [HNl.out]; simp [rowsB]
        rw [e]
        exact boxed_below HB1.out hba
      · have e : ls.drop (rowsB (BL.take 0)) = ls := by simp [rowsB]
        rw [e]
        exact HP.out
      · unfold stQ
        split <;> rfl
    have hlt : lb < W1.heap.size ∧ be + 1 ≤ lb := ⟨HLb.out.2, HLb.out.1⟩
    have hmb : w.heap.size ≤ W1.heap.size := HFr.out.size
    obtain ⟨bc, hbc⟩ : ∃ bc, W1.heap.size = bc := ⟨_, rfl⟩
    rw [hbc] at hcb hsz hI0 hlt hmb ⊢
    obtain ⟨W0, hW0⟩ : ∃ W0, W1.alloc (.cells (Cfg.cells ⟨V, D, ch, L, cx, I⟩) 23) = W0 := ⟨_, rfl⟩
    rw [hW0] at hcb hsz hI0 ⊢
    have HLt : Hid (g < w.heap.size ∧ w.heap.size + 1 < be ∧ be + 1 ≤ lb ∧ lb < bc ∧ W0.heap.size = bc + 1) := Lib.hid ⟨HGl.out, HBz.out.1, hlt.2, hlt.1, hsz⟩
    have HI0 := Lib.hid hI0
    have HL4 : Hid (L ≤ 4) := Lib.hid HBd.out.1
    clear hW0 hbc hba hlt hI0 hmb hsz HS HB0 HB1 HBe HFr HLb HBz HGl HBd HB1d HBk HHc HP c0 c1 c2 c3 c4 c5 b0
    refine wpIn_rangeFunc_tells rfl (by omega) (gf := 56) (lb := #[.pointer (some ⟨bc, 0, none⟩)]) rfl trivial (enters_of Try.func56 (by kernel_rfl) rfl)
      (HBt.out bc W0 hcb) KpB.trans (fun W l o o' h1 h2 h3 h4 => KpB.put W l o o' h2 h3) (Below.refl _ _) (fun _ => rfl)
      (fun (pre : List Bk) W => pre.map (·.b) = BL.take pre.length ∧ RdI w g lb L be (bc + 1) hh BL ls pre.length W) (fun c (_ : List Bk) W => RdX w g be BL ls c W) (OwnFrom.and (ownFrom_pure _ _) (rdI_own (by have := HLt.out; omega))) (fun c => rdX_own (by have := HLt.out; omega))
      ⟨by simp, HI0.out⟩
      (fun pre x a' W => (BL[pre.length]? = some x.b ∧ FnOK W0.heap.size W x) ∧ ∃ Bx, BoxB 0 Bx x W ∧ a' = { tmps := #[.pointer (some ⟨g, 0, none⟩), .slice sp N cap, .pointer (some ⟨w.heap.size, 0, none⟩), .pointer (some ⟨w.heap.size + 1, 0, none⟩), .int .i64 0, .int .i64 M, .pointer (some ⟨be, 0, none⟩), .pointer (some ⟨Bx, 0, none⟩), undef, undef, undef, .tuple #[.int .i64 M, .int .i64 0], .pointer (some ⟨g, 0, none⟩), .pointer (some ⟨g, 0, none⟩), .pointer (some ⟨g, 0, none⟩), .agg #[.int .i64 (V : Int), .int .i64 (D : Int), .int .i64 ch, .int .i64 (L : Int), .int .i64 cx, .int .i64 (I : Int)], .tuple #[.int .i64 M, .int .i64 0], .int .i64 M, .int .i64 0, .int .i64 0, .bool false, .bool false, .slice sp N cap, .int .i64 (N : Int), .int .i64 M, .int .i64 (N : Int), .bool false, .bool false, .pointer (some ⟨g, 0, none⟩), .pointer (some ⟨g, 0, none⟩), .pointer (some ⟨g, 0, none⟩), .pointer (some ⟨g, 0, none⟩), .pointer (some ⟨g, 3, none⟩), .int .i64 (L : Int), .slice (some ⟨lb, 0, none⟩) L L, .pointer (some ⟨g, 0, none⟩), .pointer (some ⟨g, 11, none⟩), .pointer (some ⟨g, 0, none⟩), .pointer (some ⟨g, 0, none⟩), .pointer (some ⟨g, 0, none⟩), .agg #[.int .i64 (V : Int), .int .i64 (D : Int), .int .i64 ch, .int .i64 (L : Int), .int .i64 cx, .int .i64 (I : Int)], .func (.func 56) #[] #[.pointer (some ⟨bc, 0, none⟩)], x.val, undef, undef, undef, undef, undef, undef, undef, undef, undef, undef, undef, undef, undef, undef, undef, undef, undef, undef, undef, undef, undef, undef, undef, undef, undef, undef, undef, undef], defers := [] })
      (fun pre x a' s X Y row hs hg hr => ⟨⟨hs.1.1, FnOK.own () X Y row hs.1.2 hg hr⟩, hs.2.imp fun Bx h => ⟨BoxB.own () X Y row h.1 hg hr, h.2⟩⟩)
      ?assign ?body ?done ?stop
    case assign =>
      rintro l pre x W K hI hG hK
      have HK := Lib.hid hK
      have HG := Lib.hid hG
      have HI := Lib.hid hI
      have h1 := hG.2.one
      clear hG hK hI
      obtain ⟨⟨kk, yy, rr, cc⟩, vf, mf⟩ := x
      dsimp only at h1
      obtain ⟨h1, h2⟩ := h1
      dsimp only [Bk.val, Bk.cells, blC]
      gi_wp2_with (refine wpListIn_store_new rfl 95 (.tmp 7) (.tmp 42) rfl #[.int .i64 (kk : Int), .int .i64 (yy : Int), .int .i64 (rr : Int), .int .i64 (cc : Int), vf, mf] zblk 95 rfl rfl rfl size_blk rfl (blC_one _ _ _ _ h1 h2) ?_)
      have hal : Below W.heap.size W (W.alloc (.cells #[.int .i64 (kk : Int), .int .i64 (yy : Int), .int .i64 (rr : Int), .int .i64 (cc : Int), vf, mf] 95)) := (Below.refl _ _).alloc (Nat.le_refl _) _
      exact HK.out _ _ ((KeepsOthers.alloc _ _).from _) (KpB.of_below hal) ⟨HI.out.1, HI.out.2.later hal⟩ ⟨⟨HG.out.1, HG.out.2.later hal⟩, W.heap.size, ⟨Nat.zero_le _, heap_alloc_new _ _⟩, rfl⟩
    case body =>
      rintro l pre x a' W hl _ ⟨hpm, hI⟩ ⟨⟨hx, hfn⟩, Bx, hBx, rfl⟩
      obtain ⟨sp', cap', hbl, hlv⟩ := hI.bl
      obtain ⟨st, β, hrd, hrs⟩ := hI.st
      have hmem := List.mem_of_getElem? hx
      have hrc := HRc.out _ hmem
      have hle : rowsB (BL.take pre.length) + x.b.r ≤ N := by
        rw [← rowsB_split hx, HNr.out]
        exact rowsB_take_le _ _
      have hbw := hI.bw
      have hdl : (ls.drop (rowsB (BL.take pre.length))).length = N - rowsB (BL.take pre.length) := by rw [List.length_drop, HNl.out]
      have hpc := hlv W hI.fr
      obtain ⟨c, o, _, _, e, _, _⟩ := hpc.at_ 0 (by omega)
      subst e
      have hrow := hBx.2
      have hbxs : Bx < W.heap.size ∧ Bx ≠ g ∧ Bx ≠ lb ∧ Bx ≠ be ∧ Bx ≠ w.heap.size + 1 ∧ Bx ≠ w.heap.size := by
        obtain ⟨cs, hcs⟩ := hrd.lrow
        refine ⟨(Array.getElem?_eq_some_iff.1 hrow).1, fun e => ?_, fun e => ?_, fun e => ?_, fun e => ?_, fun e => ?_⟩
        · rw [e, hrd.row] at hrow; injection hrow with e1; injection e1 with _ e2; exact absurd e2 (by decide)
        · rw [e, hcs] at hrow; injection hrow with e1; injection e1 with _ e2; exact absurd e2 (by decide)
        · rw [e, show W.heap[be]? = _ from hI.be] at hrow; injection hrow with e1; injection e1 with _ e2; exact absurd e2 (by decide)
        · rw [e, show W.heap[w.heap.size + 1]? = _ from hbl] at hrow; injection hrow with e1; injection e1 with _ e2; exact absurd e2 (by decide)
        · rw [e, show W.heap[w.heap.size]? = _ from hbw] at hrow; injection hrow with e1; injection e1 with _ e2; exact absurd e2 (by decide)
      have hst0 : st x.b.k x.b.y = stQ x.b 0 (.slice none 0 0) := hrs.todo _ _ (Nat.le_refl _) hx
      have hput : putS st x.b.k x.b.y (stQ x.b 0 (.slice none 0 0)) = st := by
        funext k' y'
        unfold putS
        split
        · rename_i h
          rw [h.1, h.2, hst0]
        · rfl
      have hn0 : RdN W g lb L be hh st x.b (ls.drop (rowsB (BL.take pre.length))) 0 (.slice none 0 0) W :=
        ⟨Fr.refl _ _ _, by rw [hput]; exact hrd, ⟨by simp [numsR], Or.inl ⟨rfl, by simp [numsR]⟩⟩, hI.be, fun q' hq' => by omega⟩
      have hnx : ∀ lsb', ls.drop (rowsB (BL.take pre.length)) = lsb' → ∀ val wr, RdN W g lb L be hh st x.b lsb' x.b.r val wr → RdI w g lb L be (bc + 1) hh BL ls (pre.length + 1) (wr.setCell ⟨w.heap.size + 1, 0, none⟩ (.slice (cutA (some ⟨c, o, none⟩) cap' x.b.r) (N - rowsB (BL.take pre.length) - x.b.r) (cap' - x.b.r))) := fun lsb' e val wr h => by
        have := hI.next hbl hlv hrs hx (by rw [e]; exact h) HKey.out ⟨hrc.1, hrc.2.2.1⟩ (by rw [HNl.out]; exact hle) (by have := HLt.out; omega)
        rwa [HNl.out] at this
      have hnf : ∀ lsb', ls.drop (rowsB (BL.take pre.length)) = lsb' → ∀ q, q < x.b.r → (lsb'.getD q []).length ≠ 8 * x.b.c → ¬ fits BL ls := fun lsb' e q hq hne h => hne (by rw [← e]; exact h _ _ hx q hq)
      have hl1 : ∀ lsb', ls.drop (rowsB (BL.take pre.length)) = lsb' → ∀ q, (lsb'.getD q []).length ≤ 100000 := fun lsb' e q => by
        rw [← e, List.getD_eq_getElem?_getD]
        cases h : (ls.drop (rowsB (BL.take pre.length)))[q]? with
        | none => simp
        | some l => exact HLen.out l (List.mem_of_mem_drop (List.mem_of_getElem? h))
      have hlvw : ∀ lsb', ls.drop (rowsB (BL.take pre.length)) = lsb' → ∀ q val wr, RdN W g lb L be hh st x.b lsb' q val wr → Cd.Pieces wr (some ⟨c, o, none⟩) cap' lsb' := fun lsb' e q val wr h => by
        rw [← e]
        refine hlv wr (hI.fr.trans ⟨h.fr.os, h.fr.tape, h.fr.output, h.fr.size, fun j hj hx => h.fr.block j (Nat.lt_of_lt_of_le hj hI.fr.size) ?_⟩)
        have := HLt.out
        rintro (h | h | h) <;> omega
      have hsz := hI.sz
      have hcap : x.b.r ≤ cap' := by
        obtain ⟨vs, h1, h2, _⟩ := hpc.ex
        have h3 := h2.le
        omega
      have kH := run_headL (some ⟨c, o, none⟩) (N - rowsB (BL.take pre.length)) cap' x.b.r hcap
      have kC := run_cutL (some ⟨c, o, none⟩) (N - rowsB (BL.take pre.length)) cap' x.b.r (by omega)
      obtain ⟨lsb, hlsb⟩ : ∃ lsb, ls.drop (rowsB (BL.take pre.length)) = lsb := ⟨_, rfl⟩
      have hnx := hnx lsb hlsb
      have hnf := hnf lsb hlsb
      have hl1 := hl1 lsb hlsb
      have hlvw := hlvw lsb hlsb
      rw [hlsb] at hn0 hdl
      have hXk : ∀ j, (j = g ∨ j = lb ∨ j = be) → j < W0.heap.size ∧ j ≠ bc := fun j hj => by have := HLt.out; omega
      have HPm : Hid ((pre ++ [x]).map (·.b) = BL.take (pre ++ [x]).length) := Lib.hid (by rw [List.map_append, hpm, List.length_append, List.length_singleton, List.take_add_one, hx]; rfl)
      have HPl : Hid ((pre ++ [x]).length = pre.length + 1) := Lib.hid (by simp)
      have HFr := Lib.hid hI.fr
      have HOk := Lib.hid (HOkL.out _ hmem)
      have HF := Lib.hid hfn
      have HN0 := Lib.hid hn0
      have HNx := Lib.hid hnx
      have HNf := Lib.hid hnf
      have HL1 := Lib.hid hl1
      have HLv := Lib.hid hlvw
      have HXk := Lib.hid hXk
      have HRc1 := Lib.hid hrc
      have HLe1 := Lib.hid hle
      have HDl := Lib.hid hdl
      have HBs := Lib.hid hbxs
      have HBw := Lib.hid hbw
      have HRow := Lib.hid hrow
      have HSz := Lib.hid hsz
      rw [HNl.out] at hbl
      have HBl := Lib.hid hbl
      have b1 := hbl.cell
      clear hpm hI hx hfn hBx hlv hrd hrs hmem hrc hle hbw hdl hpc hrow hbxs hst0 hput hn0 hnx hnf hl1 hlvw hXk hlsb hbl hsz hl
      obtain ⟨⟨k, y, r, cc⟩, vf, mf⟩ := x
      dsimp only [Bk.val, Bk.cells, blC] at HPm HPl HOk HF HN0 HNx HNf HL1 HLv HRc1 HLe1 HRow kH kC hcap ⊢
      have b2 : W.cell? ⟨Bx, 2, none⟩ = some (.int .i64 (r : Int)) := by rw [cell_of_row _ _ _ _ _ _ HRow.out]; rfl
      obtain ⟨R0, hR0⟩ : ∃ R0, rowsB (BL.take pre.length) = R0 := ⟨_, rfl⟩
      rw [hR0] at HNx HDl HLe1 HBl kH kC b1
      clear hR0
      gi_wp2
      gi_loopw [9, 10, 48] (fun _ _ iv wr => ∃ q val, q ≤ r ∧ iv = .int .i64 (q : Int) ∧ RdN W g lb L be hh st ⟨k, y, r, cc⟩ lsb q val wr) (fun _ _ iv _ => r - (intOf iv).toNat)
      case atStart => exact ⟨0, _, by omega, rfl, HN0.out⟩
      case round =>
      obtain ⟨q, val, hq, rfl, hn⟩ := hrel
      have hfar : ∀ j, j < W.heap.size → j ≠ g → j ≠ lb → j ≠ be → wr.heap[j]? = W.heap[j]? := fun j h1 h2 h3 h4 => hn.fr.block j h1 (by rintro (h | h | h) <;> omega)
      have hrow : wr.heap[Bx]? = some (.cells #[.int .i64 (k : Int), .int .i64 (y : Int), .int .i64 (r : Int), .int .i64 (cc : Int), vf, mf] 95 (0, 0)) := (hfar _ HBs.out.1 HBs.out.2.1 HBs.out.2.2.1 HBs.out.2.2.2.1).trans HRow.out
      have hbw : Boxed wr w.heap.size 102 (.pointer (some ⟨g, 0, none⟩)) := (hfar _ (by have := HLt.out; have := HSz.out; omega) (by have := HLt.out; omega) (by have := HLt.out; omega) (by have := HLt.out; omega)).trans HBw.out
      have hbl : Boxed wr (w.heap.size + 1) 39 (.slice (some ⟨c, o, none⟩) (N - R0) cap') := (hfar _ (by have := HLt.out; have := HSz.out; omega) (by have := HLt.out; omega) (by have := HLt.out; omega) (by have := HLt.out; omega)).trans HBl.out
      clear hfar
      by_cases hlt : q < r
      · have hd1 : decide (q < r) = true := by simp; omega
        obtain ⟨c', o', s2, c2, ee, kc, hby⟩ := (HLv.out q val wr hn).at_ q (by rw [HDl.out]; have := HLe1.out; omega)
        cases ee
        have hml := HL1.out q
        have b3 : wr.cell? ⟨Bx, 3, none⟩ = some (.int .i64 (cc : Int)) := by rw [cell_of_row _ _ _ _ _ _ hrow]; rfl
        have HN := Lib.hid hn
        have HRw := Lib.hid hrow
        have HBw1 := Lib.hid hbw
        have HBy := Lib.hid hby
        have HMl := Lib.hid hml
        have HLtq := Lib.hid hlt
        by_cases hm : (lsb.getD q []).length = 8 * cc
        · have HCl := Lib.hid (parseNums_okB wr s2 c2 _ cc _ rfl HBy.out HMl.out hm)
          have HAd := Lib.hid (fun w3 (hb3 : Below wr.heap.size wr w3) g' hr hg' => HN.out.add (w3 := w3) (x := ⟨⟨k, y, r, cc⟩, vf, mf⟩) (g' := g') (n0 := W0.heap.size) (bc := bc) hb3 hr hg' HF.out HXk.out (by have := HLt.out; have := HSz.out; omega) (by have := HLt.out; omega) HL4.out HOk.out HLtq.out ⟨HRc1.out.2.1, HRc1.out.2.2.2⟩ (by rw [HDl.out]; have := HLe1.out; have := HLtq.out; omega) hm)
          dsimp only [Bk.val, Bk.cells, blC] at HAd
          obtain ⟨m, hmm⟩ : ∃ m, (lsb.getD q []).length = m := ⟨_, rfl⟩
          rw [hmm] at HCl kc
          have hw5 : IntKind.i64.wrap ((q : Int) + 1) = (q : Int) + 1 := IntWalk.i64_in _ (by have := HLtq.out; have := HRc1.out.2.1; omega)
          clear hn hrow hbw hbl hby hml hlt hm hmm
          gi_wp2_with (first
            | (refine ⟨trivial, ?_⟩; gi_at_call 50; refine (CallsIn.inRound l (callsIn_wide.2 HCl.out)).mono ?_; rintro e w3 ⟨g', hg', rfl, hnm, hb3⟩; have HA3 := Lib.hid (HAd.out w3 hb3 g' hnm hg'); have hbe3 := boxed_below HN.out.be hb3; have e3 := hbe3.cell; have f3 := hbe3.frozen; have HR3 : Hid ((w3.setCell ⟨be, 0, none⟩ (.int .i64 0)).heap[Bx]? = some (.cells #[.int .i64 (k : Int), .int .i64 (y : Int), .int .i64 (r : Int), .int .i64 (cc : Int), vf, mf] 95 (0, 0))) := Lib.hid ((heap_setCell_far HBs.out.2.2.2.1).trans ((hb3.block _ (Array.getElem?_eq_some_iff.1 HRw.out).1).trans HRw.out)); have b03 : (w3.setCell ⟨be, 0, none⟩ (.int .i64 0)).cell? ⟨w.heap.size, 0, none⟩ = some (.pointer (some ⟨g, 0, none⟩)) := (Boxed.other (boxed_below HBw1.out hb3) (by have := HLt.out; omega) _).cell; clear hb3 hnm hg' hbe3)
            | (refine wpListIn_load_row rfl 95 (.tmp 7) rfl Bx rfl 95 #[.int .i64 (k : Int), .int .i64 (y : Int), .int .i64 (r : Int), .int .i64 (cc : Int), vf, mf] (0, 0) _ HR3.out Try.underlying95 rfl size_blk ?_)
            | (refine ⟨trivial, ?_⟩; gi_at_call 51; refine (CallsIn.inRound l (callsIn_wide.2 HA3.out)).mono ?_; rintro e w5 ⟨⟨v5, rfl⟩, val', hn5⟩; have HN5 := Lib.hid hn5; clear hn5))
          go_roundw
          case rel => exact ⟨q + 1, val', by have := HLtq.out; omega, by go_num, HN5.out⟩
          case measure => simp [intOf]; have := HLtq.out; omega
        · have HCl := Lib.hid (parseNums_no wr s2 c2 _ cc _ rfl HBy.out HMl.out hm)
          have HNo := Lib.hid (HNf.out q HLtq.out hm)
          obtain ⟨m, hmm⟩ : ∃ m, (lsb.getD q []).length = m := ⟨_, rfl⟩
          rw [hmm] at HCl kc
          clear hn hrow hbw hbl hby hml hlt hm hmm
          gi_wp2_with (refine ⟨trivial, ?_⟩; gi_at_call 50; refine (CallsIn.inRound l (callsIn_wide.2 HCl.out)).mono ?_; rintro e w3 ⟨rfl, hb3⟩; have HB3 := Lib.hid hb3; have hbe3 := boxed_below HN.out.be hb3; have HBe3 := Lib.hid hbe3; have e3 := hbe3.cell; have f3 := hbe3.frozen; clear hb3 hbe3)
          refine ⟨((HN.out.keeps HXk.out).1.trans (below_keeps HB3.out)).trans keepsFrom_cell, ((HN.out.keeps HXk.out).2.trans (KpB.of_below HB3.out)).trans (KpB.cell (a := ⟨be, 0, none⟩) (HXk.out be (Or.inr (Or.inr rfl))).1 (HXk.out be (Or.inr (Or.inr rfl))).2), rfl, ?_, HBe3.out.set _, HNo.out⟩
          have hfw := HN.out.frw HFr.out (by have := HLt.out; omega)
          exact (hfw.trans (Fr.of_below HB3.out hfw.size)).trans (Fr.setCell _ (Or.inl (by have := HLt.out; dsimp only; omega)))
      · obtain rfl : q = r := by omega
        have hd1 : decide (q < q) = false := by simp
        have b2 : wr.cell? ⟨Bx, 2, none⟩ = some (.int .i64 (q : Int)) := by rw [cell_of_row _ _ _ _ _ _ hrow]; rfl
        have b1 := hbl.cell
        have f1 := hbl.frozen
        have HN := Lib.hid hn
        clear hn hrow hbw hbl hlt hq
        gi_wp2
        have hnx := HNx.out val wr HN.out
        refine ⟨(HN.out.keeps HXk.out).1.trans keepsFrom_cell, (HN.out.keeps HXk.out).2.trans (KpB.cell (a := ⟨w.heap.size + 1, 0, none⟩) (by have := HLt.out; dsimp only; omega) (by have := HLt.out; dsimp only; omega)), HPm.out, ?_⟩
        rw [HPl.out]
        exact hnx
    case done =>
      rintro D2 ys W hD hys ⟨hpm, hI⟩ hK
      have hl : ys.length = BL.length := by rw [← hys, List.length_map]
      have hc := hI.be.cell
      rw [hl] at hI
      have HI := Lib.hid hI
      have HW0s : Hid (w.heap.size ≤ D2) := Lib.hid (by have := HLt.out; omega)
      clear hI hl hys hpm
      gi_wp2
      refine noGoto_ret' ?_
      refine ⟨by simp, .inl ⟨_, _, rfl, run_takeDeferred hK, ?_⟩⟩
      have hI2 := OwnFrom.putObj (rdI_own (α := Unit) (f := fun _ => BL.length) (B := w.heap.size) (Nat.le_refl _)) (s := ()) (.deferred none) HI.out HW0s.out hK rfl
      exact ⟨_, results_tmp rfl _ _ _, hI2.fr, Or.inr ⟨rfl, fun i b hb => hI2.fit i b (List.getElem?_eq_some_iff.1 hb).1 hb, by
        obtain ⟨st, β, h1, h2⟩ := hI2.st
        exact ⟨lb, bc + 1, st, β, by have := HLt.out; omega, by have := HLt.out; omega, h1, h2⟩⟩⟩
    case stop =>
      rintro D2 c pre W hD _ ⟨rfl, hF, hb, hno⟩ hK
      have hc := hb.cell
      have HF := Lib.hid hF
      have HNo := Lib.hid hno
      have HW0s : Hid (w.heap.size ≤ D2) := Lib.hid (by have := HLt.out; omega)
      clear hb hF hno
      gi_wp2
      refine noGoto_ret' ?_
      refine ⟨by simp, .inl ⟨_, _, rfl, run_takeDeferred hK, ?_⟩⟩
      exact ⟨_, results_tmp rfl _ _ _, HF.out.trans (Fr.put _ (Or.inl HW0s.out)), Or.inl ⟨rfl, HNo.out⟩⟩
end Go.Proofs.Ytkfkjapkcjidnaa.Wg
