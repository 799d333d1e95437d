/- Pools of rows in pages: tools for the document's Share of the law's. -/
import Derived.Test.YtcfhchdkohjbfaaRn
namespace Go.Proofs.Ytcfhchdkohjbfaa.Kv
set_option maxRecDepth 100000
open Go.ChangeShapes Go.WideShapes Go.ChangeAt Go.RowKit Go.Proofs.Ytcfhchdkohjbfaa.Tn
/-- what is known of every document's pool that a pool in memory holds -/
structure Fine (D : Doc Int) : Prop where
  low : Low D
  p1 : D.pages ≤ 256
  s0 : 1 ≤ D.size
  s1 : D.size ≤ 64
  pl : ∀ (k : Nat) (L : List Int) (P : List Nat), D.rows[k]? = some (some (L, P)) → P.length = (L.length + D.size - 1) / D.size
theorem Pool.fine {w : World} {τ : Tags} {g : Nat} {D : Doc Int} (h : Pool I.kind w τ g D) : Fine D := by
  obtain ⟨ly, pg, _, hG⟩ := h
  refine ⟨⟨hG.len, fun k L P hr => ?_⟩, hG.p1, hG.s0, hG.s1, fun k L P hr => (hG.row k L P hr).pl⟩
  have hsh := (hG.row k L P hr).short hG.s0
  exact ⟨Nat.le_trans hsh.1 hG.p1, Nat.le_trans hsh.2 (Nat.mul_le_mul hG.p1 hG.s1)⟩
theorem Fine.pos {D : Doc Int} (h : Fine D) {k : Nat} {L : List Int} {P : List Nat} (hq : D.rows[k]? = some (some (L, P))) (h0 : 0 < L.length % D.size) : 0 < P.length := by
  rw [h.pl k L P hq, up_more h.s0 h0]
  exact Nat.succ_pos _
section
variable {a : Act} {o : Oper} {W : World}
theorem exec_addS (x y : Operand) (ho : o.op = .binOp .add 3 x y 3) (u v z : Int) (hx : a.eval x = .int .i64 u) (hy : a.eval y = .int .i64 v) (h : IntKind.i64.wrap (u + v) = z) : (execOp a.eval o).run Try.prog W = .ok (.value (.int .i64 z)) W := by
  unfold execOp
  simp [ho, hx, hy, binOp, Op.intArith, h, eqGuard]
theorem exec_subS (x y : Operand) (ho : o.op = .binOp .sub 3 x y 3) (u v z : Int) (hx : a.eval x = .int .i64 u) (hy : a.eval y = .int .i64 v) (h : IntKind.i64.wrap (u - v) = z) : (execOp a.eval o).run Try.prog W = .ok (.value (.int .i64 z)) W := by
  unfold execOp
  simp [ho, hx, hy, binOp, Op.intArith, h, eqGuard]
theorem exec_quoS (x y : Operand) (ho : o.op = .binOp .quo 3 x y 3) (u v z : Int) (hx : a.eval x = .int .i64 u) (hy : a.eval y = .int .i64 v) (hz : v ≠ 0) (h : IntKind.i64.wrap (u.tdiv v) = z) : (execOp a.eval o).run Try.prog W = .ok (.value (.int .i64 z)) W := by
  unfold execOp
  simp [ho, hx, hy, binOp, Op.intDiv, hz, h, eqGuard]
/-- append of what lies in a slice to nothing -/
theorem gives_append_nil (s x : Operand) (ho : o.op = .call { callee := .builtin .append, args := #[s, x], argTypes := #[40, 40] }) (sp : Option Addr) (m cap : Nat) (ys : List Value) (hs : a.eval s = .slice none 0 0) (hx : a.eval x = .slice sp m cap) (hm : ys.length = m) (hb : Sl W sp cap ys) (h1 : ∀ v ∈ ys, v.oneCell' = true) (hn : m ≤ 1000000) {G : Value → World → Prop}
    (h : ∀ v' w' b', Row w' 3 v' b' ys → Below W.heap.size W w' → (∀ c, b' = some c → W.heap.size ≤ c) → G v' w') : Gives Try.prog o a W G := by
  subst hm
  obtain ⟨i0, hi, hz0, hz1, hz2⟩ := info_parts info3
  have hown : W.ownsRow W.heap.size 3 1 (.slice none 0 0) 0 [] := ⟨rfl, Or.inl ⟨rfl, rfl⟩⟩
  rcases sp with _ | ad
  · obtain rfl := hb.nul rfl
    have h0 : ys = [] := List.eq_nil_of_length_eq_zero (by have := hb.le; omega)
    subst h0
    have hrun := run_append_owned_none (P := Try.prog) (w := W) W.heap.size 40 o.type 3 i0 1 Try.underlying40 hi _ _ _ hown
    refine Tn.gives_val (.slice none 0 0) W ?_ (h _ _ none (Row.nil _ _ _) (Below.refl _ _) (fun c hc => by cases hc))
    simp [execOp, ho, resolve, invoke, builtin, hs, hx, hrun, Result.andThen]
  · have hcells : ∀ j u, ys[j]? = some u → W.cell? (ad.add j) = some u := by
      intro j u hu
      have hj : 0 < ys.length := by
        by_cases h0 : 0 < ys.length
        · exact h0
        · have : ys = [] := List.eq_nil_of_length_eq_zero (by omega)
          subst this
          simp at hu
      obtain ⟨c, o', e, hl⟩ := hb.lies hj
      cases e
      exact hl.src j u hu
    obtain ⟨v', w', hrun, hown', hg, _⟩ := run_append_own (P := Try.prog) W W.heap.size 40 o.type 3 i0 _ 1 8 Try.underlying40 hi hz0 hz1 hz2 rfl (by decide) _ 0 [] hown ad ys.length cap ys (by simp) hcells h1
      (by unfold maxLen; omega) (Nat.le_trans (Nat.mul_le_mul (show 0 + ys.length ≤ 1000000 by omega) (Nat.le_refl 8)) (by decide)) (Nat.le_refl _)
    rw [List.nil_append] at hown'
    obtain ⟨_, b', hr, _, hge⟩ := Row.of_owns hown'
    refine Tn.gives_val v' w' ?_ (h v' w' b' hr (Below.ofGrown hg (Nat.le_refl _) (fun q hq => by cases hq)) hge)
    simp [execOp, ho, resolve, invoke, builtin, hs, hx, hrun, Result.andThen]
end
/-- what such a region's operations answer -/
def slQ (A lo : Nat) (xs : List Value) (vals : Nat → Option Value) (j : Nat) (W : World) (v : Value) : Prop := (j = A → ∃ b', Row W 3 v b' xs ∧ ∀ c, b' = some c → lo ≤ c) ∧ ∀ z, vals j = some z → v = z
theorem slQ_later {A lo j : Nat} {xs : List Value} {vals : Nat → Option Value} {W1 W2 : World} {v : Value} (hb : Below W1.heap.size W1 W2) (h : slQ A lo xs vals j W1 v) : slQ A lo xs vals j W2 v :=
  ⟨fun e => by
    obtain ⟨b', h1, h2⟩ := h.1 e
    exact ⟨b', h1.kept fun c hc => hb.block c (h1.lt hc), h2⟩, h.2⟩
/-- the box with the new row -/
structure ShB (w : World) (q : Nat) (lv pv : Value) (lb pb : Option Nat) (l : List Int) (p : List Nat) (W : World) : Prop where
  below : Below w.heap.size w W
  box : W.heap[q]? = some (.cells #[lv, pv, .bool true] 73 (0, 0))
  hq : w.heap.size ≤ q
  things : Row W 3 lv lb (l.map (Value.int .i64))
  tb : ∀ c, lb = some c → w.heap.size ≤ c ∧ c ≠ q
  pages : Row W 3 pv pb (p.map natV)
  gb : ∀ c, pb = some c → w.heap.size ≤ c ∧ c ≠ q ∧ lb ≠ some c
theorem ShB.cells {w W : World} {q : Nat} {lv pv : Value} {lb pb : Option Nat} {l : List Int} {p : List Nat} (h : ShB w q lv pv lb pb l p W) : W.cell? ⟨q, 0, none⟩ = some lv ∧ W.cell? ⟨q, 1, none⟩ = some pv ∧ W.cell? ⟨q, 2, none⟩ = some (.bool true) ∧ (∀ i, W.frozen? ⟨q, i, none⟩ = false) := by
  refine ⟨?_, ?_, ?_, fun i => row_frozen h.box⟩ <;> (rw [cell_of_row _ _ _ _ _ _ h.box]; rfl)
theorem ShB.later {w W W' : World} {q : Nat} {lv pv : Value} {lb pb : Option Nat} {l : List Int} {p : List Nat} (h : ShB w q lv pv lb pb l p W) (hb : Below W.heap.size W W') : ShB w q lv pv lb pb l p W' :=
  ⟨h.below.trans (hb.mono h.below.size), (hb.block _ (Array.getElem?_eq_some_iff.1 h.box).1).trans h.box, h.hq, h.things.kept fun c hc => hb.block c (h.things.lt hc), h.tb, h.pages.kept fun c hc => hb.block c (h.pages.lt hc), h.gb⟩
theorem below_set {B q i : Nat} {w W : World} {v : Value} (h : Below B w W) (hq : B ≤ q) : Below B w (W.setCell ⟨q, i, none⟩ v) :=
  ⟨h.os, h.tape, h.output, by rw [set_size]; exact h.size, fun k hk => (set_other _ _ _ _ _ (by omega)).trans (h.block k hk)⟩
theorem ShB.putL {w W0 W : World} {q : Nat} {u pv : Value} {l0 : List Int} (h : ShB w q u pv none none l0 [] W0) (hb : Below W0.heap.size W0 W) {v : Value} {b' : Option Nat} {l : List Int} (hr : Row W 3 v b' (l.map (Value.int .i64))) (hge : ∀ c, b' = some c → W0.heap.size ≤ c) :
    ShB w q v pv b' none l [] (W.setCell ⟨q, 0, none⟩ v) := by
  have hql : q < W0.heap.size := (Array.getElem?_eq_some_iff.1 h.box).1
  have hw := h.below.size
  refine ⟨below_set (h.below.trans (hb.mono h.below.size)) h.hq, ?_, h.hq, hr.kept fun c hc => set_other _ _ _ _ _ (by have := hge c hc; omega), fun c hc => by have := hge c hc; omega, h.pages.kept (fun c hc => by cases hc), fun c hc => by cases hc⟩
  rw [set_same W q 0 _ _ _ ((hb.block _ hql).trans h.box)]
  rfl
theorem ShB.putP {w W0 W : World} {q : Nat} {lv u : Value} {lb : Option Nat} {l : List Int} {p0 : List Nat} (h : ShB w q lv u lb none l p0 W0) (hb : Below W0.heap.size W0 W) {v : Value} {b' : Option Nat} {p : List Nat} (hr : Row W 3 v b' (p.map natV)) (hge : ∀ c, b' = some c → W0.heap.size ≤ c) :
    ShB w q lv v lb b' l p (W.setCell ⟨q, 1, none⟩ v) := by
  have hql : q < W0.heap.size := (Array.getElem?_eq_some_iff.1 h.box).1
  have hw := h.below.size
  refine ⟨below_set (h.below.trans (hb.mono h.below.size)) h.hq, ?_, h.hq, h.things.kept fun c hc => (set_other _ _ _ _ _ (h.tb c hc).2).trans (hb.block c (h.things.lt hc)), h.tb, hr.kept fun c hc => set_other _ _ _ _ _ (by have := hge c hc; omega), fun c hc => ?_⟩
  · rw [set_same W q 1 _ _ _ ((hb.block _ hql).trans h.box)]
    rfl
  · have h1 := hge c hc
    exact ⟨by omega, by omega, fun e => by have := h.things.lt e; omega⟩
/-- the law's pool goes on beside a box, and the row's blocks have tags now -/
theorem RefAt.withBox {w W : World} {τ : Tags} {r q : Nat} {ly : RLay} {D : Doc Int} {lv pv : Value} {lb pb : Option Nat} {l : List Int} {p : List Nat} (h : RefAt w τ r ly D) (hB : ShB w q lv pv lb pb l p W) :
    ∃ τ', RefAt W τ' r ly D ∧ Step Tag.theirs τ τ' w W ∧ (∀ c, lb = some c → τ' c = some (.rl D.rows.length)) ∧ ∀ c, pb = some c → τ' c = some (.rpg D.rows.length) := by
  have hτ : ∀ c, c < w.heap.size → (if lb = some c then some (Tag.rl D.rows.length) else if pb = some c then some (Tag.rpg D.rows.length) else τ c) = τ c := fun c hc => by
    rw [if_neg (fun e => by have := (hB.tb c e).1; omega), if_neg (fun e => by have := (hB.gb c e).1; omega)]
  have hst : ∀ M, Step M τ (fun c => if lb = some c then some (Tag.rl D.rows.length) else if pb = some c then some (Tag.rpg D.rows.length) else τ c) w W := fun M =>
    ⟨hB.below.os, hB.below.tape, hB.below.output, hB.below.size, hτ, fun c hc _ => hB.below.block c hc⟩
  refine ⟨_, h.step (hst (fun _ => false)) (fun _ _ => rfl) (fun c t hc => ?_), hst _, fun c hc => if_pos hc, fun c hc => ?_⟩
  · split at hc
    · next e => exact hB.things.lt e
    · split at hc
      · next e => exact hB.pages.lt e
      · exact Nat.lt_of_lt_of_le (h.fits c t hc) hB.below.size
  · show (if lb = some c then _ else _) = _
    rw [if_neg (hB.gb c hc).2.2, if_pos hc]
/-- append of the box's row to the rows, in a drawn region -/
theorem exec_push3 {a : Act} {o : Oper} {W w : World} {τ : Tags} {r : Nat} {ly : RLay} {D : Doc Int} {lv pv : Value} (s x : Operand) (ho : o.op = .call { callee := .builtin .append, args := #[s, x], argTypes := #[30, 30] }) (h : RefAt w τ r ly D) (hb : Below w.heap.size w W) (h1 : lv.oneCell' = true) (h2 : pv.oneCell' = true) (c : Nat)
    (hs : a.eval s = ly.v) (hx : a.eval x = .slice (some ⟨c, 0, none⟩) 1 1) (hc : W.heap[c]? = some (.cells #[lv, pv, .bool true] 73 (0, 0))) (hn : D.rows.length ≤ 1024) :
    ∃ v' W', (execOp a.eval o).run Try.prog W = .ok (.value v') W' ∧ W'.ownsRow 0 73 3 v' (D.rows.length + 1) (rowCells ly.lv ly.pv 0 D.rows ++ [lv, pv, .bool true]) ∧ W.grownBy W' ly.v.ownBlock ∧ (v'.ownBlock = ly.v.ownBlock ∨ ∃ q, v'.ownBlock = some q ∧ W.heap.size ≤ q) := by
  have hown := (h.below hb).owns
  obtain ⟨i0, hi, hz0, hz1, hz2⟩ := info_parts infoRow
  obtain ⟨v', W', hrun, k1, k2, _, k4⟩ := run_append_own_at (P := Try.prog) W 0 30 o.type 73 i0 _ 3 56 Try.underlying30 hi hz0 hz1 hz2 rfl (by decide) ly.v D.rows.length (rowCells ly.lv ly.pv 0 D.rows) hown ⟨c, 0, none⟩ 1 1 [lv, pv, .bool true] rfl (fun j u hj => by
    rw [Tn.add_plain, Nat.zero_add, cell_of_row _ _ _ _ _ _ hc]
    simpa using hj) (fun u hu => by
    simp at hu
    rcases hu with rfl | rfl | rfl
    · exact h1
    · exact h2
    · rfl) (by unfold maxLen; omega) (by omega) (Nat.zero_le _)
  refine ⟨v', W', ?_, k1, k2, ?_⟩
  · simp [execOp, ho, resolve, invoke, builtin, hs, hx, hrun, Result.andThen]
  · rcases k4 with e | e
    · exact Or.inl e
    · exact Or.inr ⟨_, e, Nat.le_refl _⟩
theorem load_row3 {a : Act} {o : Oper} {W : World} (x : Operand) (ho : o.op = .load 73 x) (g : Nat) (hx : a.eval x = .pointer (some ⟨g, 0, none⟩)) (lv pv : Value) (h : W.heap[g]? = some (.cells #[lv, pv, .bool true] 73 (0, 0))) : (execOp a.eval o).run Try.prog W = .ok (.value (.agg #[lv, pv, .bool true])) W := by
  have hl : (loadVar 73 ⟨g, 0, none⟩).run Try.prog W = .ok (.agg #[lv, pv, .bool true]) W := run_loadVar_row W g 73 73 _ _ _ h Try.underlying73 rfl sizeRow
  unfold execOp
  simp only [ho, hx, Instr.loadAt, Instr.sureAddr, Sem.run_bind, Sem.run_pure, Result.andThen_ok, hl]
theorem exec_oneR {a : Act} {o : Oper} {W : World} (y : Operand) (ho : o.op = .buildSlice 30 1 #[(0, y)]) (lv pv : Value) (hx : a.eval y = .agg #[lv, pv, .bool true]) (_h1 : lv.oneCell' = true) (_h2 : pv.oneCell' = true) : (execOp a.eval o).run Try.prog W = .ok (.value (.slice (some ⟨W.heap.size, 0, none⟩) 1 1)) (W.alloc (.cells #[lv, pv, .bool true] 73)) := by
  obtain ⟨i0, hi, hz0, hz1, hz2⟩ := info_parts infoRow
  unfold execOp
  have hr := run_buildSlice (P := Try.prog) W 30 73 1 #[(0, .agg #[lv, pv, .bool true])] #[lv, pv, .bool true] i0 _ Try.underlying30 hi hz0 (by rw [hz1]; decide) (by rw [hz1]; decide) (by rw [hz1]; kernel_rfl)
  have e : (#[((0 : Nat), y)].map fun (i, x) => (i, a.eval x)) = #[(0, .agg #[lv, pv, .bool true])] := by simp [hx]
  simp only [ho, e, Sem.run_bind, hr, Result.andThen_ok, Sem.run_pure]
/-- what the operations of the region answer that appends the row -/
def rwQ (lo n : Nat) (own : Option Nat) (lv pv : Value) (cs : List Value) (vals : Nat → Option Value) (j : Nat) (W : World) (v : Value) : Prop :=
  (j = 6 → ∃ c, v = .slice (some ⟨c, 0, none⟩) 1 1 ∧ lo ≤ c ∧ W.heap[c]? = some (.cells #[lv, pv, .bool true] 73 (0, 0))) ∧ (j = 7 → W.ownsRow 0 73 3 v n cs ∧ (v.ownBlock = own ∨ ∃ q, v.ownBlock = some q ∧ lo ≤ q)) ∧ ∀ z, vals j = some z → v = z
theorem rwQ_later {lo n i j : Nat} {own : Option Nat} {lv pv v : Value} {cs : List Value} {vals : Nat → Option Value} {W1 W2 : World} (hlo : ∀ k, own = some k → k < lo) (hne : j ≠ i) (hle : LeA 7 own i W1 W2) (h : rwQ lo n own lv pv cs vals j W1 v) : rwQ lo n own lv pv cs vals j W2 v := by
  refine ⟨fun e => ?_, fun e => ?_, h.2.2⟩
  · obtain ⟨c, e1, h1, h2⟩ := h.1 e
    have hc := (Array.getElem?_eq_some_iff.1 h2).1
    refine ⟨c, e1, h1, ?_⟩
    by_cases hi : i = 7
    · exact ((hle.1 hi).block c hc (fun e => by have := hlo c e.symm; omega)).trans h2
    · exact ((hle.2 hi).block c hc).trans h2
  · obtain ⟨h1, h2⟩ := h.2.1 e
    have hb := hle.2 (by omega)
    exact ⟨h1.kept (row := none) (I.grown_of hb none) (by cases v.ownBlock <;> simp), h2⟩
theorem gives_push3 {a : Act} {o : Oper} {W w : World} {τ : Tags} {r : Nat} {ly : RLay} {D : Doc Int} {lv pv : Value} (s x : Operand) (ho : o.op = .call { callee := .builtin .append, args := #[s, x], argTypes := #[30, 30] }) (h : RefAt w τ r ly D) (hb : Below w.heap.size w W) (h1 : lv.oneCell' = true) (h2 : pv.oneCell' = true) (c : Nat) (v : Value) (hv : ly.v = v)
    (hs : a.eval s = v) (hx : a.eval x = .slice (some ⟨c, 0, none⟩) 1 1) (hc : W.heap[c]? = some (.cells #[lv, pv, .bool true] 73 (0, 0))) (hn : D.rows.length ≤ 1024) {G : Value → World → Prop}
    (k : ∀ v' W', W'.ownsRow 0 73 3 v' (D.rows.length + 1) (rowCells ly.lv ly.pv 0 D.rows ++ [lv, pv, .bool true]) → W.grownBy W' ly.v.ownBlock → (v'.ownBlock = ly.v.ownBlock ∨ ∃ q, v'.ownBlock = some q ∧ W.heap.size ≤ q) → G v' W') : Gives Try.prog o a W G := by
  subst hv
  obtain ⟨v', W', hrun, g1, g2, g3⟩ := exec_push3 s x ho h hb h1 h2 c hs hx hc hn
  exact Tn.gives_val v' W' hrun (k v' W' g1 g2 g3)
end Go.Proofs.Ytcfhchdkohjbfaa.Kv
