/- Pools of rows in pages: a pool in memory, and what becomes of it. -/
import Derived.Test.YtcfhchdkohjbfaaKc
namespace Go.Proofs.Ytcfhchdkohjbfaa.Kv
set_option maxRecDepth 100000
open Go.ChangeShapes Go.WideShapes Go.ChangeAt Go.RowKit Go.Proofs.Ytcfhchdkohjbfaa.Tn
open Go.ChangeMaps (setBlock heap_setBlock_same heap_setBlock_other)

theorem set_same (w : World) (g i : Nat) (cs : Array Value) (t : TypeId) (v : Value) (hg : w.heap[g]? = some (.cells cs t (0, 0))) : (w.setCell ⟨g, i, none⟩ v).heap[g]? = some (.cells (cs.setIfInBounds i v) t (0, 0)) := heap_setCell_same w g i cs t v hg
theorem set_other (w : World) (g i k : Nat) (v : Value) (h : k ≠ g) : (w.setCell ⟨g, i, none⟩ v).heap[k]? = w.heap[k]? := heap_setCell_other w _ k v h
theorem set_size (w : World) (a : Addr) (v : Value) : (w.setCell a v).heap.size = w.heap.size := by simp

/-- of which things a pool is: how they lie in memory, and the types of its blocks -/
structure Kind (α : Type) where
  vl : α → Value
  tP : TypeId
  tC : TypeId
  tE : TypeId
def natV (k : Nat) : Value := .int .i64 (k : Int)
section
variable {α : Type}
def pageCells (tv : Nat → Value) : Nat → Pg α → List Value
  | _, [] => []
  | k, c :: r => tv k :: .int .i64 (c.2 : Int) :: pageCells tv (k + 1) r
theorem pageCells_length (tv : Nat → Value) : ∀ (k : Nat) (pg : Pg α), (pageCells tv k pg).length = pg.length * 2
  | _, [] => rfl
  | k, c :: r => by have := pageCells_length tv (k + 1) r; simp [pageCells, this]; omega
theorem pageCells_at (tv : Nat → Value) : ∀ (j : Nat) (pg : Pg α) (k : Nat) (c : List α × Nat), pg[k]? = some c → (pageCells tv j pg)[k * 2]? = some (tv (j + k)) ∧ (pageCells tv j pg)[k * 2 + 1]? = some (.int .i64 (c.2 : Int))
  | _, [], k, c, h => by simp at h
  | j, d :: r, 0, c, h => by
    simp only [List.getElem?_cons_zero, Option.some.injEq] at h
    subst h
    simp [pageCells]
  | j, d :: r, k + 1, c, h => by
    simp only [List.getElem?_cons_succ] at h
    have := pageCells_at tv (j + 1) r k c h
    rw [show (k + 1) * 2 = k * 2 + 2 by omega, show j + (k + 1) = j + 1 + k by omega]
    simpa [pageCells] using this
theorem pageCells_count (tv : Nat → Value) (m : Nat) : ∀ (j : Nat) (pg : Pg α) (k : Nat) (c : List α × Nat), pg[k]? = some c → (pageCells tv j pg).set (k * 2 + 1) (.int .i64 (m : Int)) = pageCells tv j (pg.set k (c.1, m))
  | _, [], k, c, h => by simp at h
  | j, d :: r, 0, c, h => by
    simp only [List.getElem?_cons_zero, Option.some.injEq] at h
    subst h
    simp [pageCells]
  | j, d :: r, k + 1, c, h => by
    simp only [List.getElem?_cons_succ] at h
    have := pageCells_count tv m (j + 1) r k c h
    rw [show (k + 1) * 2 = k * 2 + 2 by omega]
    simp [pageCells, ← this]
def upd {β : Type} (f : Nat → β) (k : Nat) (x : β) : Nat → β := fun i => if i = k then x else f i
theorem upd_same {β : Type} (f : Nat → β) (k : Nat) (x : β) : upd f k x k = x := by simp [upd]
theorem upd_other {β : Type} (f : Nat → β) {k i : Nat} (x : β) (h : i ≠ k) : upd f k x i = f i := by simp [upd, h]
theorem pageCells_far (tv : Nat → Value) (x : Value) (k : Nat) : ∀ (j : Nat) (pg : Pg α), k < j → pageCells (upd tv k x) j pg = pageCells tv j pg
  | _, [], _ => rfl
  | j, c :: r, h => by
    unfold pageCells
    rw [pageCells_far tv x k (j + 1) r (by omega), upd_other tv x (by omega)]
theorem pageCells_thing (tv : Nat → Value) (x : Value) : ∀ (j : Nat) (pg : Pg α) (k : Nat) (c : List α × Nat) (l : List α), pg[k]? = some c → (pageCells tv j pg).set (k * 2) x = pageCells (upd tv (j + k) x) j (pg.set k (l, c.2))
  | _, [], k, c, l, h => by simp at h
  | j, d :: r, 0, c, l, h => by
    simp only [List.getElem?_cons_zero, Option.some.injEq] at h
    subst h
    simp only [pageCells, Nat.zero_mul, List.set_cons_zero, Nat.add_zero, upd_same]
    rw [pageCells_far tv x j (j + 1) r (by omega)]
  | j, d :: r, k + 1, c, l, h => by
    simp only [List.getElem?_cons_succ] at h
    have := pageCells_thing tv x (j + 1) r k c l h
    rw [show (k + 1) * 2 = k * 2 + 2 by omega, show j + (k + 1) = j + 1 + k by omega]
    simp [pageCells, this, upd_other tv (k := j + 1 + k) (i := j) x (by omega)]
/-- the rows as the program keeps them: how many things, and which pages -/
abbrev Ro := List (Option (Nat × List Nat))
def rowV (rb : Nat → Nat) (id : Nat) : Value := .pointer (some ⟨rb id, 0, none⟩)
/-- the entries of the map of rows -/
def ents (rb : Nat → Nat) : Nat → Ro → List MapEntry
  | _, [] => []
  | k, none :: r => ents rb (k + 1) r
  | k, some _ :: r => ⟨natV k, rowV rb k, k⟩ :: ents rb (k + 1) r
theorem ents_snoc (rb : Nat → Nat) (x : Nat × List Nat) : ∀ (k : Nat) (r : Ro), ents rb k (r ++ [some x]) = ents rb k r ++ [⟨natV (k + r.length), rowV rb (k + r.length), k + r.length⟩]
  | k, [] => rfl
  | k, none :: r => by
    have := ents_snoc rb x (k + 1) r
    simp only [List.cons_append, ents, this, List.length_cons]
    rw [show k + 1 + r.length = k + (r.length + 1) by omega]
  | k, some y :: r => by
    have := ents_snoc rb x (k + 1) r
    simp only [List.cons_append, ents, this, List.length_cons]
    rw [show k + 1 + r.length = k + (r.length + 1) by omega]
theorem ents_upd (rb : Nat → Nat) (j b : Nat) : ∀ (k : Nat) (r : Ro), k + r.length ≤ j → ents (upd rb j b) k r = ents rb k r
  | k, [], _ => rfl
  | k, none :: r, h => by
    simp only [List.length_cons] at h
    exact ents_upd rb j b (k + 1) r (by omega)
  | k, some _ :: r, h => by
    simp only [List.length_cons] at h
    simp only [ents, ents_upd rb j b (k + 1) r (by omega), rowV, upd_other rb (k := j) (i := k) b (by omega)]
theorem ents_same (rb : Nat → Nat) : ∀ (k : Nat) (r r' : Ro), r.map Option.isSome = r'.map Option.isSome → ents rb k r = ents rb k r'
  | k, [], [], _ => rfl
  | k, [], _ :: _, h => by simp at h
  | k, _ :: _, [], h => by simp at h
  | k, a :: r, a' :: r', h => by
    simp only [List.map_cons, List.cons.injEq] at h
    have := ents_same rb (k + 1) r r' h.2
    cases a <;> cases a' <;> simp_all [ents]
structure Lay where
  b : Nat
  m : Nat
  tv : Nat → Value
  tb : Nat → Option Nat
  rb : Nat → Nat
  pv : Nat → Value
  pb : Nat → Option Nat
abbrev tR : TypeId := 85
/-- A POOL IN MEMORY -/
structure PoolAt (K : Kind α) (w : World) (τ : Tags) (g : Nat) (ly : Lay) (s op : Nat) (pg : Pg α) (ro : Ro) : Prop where
  fits : Fits τ w
  pool : w.heap[g]? = some (.cells #[.int .i64 (s : Int), .slice (some ⟨ly.b, 0, none⟩) pg.length pg.length, .map (some ly.m), .int .i64 (op : Int)] K.tP (0, 0))
  tpool : τ g = some .pool
  pages : w.heap[ly.b]? = some (.cells (pageCells ly.tv 0 pg).toArray K.tC (0, 0))
  tpages : τ ly.b = some .pages
  mp : w.heap[ly.m]? = some (.map (ents ly.rb 0 ro).toArray ro.length)
  tmap : τ ly.m = some .map
  th : ∀ (k : Nat) (c : List α × Nat), pg[k]? = some c → Row w K.tE (ly.tv k) (ly.tb k) (c.1.map K.vl) ∧ ∀ d, ly.tb k = some d → τ d = some (.th k)
  row : ∀ (id n : Nat) (P : List Nat), ro[id]? = some (some (n, P)) → w.heap[ly.rb id]? = some (.cells #[.int .i64 (n : Int), ly.pv id] tR (0, 0)) ∧ τ (ly.rb id) = some (.row id) ∧ Row w 3 (ly.pv id) (ly.pb id) (P.map natV) ∧ ∀ d, ly.pb id = some d → τ d = some (.rp id)
variable {K : Kind α} {w w' : World} {τ τ' : Tags} {g : Nat} {ly : Lay} {s op : Nat} {pg : Pg α} {ro : Ro}
theorem ne_of_tag {τ : Tags} {a b : Nat} {t u : Tag} (ha : τ a = some t) (hb : τ b = some u) (h : t ≠ u) : a ≠ b := fun e => by subst e; rw [ha] at hb; exact h (Option.some.inj hb)
/-- what is no block of the pool's may be turned -/
theorem PoolAt.step {M : Tag → Bool} (h : PoolAt K w τ g ly s op pg ro) (hs : Step M τ τ' w w') (hM : ∀ t, t.mine = true → M t = false) (hf : Fits τ' w') : PoolAt K w' τ' g ly s op pg ro := by
  have hb : ∀ c t, τ c = some t → t.mine = true → w'.heap[c]? = w.heap[c]? := fun c t ht hm => hs.block c (h.fits c t ht) (fun t' ht' => by rw [ht] at ht'; cases ht'; exact hM t hm)
  have hk : ∀ c t, τ c = some t → τ' c = some t := fun c t ht => by rw [hs.tags c (h.fits c t ht)]; exact ht
  refine ⟨hf, (hb _ _ h.tpool rfl).trans h.pool, hk _ _ h.tpool, (hb _ _ h.tpages rfl).trans h.pages, hk _ _ h.tpages, (hb _ _ h.tmap rfl).trans h.mp, hk _ _ h.tmap, fun k c hc => ?_, fun id n P hr => ?_⟩
  · obtain ⟨h1, h2⟩ := h.th k c hc
    exact ⟨h1.kept fun d hd => hb _ _ (h2 d hd) rfl, fun d hd => hk _ _ (h2 d hd)⟩
  · obtain ⟨h1, h2, h3, h4⟩ := h.row id n P hr
    exact ⟨(hb _ _ h2 rfl).trans h1, hk _ _ h2, h3.kept fun d hd => hb _ _ (h4 d hd) rfl, fun d hd => hk _ _ (h4 d hd)⟩
theorem Fits.below {τ : Tags} {w w' : World} (h : Fits τ w) (hs : w.heap.size ≤ w'.heap.size) : Fits τ w' := fun c t ht => Nat.lt_of_lt_of_le (h c t ht) hs
theorem PoolAt.below (h : PoolAt K w τ g ly s op pg ro) (hb : Below w.heap.size w w') : PoolAt K w' τ g ly s op pg ro :=
  h.step (M := fun _ => false) (Step.below hb) (fun _ _ => rfl) (h.fits.below hb.size)
/-- the cells of a pool -/
theorem PoolAt.cells (h : PoolAt K w τ g ly s op pg ro) : w.cell? ⟨g, 0, none⟩ = some (.int .i64 (s : Int)) ∧ w.cell? ⟨g, 1, none⟩ = some (.slice (some ⟨ly.b, 0, none⟩) pg.length pg.length) ∧ w.cell? ⟨g, 2, none⟩ = some (.map (some ly.m)) ∧ w.cell? ⟨g, 3, none⟩ = some (.int .i64 (op : Int)) := by
  refine ⟨?_, ?_, ?_, ?_⟩ <;> (rw [cell_of_row _ _ _ _ _ _ h.pool]; rfl)
theorem PoolAt.page (h : PoolAt K w τ g ly s op pg ro) {k : Nat} {c : List α × Nat} (hc : pg[k]? = some c) : w.cell? ⟨ly.b, k * 2, none⟩ = some (ly.tv k) ∧ w.cell? ⟨ly.b, k * 2 + 1, none⟩ = some (.int .i64 (c.2 : Int)) := by
  have := pageCells_at ly.tv 0 pg k c hc
  rw [Nat.zero_add] at this
  refine ⟨?_, ?_⟩
  · rw [cell_of_row _ _ _ _ _ _ h.pages, ← this.1]; simp
  · rw [cell_of_row _ _ _ _ _ _ h.pages, ← this.2]; simp
theorem PoolAt.rowC (h : PoolAt K w τ g ly s op pg ro) {id n : Nat} {P : List Nat} (hr : ro[id]? = some (some (n, P))) : w.cell? ⟨ly.rb id, 0, none⟩ = some (.int .i64 (n : Int)) ∧ w.cell? ⟨ly.rb id, 1, none⟩ = some (ly.pv id) := by
  have h1 := (h.row id n P hr).1
  refine ⟨?_, ?_⟩ <;> (rw [cell_of_row _ _ _ _ _ _ h1]; rfl)
theorem row_frozen {w : World} {g i : Nat} {cs : Array Value} {t : TypeId} (h : w.heap[g]? = some (.cells cs t (0, 0))) : w.frozen? ⟨g, i, none⟩ = false := by
  simp [World.frozen?, h]
theorem PoolAt.free (h : PoolAt K w τ g ly s op pg ro) (i : Nat) : w.frozen? ⟨g, i, none⟩ = false ∧ w.frozen? ⟨ly.b, i, none⟩ = false ∧ ∀ (id n : Nat) (P : List Nat), ro[id]? = some (some (n, P)) → w.frozen? ⟨ly.rb id, i, none⟩ = false :=
  ⟨row_frozen h.pool, row_frozen h.pages, fun id n P hr => row_frozen (h.row id n P hr).1⟩
theorem step_set {M : Tag → Bool} {τ : Tags} {w : World} {b i : Nat} {v : Value} {t : Tag} (ht : τ b = some t) (hM : M t = true) : Step M τ τ w (w.setCell ⟨b, i, none⟩ v) :=
  ⟨rfl, rfl, rfl, by rw [set_size]; exact Nat.le_refl _, fun _ _ => rfl, fun c _ hc => set_other _ _ _ _ _ (fun e => by
    subst e
    rw [hc t ht] at hM
    cases hM)⟩
/-- a page's count is written -/
theorem PoolAt.setCount (h : PoolAt K w τ g ly s op pg ro) {k : Nat} {c : List α × Nat} (hc : pg[k]? = some c) (m : Nat) : PoolAt K (w.setCell ⟨ly.b, k * 2 + 1, none⟩ (.int .i64 (m : Int))) τ g ly s op (pg.set k (c.1, m)) ro := by
  have hne : ∀ d t, τ d = some t → t ≠ Tag.pages → (w.setCell ⟨ly.b, k * 2 + 1, none⟩ (.int .i64 (m : Int))).heap[d]? = w.heap[d]? := fun d t hd ht => set_other _ _ _ _ _ (ne_of_tag hd h.tpages ht)
  refine ⟨h.fits.below (by rw [set_size]; exact Nat.le_refl _), ?_, h.tpool, ?_, h.tpages, (hne _ _ h.tmap (by simp)).trans h.mp, h.tmap, fun j d hd => ?_, fun id n P hr => ?_⟩
  · rw [hne _ _ h.tpool (by simp), List.length_set]; exact h.pool
  · rw [set_same _ _ _ _ _ _ h.pages, List.setIfInBounds_toArray, pageCells_count ly.tv m 0 pg k c hc]
  · rw [set_at] at hd
    cases h0 : pg[j]? with
    | none => rw [h0] at hd; simp at hd
    | some d0 =>
      rw [h0] at hd
      simp only [Option.map_some, Option.some.injEq] at hd
      obtain ⟨h1, h2⟩ := h.th j d0 h0
      have e : d.1 = d0.1 := by
        by_cases e : j = k
        · subst e
          rw [hc] at h0
          cases h0
          rw [if_pos rfl] at hd
          subst hd
          rfl
        · rw [if_neg e] at hd
          rw [hd]
      rw [e]
      exact ⟨h1.kept fun q hq => hne _ _ (h2 q hq) (by simp), h2⟩
  · obtain ⟨h1, h2, h3, h4⟩ := h.row id n P hr
    exact ⟨(hne _ _ h2 (by simp)).trans h1, h2, h3.kept fun d hd => hne _ _ (h4 d hd) (by simp), h4⟩
/-- a row of things, new or grown, is put into a page -/
theorem PoolAt.setThing (h : PoolAt K w τ g ly s op pg ro) {k : Nat} {c : List α × Nat} (hc : pg[k]? = some c) (hg : w.grownBy w' (ly.tb k)) {v : Value} {d : Option Nat} {l : List α} (hr : Row w' K.tE v d (l.map K.vl)) (hd : d = none ∨ d = ly.tb k ∨ ∃ q, d = some q ∧ w.heap.size ≤ q) :
    ∃ τ' ly', PoolAt K (w'.setCell ⟨ly.b, k * 2, none⟩ v) τ' g ly' s op (pg.set k (l, c.2)) ro ∧ Step Tag.mine τ τ' w (w'.setCell ⟨ly.b, k * 2, none⟩ v) ∧ ly'.rb = ly.rb ∧ ly'.pv = ly.pv ∧ ly'.pb = ly.pb ∧ ly'.b = ly.b := by
  obtain ⟨hth, htag⟩ := h.th k c hc
  let τ' : Tags := fun q => if d = some q then some (.th k) else τ q
  have hτ : ∀ q, q < w.heap.size → τ' q = τ q := fun q hq => by
    show (if d = some q then some (Tag.th k) else τ q) = τ q
    split
    · next e =>
      rcases hd with e1 | e1 | ⟨q', e1, hq'⟩
      · rw [e] at e1; cases e1
      · exact (htag q (e1.symm.trans e)).symm
      · rw [e] at e1; cases e1; omega
    · rfl
  have hsz : w.heap.size ≤ (w'.setCell ⟨ly.b, k * 2, none⟩ v).heap.size := by rw [set_size]; exact hg.size
  have hk : ∀ q t, τ q = some t → t ≠ Tag.th k → w'.heap[q]? = w.heap[q]? := fun q t hq ht => hg.block q (h.fits q t hq) (fun e => by rw [htag q e.symm] at hq; exact ht (Option.some.inj hq).symm)
  have hne : ∀ q t, τ q = some t → t ≠ Tag.pages → t ≠ Tag.th k → (w'.setCell ⟨ly.b, k * 2, none⟩ v).heap[q]? = w.heap[q]? := fun q t hq ht ht' => (set_other _ _ _ _ _ (ne_of_tag hq h.tpages ht)).trans (hk q t hq ht')
  have hkt : ∀ q t, τ q = some t → τ' q = some t := fun q t hq => by rw [hτ q (h.fits q t hq)]; exact hq
  have hdb : ∀ q, d = some q → q ≠ ly.b := fun q hq e => by
    subst e
    rcases hd with e1 | e1 | ⟨q', e1, hq'⟩
    · rw [hq] at e1; cases e1
    · have := htag _ (e1.symm.trans hq)
      rw [h.tpages] at this
      cases this
    · rw [hq] at e1; cases e1
      have := h.fits _ _ h.tpages
      omega
  refine ⟨τ', ⟨ly.b, ly.m, upd ly.tv k v, upd ly.tb k d, ly.rb, ly.pv, ly.pb⟩, ⟨fun q t hq => ?_, ?_, hkt _ _ h.tpool, ?_, hkt _ _ h.tpages, (hne _ _ h.tmap (by simp) (by simp)).trans h.mp, hkt _ _ h.tmap, fun j e he => ?_, fun id n P hr' => ?_⟩, ⟨hg.os, hg.tape, hg.output, hsz, hτ, fun q hq ht => ?_⟩, rfl, rfl, rfl, rfl⟩
  · show q < _
    rw [set_size]
    replace hq : (if d = some q then some (Tag.th k) else τ q) = some t := hq
    split at hq
    · next e => exact hr.lt e
    · exact Nat.lt_of_lt_of_le (h.fits q t hq) hg.size
  · rw [hne _ _ h.tpool (by simp) (by simp), List.length_set]; exact h.pool
  · rw [set_same _ _ _ _ _ _ ((hk _ _ h.tpages (by simp)).trans h.pages), List.setIfInBounds_toArray, pageCells_thing ly.tv v 0 pg k c l hc, Nat.zero_add]
  · rw [set_at] at he
    cases h0 : pg[j]? with
    | none => rw [h0] at he; simp at he
    | some d0 =>
      rw [h0] at he
      simp only [Option.map_some, Option.some.injEq] at he
      by_cases e : j = k
      · subst e
        rw [if_pos rfl] at he
        subst he
        dsimp only
        rw [show (upd ly.tv j v) j = v from upd_same _ _ _, show (upd ly.tb j d) j = d from upd_same _ _ _]
        refine ⟨hr.kept fun q hq => set_other _ _ _ _ _ (hdb q hq), fun q hq => ?_⟩
        show (if d = some q then some (Tag.th j) else τ q) = _
        rw [if_pos hq]
      · rw [if_neg e] at he
        subst he
        obtain ⟨h1, h2⟩ := h.th j d0 h0
        dsimp only
        rw [show (upd ly.tv k v) j = ly.tv j from upd_other _ _ e, show (upd ly.tb k d) j = ly.tb j from upd_other _ _ e]
        exact ⟨h1.kept fun q hq => hne _ _ (h2 q hq) (by simp) (fun e' => e (by cases e'; rfl)), fun q hq => hkt _ _ (h2 q hq)⟩
  · obtain ⟨h1, h2, h3, h4⟩ := h.row id n P hr'
    exact ⟨(hne _ _ h2 (by simp) (by simp)).trans h1, hkt _ _ h2, h3.kept fun d hd => hne _ _ (h4 d hd) (by simp) (by simp), fun d hd => hkt _ _ (h4 d hd)⟩
  · have hqb : q ≠ ly.b := fun e => by
      subst e
      have := ht _ h.tpages
      cases this
    rw [set_other _ _ _ _ _ hqb]
    refine hg.block q hq (fun e => ?_)
    have := ht _ (htag q e.symm)
    cases this
/-- a row's pages, new or grown, are put into the row -/
theorem PoolAt.setPages (h : PoolAt K w τ g ly s op pg ro) {id n : Nat} {P P' : List Nat} (hro : ro[id]? = some (some (n, P))) (hg : w.grownBy w' (ly.pb id)) {v : Value} {d : Option Nat} (hr : Row w' 3 v d (P'.map natV)) (hd : d = none ∨ d = ly.pb id ∨ ∃ q, d = some q ∧ w.heap.size ≤ q) :
    ∃ τ' ly', PoolAt K (w'.setCell ⟨ly.rb id, 1, none⟩ v) τ' g ly' s op pg (ro.set id (some (n, P'))) ∧ Step Tag.mine τ τ' w (w'.setCell ⟨ly.rb id, 1, none⟩ v) ∧ ly'.rb = ly.rb ∧ ly'.b = ly.b := by
  obtain ⟨hrc, hrt, hrr, htag⟩ := h.row id n P hro
  let τ' : Tags := fun q => if d = some q then some (.rp id) else τ q
  have hτ : ∀ q, q < w.heap.size → τ' q = τ q := fun q hq => by
    show (if d = some q then some (Tag.rp id) else τ q) = τ q
    split
    · next e =>
      rcases hd with e1 | e1 | ⟨q', e1, hq'⟩
      · rw [e] at e1; cases e1
      · exact (htag q (e1.symm.trans e)).symm
      · rw [e] at e1; cases e1; omega
    · rfl
  have hsz : w.heap.size ≤ (w'.setCell ⟨ly.rb id, 1, none⟩ v).heap.size := by rw [set_size]; exact hg.size
  have hk : ∀ q t, τ q = some t → t ≠ Tag.rp id → w'.heap[q]? = w.heap[q]? := fun q t hq ht => hg.block q (h.fits q t hq) (fun e => by rw [htag q e.symm] at hq; exact ht (Option.some.inj hq).symm)
  have hne : ∀ q t, τ q = some t → t ≠ Tag.row id → t ≠ Tag.rp id → (w'.setCell ⟨ly.rb id, 1, none⟩ v).heap[q]? = w.heap[q]? := fun q t hq ht ht' => (set_other _ _ _ _ _ (ne_of_tag hq hrt ht)).trans (hk q t hq ht')
  have hkt : ∀ q t, τ q = some t → τ' q = some t := fun q t hq => by rw [hτ q (h.fits q t hq)]; exact hq
  have hdb : ∀ q, d = some q → q ≠ ly.rb id := fun q hq e => by
    subst e
    rcases hd with e1 | e1 | ⟨q', e1, hq'⟩
    · rw [hq] at e1; cases e1
    · have := htag _ (e1.symm.trans hq)
      rw [hrt] at this
      cases this
    · rw [hq] at e1; cases e1
      have := h.fits _ _ hrt
      omega
  have hlt : id < ro.length := (List.getElem?_eq_some_iff.1 hro).1
  refine ⟨τ', ⟨ly.b, ly.m, ly.tv, ly.tb, ly.rb, upd ly.pv id v, upd ly.pb id d⟩, ⟨fun q t hq => ?_, (hne _ _ h.tpool (by simp) (by simp)).trans h.pool, hkt _ _ h.tpool, (hne _ _ h.tpages (by simp) (by simp)).trans h.pages, hkt _ _ h.tpages, ?_, hkt _ _ h.tmap, fun j e he => ?_, fun id' n' Q hr' => ?_⟩, ⟨hg.os, hg.tape, hg.output, hsz, hτ, fun q hq ht => ?_⟩, rfl, rfl⟩
  · show q < _
    rw [set_size]
    replace hq : (if d = some q then some (Tag.rp id) else τ q) = some t := hq
    split at hq
    · next e => exact hr.lt e
    · exact Nat.lt_of_lt_of_le (h.fits q t hq) hg.size
  · rw [hne _ _ h.tmap (by simp) (by simp), List.length_set, ← ents_same ly.rb 0 ro (ro.set id (some (n, P')))]
    · exact h.mp
    · rw [List.map_set]
      apply List.ext_getElem?
      intro i
      rw [List.getElem?_set]
      by_cases e : id = i
      · subst e
        simp [hlt]
        rw [List.getElem?_eq_getElem hlt] at hro
        rw [Option.some.inj hro]; rfl
      · simp [e]
  · obtain ⟨h1, h2⟩ := h.th j e he
    exact ⟨h1.kept fun q hq => hne _ _ (h2 q hq) (by simp) (by simp), fun q hq => hkt _ _ (h2 q hq)⟩
  · rw [List.getElem?_set] at hr'
    by_cases e : id = id'
    · subst e
      rw [if_pos rfl, if_pos hlt] at hr'
      simp only [Option.some.injEq, Prod.mk.injEq] at hr'
      obtain ⟨rfl, rfl⟩ := hr'
      dsimp only
      rw [show (upd ly.pv id v) id = v from upd_same _ _ _, show (upd ly.pb id d) id = d from upd_same _ _ _]
      refine ⟨?_, hkt _ _ hrt, hr.kept fun q hq => set_other _ _ _ _ _ (hdb q hq), fun q hq => ?_⟩
      · rw [set_same _ _ _ _ _ _ ((hk _ _ hrt (by simp)).trans hrc)]; rfl
      · show (if d = some q then some (Tag.rp id) else τ q) = _
        rw [if_pos hq]
    · rw [if_neg e] at hr'
      obtain ⟨h1, h2, h3, h4⟩ := h.row id' n' Q hr'
      dsimp only
      rw [show (upd ly.pv id v) id' = ly.pv id' from upd_other _ _ (Ne.symm e), show (upd ly.pb id d) id' = ly.pb id' from upd_other _ _ (Ne.symm e)]
      exact ⟨(hne _ _ h2 (fun e' => e (by cases e'; rfl)) (by simp)).trans h1, hkt _ _ h2, h3.kept fun q hq => hne _ _ (h4 q hq) (by simp) (fun e' => e (by cases e'; rfl)), fun q hq => hkt _ _ (h4 q hq)⟩
  · have hqb : q ≠ ly.rb id := fun e => by
      subst e
      have := ht _ hrt
      cases this
    rw [set_other _ _ _ _ _ hqb]
    refine hg.block q hq (fun e => ?_)
    have := ht _ (htag q e.symm)
    cases this
/-- how many things a row has is written -/
theorem PoolAt.setMany (h : PoolAt K w τ g ly s op pg ro) {id n : Nat} {P : List Nat} (hro : ro[id]? = some (some (n, P))) (m : Nat) : PoolAt K (w.setCell ⟨ly.rb id, 0, none⟩ (.int .i64 (m : Int))) τ g ly s op pg (ro.set id (some (m, P))) := by
  obtain ⟨hrc, hrt, hrr, htag⟩ := h.row id n P hro
  have hne : ∀ q t, τ q = some t → t ≠ Tag.row id → (w.setCell ⟨ly.rb id, 0, none⟩ (.int .i64 (m : Int))).heap[q]? = w.heap[q]? := fun q t hq ht => set_other _ _ _ _ _ (ne_of_tag hq hrt ht)
  have hlt : id < ro.length := (List.getElem?_eq_some_iff.1 hro).1
  refine ⟨h.fits.below (by rw [set_size]; exact Nat.le_refl _), (hne _ _ h.tpool (by simp)).trans h.pool, h.tpool, (hne _ _ h.tpages (by simp)).trans h.pages, h.tpages, ?_, h.tmap, fun j e he => ?_, fun id' n' Q hr' => ?_⟩
  · rw [hne _ _ h.tmap (by simp), List.length_set, ← ents_same ly.rb 0 ro (ro.set id (some (m, P)))]
    · exact h.mp
    · rw [List.map_set]
      apply List.ext_getElem?
      intro i
      rw [List.getElem?_set]
      by_cases e : id = i
      · subst e
        simp [hlt]
        rw [List.getElem?_eq_getElem hlt] at hro
        rw [Option.some.inj hro]; rfl
      · simp [e]
  · obtain ⟨h1, h2⟩ := h.th j e he
    exact ⟨h1.kept fun q hq => hne _ _ (h2 q hq) (by simp), h2⟩
  · rw [List.getElem?_set] at hr'
    by_cases e : id = id'
    · subst e
      rw [if_pos rfl, if_pos hlt] at hr'
      simp only [Option.some.injEq, Prod.mk.injEq] at hr'
      obtain ⟨rfl, rfl⟩ := hr'
      refine ⟨?_, hrt, hrr.kept fun q hq => hne _ _ (htag q hq) (by simp), htag⟩
      rw [set_same _ _ _ _ _ _ hrc]; rfl
    · rw [if_neg e] at hr'
      obtain ⟨h1, h2, h3, h4⟩ := h.row id' n' Q hr'
      exact ⟨(hne _ _ h2 (fun e' => e (by cases e'; rfl))).trans h1, h2, h3.kept fun q hq => hne _ _ (h4 q hq) (by simp), h4⟩
/-- how many rows were opened is written -/
theorem PoolAt.setOpened (h : PoolAt K w τ g ly s op pg ro) (m : Nat) : PoolAt K (w.setCell ⟨g, 3, none⟩ (.int .i64 (m : Int))) τ g ly s m pg ro := by
  have hne : ∀ q t, τ q = some t → t ≠ Tag.pool → (w.setCell ⟨g, 3, none⟩ (.int .i64 (m : Int))).heap[q]? = w.heap[q]? := fun q t hq ht => set_other _ _ _ _ _ (ne_of_tag hq h.tpool ht)
  refine ⟨h.fits.below (by rw [set_size]; exact Nat.le_refl _), ?_, h.tpool, (hne _ _ h.tpages (by simp)).trans h.pages, h.tpages, (hne _ _ h.tmap (by simp)).trans h.mp, h.tmap, fun j e he => ?_, fun id' n' Q hr' => ?_⟩
  · rw [set_same _ _ _ _ _ _ h.pool]; rfl
  · obtain ⟨h1, h2⟩ := h.th j e he
    exact ⟨h1.kept fun q hq => hne _ _ (h2 q hq) (by simp), h2⟩
  · obtain ⟨h1, h2, h3, h4⟩ := h.row id' n' Q hr'
    exact ⟨(hne _ _ h2 (by simp)).trans h1, h2, h3.kept fun q hq => hne _ _ (h4 q hq) (by simp), h4⟩
end
end Go.Proofs.Ytcfhchdkohjbfaa.Kv
