import Derived.Test.YtkfkjapkcjidnaaNm
namespace Go.Proofs.Ytkfkjapkcjidnaa.Wg
set_option maxRecDepth 100000
open Go.ChangeShapes Go.WideShapes Go.ChangeAt Go.RowKit Go.Shelf Go.Proofs.Ytkfkjapkcjidnaa.Tn
attribute [local go_sem] Oper.semAt_some

/-! ### the first leaf -/
/-- what a first leaf tells -/
def HeadIs (l : List Int) (cv : Cfg) (al : List Int) (ps : List (Int × Int)) : Prop :=
  ∃ a p P, Cd.small [a, al, p] ∧ Cd.join [a, al, p] = l ∧ a.length = 48 ∧ p.length = 16 * P ∧ cv = cfgOf (Cd.ints a 6) ∧ ps = prsOf (Cd.ints p (2 * P)) P
theorem prsOf_length (il : List Int) (P : Nat) : (prsOf il P).length = P := by simp [prsOf]
theorem HeadIs.one {l al al' : List Int} {cv cv' : Cfg} {ps ps' : List (Int × Int)} (h : HeadIs l cv al ps) (h' : HeadIs l cv' al' ps') : cv = cv' ∧ al = al' ∧ ps = ps' := by
  obtain ⟨a, p, P, h1, h2, h3, h4, h5, h6⟩ := h
  obtain ⟨a', p', P', k1, k2, k3, k4, k5, k6⟩ := h'
  have e := join_one h1 k1 (h2.trans k2.symm)
  injection e with e1 e
  injection e with e2 e
  injection e with e3 e
  subst e1 e2 e3
  obtain rfl : P = P' := by omega
  exact ⟨h5.trans k5.symm, rfl, h6.trans k6.symm⟩
/-- what parseHead answers -/
def HeadPost (w : World) (l : List Int) (e : Ending) (w' : World) : Prop :=
  Below w.heap.size w w' ∧ ((∃ sa ca d cv al ps, HeadIs l cv al ps ∧ e = .returned (.tuple #[.agg (headC cv sa al.length ca (some ⟨d, 0, none⟩) ps.length ps.length), .int .i64 0]) ∧ Cd.Bytes w' sa ca al ∧ Bp.Prs w' (some ⟨d, 0, none⟩) ps.length ps ∧ (∃ g, sa = some ⟨g, 0, none⟩ ∧ w.heap.size ≤ g) ∧ w.heap.size ≤ d) ∨ (e = .returned (.tuple #[.agg zeroC, .int .i64 11]) ∧ ∀ cv al ps, ¬ HeadIs l cv al ps))
theorem piece_le {ps : List (List Int)} {p : List Int} (h : p ∈ ps) : p.length ≤ (Cd.join ps).length := by
  induction ps with
  | nil => cases h
  | cons d ds ih =>
    rw [Cd.join_cons]
    rcases List.mem_cons.1 h with rfl | h
    · simp; omega
    · have := ih h; simp; omega
theorem parseHead_any (w : World) (sp : Option Addr) (cap m : Nat) (l : List Int) (hm : l.length = m) (hb : Cd.Bytes w sp cap l) (hml : m ≤ 100000) :
    Calls Try.prog 32 #[.slice sp m cap] w (HeadPost w l) := by
  by_cases hn : ∃ ps, Cd.small ps ∧ Cd.join ps = l
  · obtain ⟨ps, hs, hj⟩ := hn
    by_cases h3 : ps.length = 3
    · obtain ⟨a, b, p, rfl⟩ : ∃ a b p, ps = [a, b, p] := by
        match ps, h3 with
        | [a, b, p], _ => exact ⟨a, b, p, rfl⟩
      have la : a.length ≤ 100000 := by have := piece_le (ps := [a, b, p]) (p := a) (by simp); rw [hj] at this; omega
      have lp : p.length ≤ 100000 := by have := piece_le (ps := [a, b, p]) (p := p) (by simp); rw [hj] at this; omega
      by_cases ha : a.length = 8 * 6
      · by_cases hp : p.length % 16 = 0
        · obtain ⟨P, hP⟩ : ∃ P, p.length = 16 * P := ⟨p.length / 16, by omega⟩
          refine (parseHead_ok w sp cap m l hm hb (by omega) a b p hs hj (cfgOf (Cd.ints a 6)) P (prsOf (Cd.ints p (2 * P)) P) (fun W s c h => parseCfg_ok W s c _ a rfl h la ha) (fun W s c h => parsePrs_ok W s c _ P p rfl h lp hP)).mono fun e w' h => ?_
          obtain ⟨sa, ca, d, h1, h2, h3, h4, h5⟩ := h
          exact ⟨h4, Or.inl ⟨sa, ca, d, _, b, _, ⟨a, p, P, hs, hj, ha, hP, rfl, rfl⟩, by rw [prsOf_length]; exact h1, h2, by rw [prsOf_length]; exact h3, h5⟩⟩
        · refine (parseHead_no3 w sp cap m l hm hb (by omega) a b p hs hj (cfgOf (Cd.ints a 6)) 0 11 (fun W s c h => parseCfg_ok W s c _ a rfl h la ha) (fun W s c h => (parsePrs_no W s c _ p rfl h lp hp).mono fun e w' k => ⟨_, _, _, k.1, k.2⟩) rfl (by decide)).mono fun e w' h => ⟨h.2, Or.inr ⟨h.1, fun cv al ps k => ?_⟩⟩
          obtain ⟨a', p', P, k1, k2, k3, k4, _⟩ := k
          have e := join_one hs k1 (hj.trans k2.symm)
          injection e with e1 e
          injection e with e2 e
          injection e with e3 e
          subst e3
          omega
      · have hpr : ∃ e2, ∀ W s c, Cd.Bytes W s c p → Calls Try.prog 49 #[.slice s p.length c] W fun e w' => ∃ sv P cp, e = .returned (.tuple #[.slice sv P cp, .int .i64 e2]) ∧ Below W.heap.size W w' := by
          by_cases hp : p.length % 16 = 0
          · obtain ⟨P, hP⟩ : ∃ P, p.length = 16 * P := ⟨p.length / 16, by omega⟩
            exact ⟨0, fun W s c h => (parsePrs_ok W s c _ P p rfl h lp hP).mono fun e w' ⟨b, _, k1, _, k2⟩ => ⟨_, _, _, k1, k2⟩⟩
          · exact ⟨11, fun W s c h => (parsePrs_no W s c _ p rfl h lp hp).mono fun e w' k => ⟨_, _, _, k.1, k.2⟩⟩
        obtain ⟨e2, hpr⟩ := hpr
        refine (parseHead_no2 w sp cap m l hm hb (by omega) a b p hs hj ⟨0, 0, 0, 0, 0, 0⟩ 11 e2 (fun W s c h => parseCfg_no W s c _ a rfl h la ha) hpr (by decide)).mono fun e w' h => ⟨h.2, Or.inr ⟨h.1, fun cv al ps k => ?_⟩⟩
        obtain ⟨a', p', P, k1, k2, k3, k4, _⟩ := k
        have e := join_one hs k1 (hj.trans k2.symm)
        injection e with e1 e
        subst e1
        omega
    · refine (parseHead_no1 w sp cap m l hm hb (by omega) ps hs hj h3).mono fun e w' h => ⟨h.2, Or.inr ⟨h.1, fun cv al ps' k => ?_⟩⟩
      obtain ⟨a', p', P, k1, k2, _⟩ := k
      have e := join_one hs k1 (hj.trans k2.symm)
      rw [e] at h3
      exact h3 rfl
  · refine (parseHead_no0 w sp cap m l hm hb (by omega) (fun ps h1 h2 => hn ⟨ps, h1, h2⟩)).mono fun e w' h => ⟨h.2, Or.inr ⟨h.1, fun cv al ps' k => ?_⟩⟩
    obtain ⟨a', p', P, k1, k2, _⟩ := k
    exact hn ⟨_, k1, k2⟩

/-! ### what stays but for some blocks -/
structure Fr (X : Nat → Prop) (n : Nat) (W W' : World) : Prop where
  os : W'.os = W.os
  tape : W'.tape = W.tape
  output : W'.output = W.output
  size : W.heap.size ≤ W'.heap.size
  block : ∀ j, j < n → ¬ X j → W'.heap[j]? = W.heap[j]?
section
variable {X : Nat → Prop} {n : Nat} {A B C : World}
theorem Fr.refl (X : Nat → Prop) (n : Nat) (A : World) : Fr X n A A := ⟨rfl, rfl, rfl, Nat.le_refl _, fun _ _ _ => rfl⟩
theorem Fr.trans (h : Fr X n A B) (k : Fr X n B C) : Fr X n A C := ⟨k.os.trans h.os, k.tape.trans h.tape, k.output.trans h.output, Nat.le_trans h.size k.size, fun j hj hx => (k.block j hj hx).trans (h.block j hj hx)⟩
theorem Fr.of_below {m : Nat} (h : Below m A B) (hn : n ≤ m) : Fr X n A B := ⟨h.os, h.tape, h.output, h.size, fun j hj _ => h.block j (by omega)⟩
theorem Fr.below (h : Fr X n A B) {m : Nat} (hm : m ≤ n) (hx : ∀ j, j < m → ¬ X j) : Below m A B := ⟨h.os, h.tape, h.output, h.size, fun j hj => h.block j (by omega) (hx j hj)⟩
theorem Fr.cut (h : Fr X n A B) {m : Nat} (hm : m ≤ n) : Fr X m A B := ⟨h.os, h.tape, h.output, h.size, fun j hj => h.block j (by omega)⟩
theorem Fr.more {Y : Nat → Prop} (h : Fr X n A B) (hy : ∀ j, X j → Y j) : Fr Y n A B := ⟨h.os, h.tape, h.output, h.size, fun j hj hn => h.block j hj fun hx => hn (hy j hx)⟩
theorem Fr.setCell {a : Addr} (v : Value) (h : n ≤ a.block ∨ X a.block) : Fr X n A (A.setCell a v) := ⟨rfl, rfl, rfl, by simp [World.setCell], fun j hj hx => by
  have hne : a.block ≠ j := fun e => by
    subst e
    rcases h with h | h
    · omega
    · exact hx h
  simp [World.setCell, Array.getElem?_modify, hne]⟩
theorem Fr.grown {row : Option Nat} (h : A.grownBy B row) (hn : n ≤ A.heap.size) (hr : ∀ r, row = some r → n ≤ r ∨ X r) : Fr X n A B := ⟨h.os, h.tape, h.output, h.size, fun j hj hx => h.block j (by omega) fun e => by
  rcases hr j e.symm with h | h
  · omega
  · exact hx h⟩
theorem Fr.put {r : Nat} (o : Obj) (h : n ≤ r ∨ X r) : Fr X n A (A.putObj r o) := ⟨rfl, rfl, rfl, by simp [World.putObj], fun j hj hx => by
  have hne : j ≠ r := fun e => by
    subst e
    rcases h with h | h
    · omega
    · exact hx h
  exact World.putObj_heap_other hne⟩
theorem Fr.sl (h : Fr X n A B) {sp : Option Addr} {cap : Nat} {xs : List Value} (k : Sl A sp cap xs) (hx : 0 < xs.length → ∀ c o, sp = some ⟨c, o, none⟩ → c < n ∧ ¬ X c) : Sl B sp cap xs := ⟨k.le, k.max, k.nul, fun h0 => by
  obtain ⟨c, o, e, hl⟩ := k.lies h0
  obtain ⟨h1, h2⟩ := hx h0 c o e
  refine ⟨c, o, e, fun i v hv => ?_⟩
  have := hl i v hv
  have hc := h.block c h1 h2
  unfold World.cell? at this ⊢
  simpa only [hc] using this⟩
theorem Fr.cell (h : Fr X n A B) {a : Addr} (h1 : a.block < n) (h2 : ¬ X a.block) : B.cell? a = A.cell? a := by
  have hc := h.block _ h1 h2
  unfold World.cell?
  rw [hc]
theorem Fr.keeps {B0 : Nat} (h : Fr X A.heap.size A B) (hX : ∀ j, X j → ∀ o, A.heap[j]? = some o → o.isCells = true) : KeepsFrom B0 A B := ⟨h.size, fun k o _ hk ho => by
  refine (h.block k (Array.getElem?_eq_some_iff.1 hk).1 fun hx => ?_).trans hk
  rw [hX k hx o hk] at ho
  cases ho⟩
end
/-! ### a model under way -/
/-- a part under way: rows, columns, where its numbers stand -/
structure St where
  r : Int
  c : Int
  val : Value
def putS (st : Nat → Nat → St) (k y : Nat) (s : St) : Nat → Nat → St := fun k' y' => if k' = k ∧ y' = y then s else st k' y'
theorem putS_same {st : Nat → Nat → St} {k y : Nat} {s : St} : putS st k y s k y = s := if_pos ⟨rfl, rfl⟩
theorem putS_other {st : Nat → Nat → St} {k y k' y' : Nat} {s : St} (h : ¬ (k' = k ∧ y' = y)) : putS st k y s k' y' = st k' y' := if_neg h
theorem putS_twice {st : Nat → Nat → St} {k y : Nat} {s s' : St} : putS (putS st k y s) k y s' = putS st k y s' := by
  funext k' y'
  unfold putS
  split <;> simp_all
/-- what a model under way has ahead of its parts -/
structure Hr where
  c : Cfg
  sa : Option Addr
  na : Nat
  ca : Nat
  sp : Option Addr
  np : Nat
  cp : Nat
def rdC (h : Hr) (sl : Option Addr) (nl : Nat) (e n o : St) : Array Value := #[.int .i64 h.c.v, .int .i64 h.c.d, .int .i64 h.c.h, .int .i64 h.c.l, .int .i64 h.c.x, .int .i64 h.c.i, .slice h.sa h.na h.ca, .slice h.sp h.np h.cp, .int .i64 e.r, .int .i64 e.c, e.val, .slice sl nl nl, n.val, .int .i64 o.r, .int .i64 o.c, o.val]
/-- a part's cells -/
def StAt (W : World) (b o k : Nat) (s : St) : Prop := if isVec k then W.cell? ⟨b, o, none⟩ = some s.val else W.cell? ⟨b, o, none⟩ = some (.int .i64 s.r) ∧ W.cell? ⟨b, o + 1, none⟩ = some (.int .i64 s.c) ∧ W.cell? ⟨b, o + 2, none⟩ = some s.val
/-- a model under way: in block g, its layers in block lb -/
structure RdG (W : World) (g lb L : Nat) (h : Hr) (st : Nat → Nat → St) : Prop where
  row : W.heap[g]? = some (.cells (rdC h (some ⟨lb, 0, none⟩) L (st 1 0) (st 11 0) (st 12 0)) 31 (0, 0))
  lrow : ∃ cs, W.heap[lb]? = some (.cells cs 65 (0, 0))
  lay : ∀ y k, y < L → 2 ≤ k → k ≤ 10 → StAt W lb (y * 23 + offK k) k (st k y)
/-- where a part stands -/
def addrR (g lb : Nat) (b : Bl) : Nat × Nat := if b.k = 1 then (g, 8) else if b.k = 11 then (g, 12) else if b.k = 12 then (g, 13) else (lb, b.y * 23 + offK b.k)
/-- a part there is -/
def OkL (L : Nat) (b : Bl) : Prop := (b.k = 1 ∧ b.y = 0) ∨ (b.k = 11 ∧ b.y = 0) ∨ (b.k = 12 ∧ b.y = 0) ∨ (b.y < L ∧ 2 ≤ b.k ∧ b.k ≤ 10)
theorem blks_okL {V D L I : Nat} {b : Bl} (h : b ∈ blks V D L I) : OkL L b := by
  unfold blks at h
  simp only [List.mem_cons, List.mem_append, List.not_mem_nil, or_false] at h
  rcases h with rfl | h | rfl | rfl
  · exact Or.inl ⟨rfl, rfl⟩
  · exact Or.inr (Or.inr (Or.inr (laysB_mem h)))
  · exact Or.inr (Or.inl ⟨rfl, rfl⟩)
  · exact Or.inr (Or.inr (Or.inl ⟨rfl, rfl⟩))
section
variable {W W' : World} {g lb L : Nat} {h : Hr} {st : Nat → Nat → St}
theorem RdG.at_ (hS : RdG W g lb L h st) {b : Bl} (hb : OkL L b) : StAt W (addrR g lb b).1 (addrR g lb b).2 b.k (st b.k b.y) := by
  obtain ⟨k, y, r, c⟩ := b
  unfold OkL at hb
  unfold addrR
  dsimp only at hb ⊢
  have hc : ∀ j, W.cell? ⟨g, j, none⟩ = (rdC h (some ⟨lb, 0, none⟩) L (st 1 0) (st 11 0) (st 12 0))[j]? := fun j => by rw [cell_of_row _ _ _ _ _ _ hS.row]
  rcases hb with ⟨rfl, rfl⟩ | ⟨rfl, rfl⟩ | ⟨rfl, rfl⟩ | ⟨hy, h2, h3⟩
  · rw [if_pos rfl]; unfold StAt; rw [if_neg (by decide)]
    exact ⟨by rw [hc]; rfl, by rw [hc]; rfl, by rw [hc]; rfl⟩
  · rw [if_neg (by decide), if_pos rfl]; unfold StAt; rw [if_pos (by decide)]; rw [hc]; rfl
  · rw [if_neg (by decide), if_neg (by decide), if_pos rfl]; unfold StAt; rw [if_neg (by decide)]
    exact ⟨by rw [hc]; rfl, by rw [hc]; rfl, by rw [hc]; rfl⟩
  · rw [if_neg (by omega), if_neg (by omega), if_neg (by omega)]
    exact hS.lay y k hy h2 h3
theorem StAt.over {b o k : Nat} {s : St} (hs : StAt W b o k s) (hc : ∀ j, W'.cell? ⟨b, j, none⟩ = W.cell? ⟨b, j, none⟩) : StAt W' b o k s := by
  unfold StAt at hs ⊢
  simpa only [hc] using hs
theorem RdG.over (hS : RdG W g lb L h st) (h1 : W'.heap[g]? = W.heap[g]?) (h2 : W'.heap[lb]? = W.heap[lb]?) : RdG W' g lb L h st := by
  refine ⟨h1.trans hS.row, ?_, fun y k hy k2 k3 => (hS.lay y k hy k2 k3).over fun j => World.cell?_of_block h2⟩
  obtain ⟨cs, e⟩ := hS.lrow
  exact ⟨cs, h2.trans e⟩
theorem RdG.lts (hS : RdG W g lb L h st) : g < W.heap.size ∧ lb < W.heap.size := by
  obtain ⟨cs, e⟩ := hS.lrow
  exact ⟨(Array.getElem?_eq_some_iff.1 hS.row).1, (Array.getElem?_eq_some_iff.1 e).1⟩
theorem RdG.ne (hS : RdG W g lb L h st) : g ≠ lb := fun e => by
  obtain ⟨cs, e2⟩ := hS.lrow
  rw [← e, hS.row] at e2
  injection e2 with e3
  injection e3 with _ e4
  exact absurd e4 (by decide)
theorem RdG.later (hS : RdG W g lb L h st) (hb : Below W.heap.size W W') : RdG W' g lb L h st := hS.over (hb.block _ hS.lts.1) (hb.block _ hS.lts.2)
theorem RdG.grown (hS : RdG W g lb L h st) {row : Option Nat} (hg : W.grownBy W' row) (hr : ∀ r cs, row = some r → W.heap[r]? ≠ some (.cells cs 31 (0, 0)) ∧ W.heap[r]? ≠ some (.cells cs 65 (0, 0))) : RdG W' g lb L h st := by
  refine hS.over (hg.block _ hS.lts.1 fun e => (hr g _ e.symm).1 hS.row) (hg.block _ hS.lts.2 fun e => ?_)
  obtain ⟨cs, e2⟩ := hS.lrow
  exact (hr lb cs e.symm).2 e2
theorem RdG.own {B : Nat} {α : Type} {f : α → Nat → Nat → St} : OwnFrom B (fun (s : α) W => RdG W g lb L h (f s)) := fun s X Y row hs hg hr => by
  refine hs.over (hg.block _ hs.lts.1 fun e => ?_) (hg.block _ hs.lts.2 fun e => ?_)
  · obtain ⟨_, o, ho, hc⟩ := hr g e.symm
    rw [hs.row] at ho; cases ho; cases hc
  · obtain ⟨cs, e2⟩ := hs.lrow
    obtain ⟨_, o, ho, hc⟩ := hr lb e.symm
    rw [e2] at ho; cases ho; cases hc
theorem heap_setCell_row {b j : Nat} {cs : Array Value} {t : TypeId} {fr : Nat × Nat} {v : Value} (h : W.heap[b]? = some (.cells cs t fr)) : (W.setCell ⟨b, j, none⟩ v).heap[b]? = some (.cells (cs.setIfInBounds j v) t fr) := by
  simp [World.setCell, Array.getElem?_modify, h]
theorem heap_setCell_far {b j c : Nat} {v : Value} (h : c ≠ b) : (W.setCell ⟨b, j, none⟩ v).heap[c]? = W.heap[c]? := by
  simp [World.setCell, Array.getElem?_modify, Ne.symm h]
/-- a part's cell is another one: which one -/
def St.set (s : St) (vec : Bool) (j : Nat) (v : Value) (s' : St) : Prop := if vec then j = 0 ∧ s'.val = v else (j = 0 ∧ (∃ r, v = .int .i64 r ∧ s' = { s with r := r })) ∨ (j = 1 ∧ (∃ c, v = .int .i64 c ∧ s' = { s with c := c })) ∨ (j = 2 ∧ s' = { s with val := v })
theorem StAt.set {b o k j : Nat} {s s' : St} {v : Value} (hs : StAt W b o k s) (h : s.set (isVec k) j v s') : StAt (W.setCell ⟨b, o + j, none⟩ v) b o k s' := by
  have ne : ∀ i, i ≠ j → (W.setCell ⟨b, o + j, none⟩ v).cell? ⟨b, o + i, none⟩ = W.cell? ⟨b, o + i, none⟩ := fun i hi => World.cell?_setCell_other _ _ _ _ (by intro e; injection e with _ e; omega)
  unfold StAt at hs ⊢
  unfold St.set at h
  cases hk : isVec k with
  | true =>
    rw [hk, if_pos rfl] at hs h
    obtain ⟨rfl, h1⟩ := h
    rw [if_pos rfl, h1]
    exact World.cell?_setCell_same _ _ _ hs
  | false =>
    rw [hk, if_neg (by decide)] at hs h
    rw [if_neg (by decide)]
    obtain ⟨h0, h1, h2⟩ := hs
    rcases h with ⟨rfl, r, rfl, rfl⟩ | ⟨rfl, r, rfl, rfl⟩ | ⟨rfl, rfl⟩
    · exact ⟨World.cell?_setCell_same _ _ _ h0, (ne 1 (by decide)).trans h1, (ne 2 (by decide)).trans h2⟩
    · exact ⟨(ne 0 (by decide)).trans h0, World.cell?_setCell_same _ _ _ h1, (ne 2 (by decide)).trans h2⟩
    · exact ⟨(ne 0 (by decide)).trans h0, (ne 1 (by decide)).trans h1, World.cell?_setCell_same _ _ _ h2⟩
theorem offK_far {k k' y y' i j : Nat} (h2 : 2 ≤ k) (h3 : k ≤ 10) (h2' : 2 ≤ k') (h3' : k' ≤ 10) (hne : ¬ (k' = k ∧ y' = y)) (hi : i < (if isVec k' then 1 else 3)) (hj : j < (if isVec k then 1 else 3)) : y * 23 + offK k + j ≠ y' * 23 + offK k' + i := by
  obtain rfl | rfl | rfl | rfl | rfl | rfl | rfl | rfl | rfl : k = 2 ∨ k = 3 ∨ k = 4 ∨ k = 5 ∨ k = 6 ∨ k = 7 ∨ k = 8 ∨ k = 9 ∨ k = 10 := by omega
  all_goals
    obtain rfl | rfl | rfl | rfl | rfl | rfl | rfl | rfl | rfl : k' = 2 ∨ k' = 3 ∨ k' = 4 ∨ k' = 5 ∨ k' = 6 ∨ k' = 7 ∨ k' = 8 ∨ k' = 9 ∨ k' = 10 := by omega
    all_goals
      simp only [isVec, offK] at hi hj ⊢
      simp at hi hj hne ⊢
      omega
theorem St.set_lt {s s' : St} {vec : Bool} {j : Nat} {v : Value} (h : s.set vec j v s') : j < (if vec then 1 else 3) := by
  unfold St.set at h
  cases vec with
  | true => rw [if_pos rfl] at h; rw [if_pos rfl]; omega
  | false => rw [if_neg (by decide)] at h; rw [if_neg (by decide)]; omega
theorem RdG.set (hS : RdG W g lb L h st) {b : Bl} (hb : OkL L b) {j : Nat} {v : Value} {s' : St} (hs : (st b.k b.y).set (isVec b.k) j v s') : RdG (W.setCell ⟨(addrR g lb b).1, (addrR g lb b).2 + j, none⟩ v) g lb L h (putS st b.k b.y s') := by
  obtain ⟨k, y, r, c⟩ := b
  unfold OkL at hb
  unfold addrR
  dsimp only at hb hs ⊢
  have hne := hS.ne
  have hjl := St.set_lt hs
  have top : ∀ (j : Nat) (cs : Array Value), (k = 1 ∨ k = 11 ∨ k = 12) → (rdC h (some ⟨lb, 0, none⟩) L (st 1 0) (st 11 0) (st 12 0)).setIfInBounds j v = rdC h (some ⟨lb, 0, none⟩) L (putS st k y s' 1 0) (putS st k y s' 11 0) (putS st k y s' 12 0) → RdG (W.setCell ⟨g, j, none⟩ v) g lb L h (putS st k y s') := fun j cs hk e => by
    obtain ⟨cl, hcl⟩ := hS.lrow
    have hfar := heap_setCell_far (W := W) (j := j) (v := v) hne.symm
    refine ⟨by rw [heap_setCell_row hS.row, e], ⟨cl, hfar.trans hcl⟩, fun y' k' hy k2 k3 => ?_⟩
    rw [putS_other (by omega)]
    exact (hS.lay y' k' hy k2 k3).over fun i => World.cell?_of_block hfar
  rcases hb with ⟨rfl, rfl⟩ | ⟨rfl, rfl⟩ | ⟨rfl, rfl⟩ | ⟨hy, h2, h3⟩
  · rw [if_pos rfl]
    unfold St.set at hs
    rw [if_neg (by decide)] at hs
    rcases hs with ⟨rfl, r, rfl, rfl⟩ | ⟨rfl, r, rfl, rfl⟩ | ⟨rfl, rfl⟩ <;> exact top _ #[] (by simp) (by rfl)
  · rw [if_neg (by decide), if_pos rfl]
    unfold St.set at hs
    rw [if_pos (by decide)] at hs
    obtain ⟨rfl, rfl⟩ := hs
    exact top _ #[] (by simp) (by rfl)
  · rw [if_neg (by decide), if_neg (by decide), if_pos rfl]
    unfold St.set at hs
    rw [if_neg (by decide)] at hs
    rcases hs with ⟨rfl, r, rfl, rfl⟩ | ⟨rfl, r, rfl, rfl⟩ | ⟨rfl, rfl⟩ <;> exact top _ #[] (by simp) (by rfl)
  · rw [if_neg (by omega), if_neg (by omega), if_neg (by omega)]
    dsimp only
    obtain ⟨cl, hcl⟩ := hS.lrow
    have hfar := heap_setCell_far (W := W) (b := lb) (j := y * 23 + offK k + j) (v := v) hne
    refine ⟨?_, ⟨_, heap_setCell_row hcl⟩, fun y' k' hy' k2 k3 => ?_⟩
    · rw [putS_other (by omega), putS_other (by omega), putS_other (by omega)]
      exact hfar.trans hS.row
    · by_cases hkk : k' = k ∧ y' = y
      · obtain ⟨rfl, rfl⟩ := hkk
        rw [putS_same]
        exact (hS.lay _ _ hy' k2 k3).set hs
      · rw [putS_other hkk]
        have hs0 := hS.lay _ _ hy' k2 k3
        have hc : ∀ i, i < (if isVec k' then 1 else 3) → (W.setCell ⟨lb, y * 23 + offK k + j, none⟩ v).cell? ⟨lb, y' * 23 + offK k' + i, none⟩ = W.cell? ⟨lb, y' * 23 + offK k' + i, none⟩ := fun i hi => World.cell?_setCell_other _ _ _ _ (by
          intro e
          injection e with _ e
          exact offK_far h2 h3 k2 k3 hkk hi hjl e)
        unfold StAt at hs0 ⊢
        cases hv : isVec k' with
        | true =>
          rw [hv] at hs0 hc
          rw [if_pos rfl] at hs0 ⊢
          exact (hc 0 (by decide)).trans hs0
        | false =>
          rw [hv] at hs0 hc
          rw [if_neg (by decide)] at hs0 ⊢
          exact ⟨(hc 0 (by decide)).trans hs0.1, (hc 1 (by decide)).trans hs0.2.1, (hc 2 (by decide)).trans hs0.2.2⟩
end
end Go.Proofs.Ytkfkjapkcjidnaa.Wg
namespace Go.Proofs.Ytkfkjapkcjidnaa.Wg
set_option maxRecDepth 100000
open Go.ChangeShapes Go.WideShapes Go.ChangeAt Go.RowKit Go.Shelf Go.Proofs.Ytkfkjapkcjidnaa.Tn
attribute [local go_sem] Oper.semAt_some

/-! ### drawn regions in which one operation turns what another one, ahead of it, looks at -/
section
variable {P : Program} {ops : Array Oper} {C : World → Prop} {Pre : Nat → World → Prop} {Le : Nat → World → World → Prop} {Φ : (Nat → Value) → Nat → World → Value → Prop}
theorem spec_anyD {Q : Exit → Act → World → Prop} {a0 : Act} {n : Nat} (hB : specB ops n = true) (hU : ∀ (u u' : Nat → Value) (j : Nat) w v, (∀ oj, ops[j]? = some oj → ∀ e ∈ oj.after, Region.binds .any e = true → u e.on = u' e.on) → Φ u j w v → Φ u' j w v) (hLe : ∀ u j k w w' v, j ≠ k → Le k w w' → Φ u j w v → Φ u j w' v) (hPre : ∀ j k w w', j ≠ k → (∀ ok, ops[k]? = some ok → ∀ e ∈ ok.after, Region.binds .any e = true → e.on ≠ j) → Le k w w' → Pre j w → Pre j w') (Ψ : Nat → Value → Prop) (hΨ : ∀ u j w v, Φ u j w v → Ψ j v) (h : ∀ u, (∀ j, Ψ j (u j)) → specAll P ops C Pre Le Φ u (ops.toList.take n) 0 a0)
    (hend : ∀ u a w, (∀ j, Ψ j (u j)) → C w → (∀ j, j < n → Φ u j w (u j)) → a = putAll u (ops.toList.take n) 0 a0 → wpList P ops Q (ops.toList.drop n) a w) :
    ∀ (f : Nat) (listed : Array Bool) (a : Act) (w : World) (u : Nat → Value), (∀ j, Ψ j (u j)) → HeadInv .any ops n listed → cntU listed n = f → SpecInv P ops C Pre Φ a0 u listed a w → wpAny P .any ops Q (f + (ops.size - n)) listed a w := by
  simp only [specB, Bool.and_eq_true, decide_eq_true_eq] at hB
  obtain ⟨⟨⟨⟨⟨⟨⟨hsel, hn⟩, hs⟩, hc⟩, hdist⟩, hlook⟩, hdep⟩, hseq⟩ := hB
  have hdep' : ∀ i oi, i < n → ops[i]? = some oi → ∀ e ∈ oi.after, Region.binds .any e = true → e.on < i := fun i oi hi hoi e he hb => by
    have h1 := List.all_eq_true.1 hdep i (List.mem_range.2 hi)
    simp only [hoi] at h1
    have h2 := Array.all_eq_true_iff_forall_mem.1 h1 e he
    rw [hb] at h2
    simpa using h2
  have hdist' : ∀ i j oi oj d, i < n → j < n → i ≠ j → ops[i]? = some oi → ops[j]? = some oj → oi.dst = some d → oj.dst ≠ some d := fun i j oi oj d hi hj hij hoi hoj hd hd2 => by
    have h1 := List.all_eq_true.1 (List.all_eq_true.1 hdist i (List.mem_range.2 hi)) j (List.mem_range.2 hj)
    simp [hij, hoi, hoj, hd, hd2] at h1
  have hlook' : ∀ i j oi oj t, i < n → ops[i]? = some oi → ops[j]? = some oj → t ∈ oi.looksAt ops → oj.dst = some t → n ≤ j ∨ (j < i ∧ Region.waitsFor .any ops i j = true) := fun i j oi oj t hi hoi hoj ht hd => by
    have h1 := List.all_eq_true.1 hlook i (List.mem_range.2 hi)
    simp only [hoi] at h1
    have h2 := List.all_eq_true.1 (List.all_eq_true.1 h1 t ht) j (List.mem_range.2 (Array.getElem?_eq_some_iff.1 hoj).1)
    simp only [hoj, hd] at h2
    simpa using h2
  intro f
  induction f with
  | zero =>
    intro listed a w u hu inv hcnt hi
    have hall := cntU_zero n hcnt
    have hlist : listed = (List.range n).foldl (fun l i => l.setIfInBounds i true) (Array.replicate ops.size false) := by
      apply Array.ext
      · rw [inv.size, (fold_get ops.size n 0 (by omega)).1]
      · intro j h1 h2
        rw [inv.size] at h1
        have e1 : listed[j] = listed.getD j true := by simp [Array.getD, inv.size, h1]
        have e2 := (fold_get ops.size n j (by omega)).2 true h1
        have e3 : ((List.range n).foldl (fun l i => l.setIfInBounds i true) (Array.replicate ops.size false))[j] = ((List.range n).foldl (fun l i => l.setIfInBounds i true) (Array.replicate ops.size false)).getD j true := by simp [Array.getD, h2]
        rw [e1, e3, e2]
        by_cases hj : j < n
        · rw [hall j hj]; simp [hj]
        · rw [inv.tail j (by omega) h1]; simp [hj]
    have htake : ∀ j oj, ops[j]? = some oj → j < n → (ops.toList.take n)[j]? = some oj := fun j oj hoj hj => by
      rw [List.getElem?_take, if_pos hj, Array.getElem?_toList]; exact hoj
    have hput : a = putAll u (ops.toList.take n) 0 a0 := by
      obtain ⟨p1, p2⟩ := putAll_size u (ops.toList.take n) 0 a0
      have ht : a.tmps = (putAll u (ops.toList.take n) 0 a0).tmps := by
        apply Array.ext
        · rw [hi.size, p1]
        · intro t h1 h2
          have e1 : a.tmps[t] = a.tmps.getD t undef := by simp [Array.getD, h1]
          have e2 : (putAll u (ops.toList.take n) 0 a0).tmps[t] = (putAll u (ops.toList.take n) 0 a0).tmps.getD t undef := by simp [Array.getD, h2]
          rw [e1, e2]
          rw [hi.size] at h1
          by_cases hw : ∃ j oj, j < n ∧ ops[j]? = some oj ∧ oj.dst = some t
          · obtain ⟨j, oj, hj, hoj, hd⟩ := hw
            rw [hi.val j oj t hoj (by rw [getD_agree inv.size (by omega) false true]; exact hall j hj) hd h1, putAll_same u t _ 0 a0 j oj (htake j oj hoj hj) hd h1 (fun i oi hi2 hji => by
              rw [List.getElem?_take] at hi2
              split at hi2
              · rename_i hin
                rw [Array.getElem?_toList] at hi2
                exact hdist' j i oj oi t hj hin (by omega) hoj hi2 hd
              · cases hi2), Nat.zero_add]
          · rw [hi.rest t (fun j oj hoj hl hd => by
              by_cases hj : j < n
              · exact hw ⟨j, oj, hj, hoj, hd⟩
              · have := inv.tail j (by omega) (Array.getElem?_eq_some_iff.1 hoj).1
                rw [getD_both this] at hl
                cases hl), putAll_other u t _ 0 a0 (fun o ho hd => by
              obtain ⟨j, hj⟩ := List.getElem?_of_mem ho
              rw [List.getElem?_take] at hj
              split at hj
              · rename_i hjn
                rw [Array.getElem?_toList] at hj
                exact hw ⟨j, o, hjn, hj, hd⟩
              · cases hj)]
      have hdd : a.defers = (putAll u (ops.toList.take n) 0 a0).defers := by rw [hi.defers, p2]
      cases a
      cases hp : putAll u (ops.toList.take n) 0 a0
      rw [hp] at ht hdd
      simp only at ht hdd
      rw [ht, hdd]
    have hdl : (ops.toList.drop n).length = ops.size - n := by simp
    have := wpAny_of_seq (md := .any) (Q' := Q) (ops.toList.drop n) n listed a w (fun j => by rw [List.getElem?_drop, Array.getElem?_toList]) (by rw [hdl, hlist]; exact hseq)
      (hend u a w hu hi.world (fun j hj => hi.word j (by rw [getD_agree inv.size (by omega) false true]; exact hall j hj)) hput)
    rw [hdl] at this
    rw [Nat.zero_add]
    exact this
  | succ f ih =>
    intro listed a w u hu inv hcnt hi
    obtain ⟨m, hm, hmun, hmall⟩ := cntU_least n (by rw [hcnt]; omega)
    have hready : m ∈ Region.ready .any ops listed := by
      rw [mem_ready]
      obtain ⟨om, hom⟩ : ∃ om, ops[m]? = some om := ⟨_, Array.getElem?_eq_getElem (by omega)⟩
      refine ⟨hmun, om, hom, fun e he hb => ?_⟩
      have h1 := hdep' m om hm hom e he hb
      rw [getD_agree inv.size (by omega) false true]
      exact hmall _ h1
    rw [show f + 1 + (ops.size - n) = (f + (ops.size - n)) + 1 by omega]
    refine ⟨fun h0 => absurd h0 (List.ne_nil_of_mem hready), fun i hir => ?_⟩
    have hin : i < n := Nat.lt_of_not_le fun hge => late_waits hs hc hn inv _ m rfl (Nat.zero_le _) hm hmun i hge hir
    obtain ⟨hun, oi, hoi, hall⟩ := mem_ready.1 hir
    have htk : (ops.toList.take n)[i]? = some oi := by rw [List.getElem?_take, if_pos hin, Array.getElem?_toList]; exact hoi
    obtain ⟨hwant, hgives⟩ := specAll_at (ops.toList.take n) 0 a0 i oi (h u hu) htk w hi.world (by rw [Nat.zero_add]; exact hi.pre i (Array.getElem?_eq_some_iff.1 hoi).1 hun) (fun e he hb => hi.word _ (hall e (by simpa using he) hb))
    -- what it looks at reads the same in both frames
    have hagree : ∀ t ∈ oi.looksAt ops, a.tmps.getD t undef = (putAll u ((ops.toList.take n).take i) 0 a0).tmps.getD t undef := by
      intro t ht
      obtain ⟨p1, _⟩ := putAll_size u ((ops.toList.take n).take i) 0 a0
      by_cases hts : t < a0.tmps.size
      · by_cases hw : ∃ (j : Nat) (oj : Oper), j < n ∧ ops[j]? = some oj ∧ oj.dst = some t
        · obtain ⟨j, oj, hjn, hoj, hd⟩ := hw
          obtain ⟨hji, hwt⟩ := (hlook' i j oi oj t hin hoi hoj ht hd).resolve_left (by omega)
          obtain ⟨o2, ho2, e, he, hb, hon⟩ := Region.waitsFor_spec hwt
          obtain rfl : o2 = oi := Option.some.inj (ho2.symm.trans hoi)
          have hl := hall e he hb
          rw [hon] at hl
          rw [hi.val j oj t hoj hl hd hts, putAll_same u t _ 0 a0 j oj (by rw [List.getElem?_take, if_pos hji, List.getElem?_take, if_pos (by omega), Array.getElem?_toList]; exact hoj) hd hts (fun k ok hk hjk => by
            rw [List.getElem?_take] at hk
            split at hk
            · rw [List.getElem?_take] at hk
              split at hk
              · rename_i hkn
                rw [Array.getElem?_toList] at hk
                exact hdist' j k oj ok t (by omega) hkn (by omega) hoj hk hd
              · cases hk
            · cases hk), Nat.zero_add]
        · rw [hi.rest t (fun j oj hoj hl hd => hw ⟨j, oj, Nat.lt_of_not_le (fun hge => by rw [getD_both (inv.tail j hge (Array.getElem?_eq_some_iff.1 hoj).1)] at hl; cases hl), hoj, hd⟩), putAll_other u t _ 0 a0 (fun o ho hd => by
            obtain ⟨j, hj⟩ := List.getElem?_of_mem (List.mem_of_mem_take ho)
            rw [List.getElem?_take] at hj
            split at hj
            · rename_i hjn
              rw [Array.getElem?_toList] at hj
              exact hw ⟨j, o, hjn, hj, hd⟩
            · cases hj)]
      · simp [Array.getD, hi.size, p1, hts]
    have heval : ∀ x ∈ oi.op.operands, a.eval x = (putAll u ((ops.toList.take n).take i) 0 a0).eval x := by
      intro x hx
      cases x with
      | tmp t => exact hagree t (List.mem_append_left _ (List.mem_filterMap.2 ⟨.tmp t, by simpa using hx, rfl⟩))
      | _ => rfl
    have hexec : execOp a.eval oi = execOp (putAll u ((ops.toList.take n).take i) 0 a0).eval oi := execOp_congr oi (fun cs b => Region.noSelect_spec hsel i oi cs b hoi) heval
    have hwanted : Region.wanted oi (yielded ops a.tmps) = true := by
      rw [← hwant]
      unfold Region.wanted
      cases hg : oi.guard with
      | none => rfl
      | some gw =>
        obtain ⟨g, want⟩ := gw
        have hy : yielded ops a.tmps g = yielded ops (putAll u ((ops.toList.take n).take i) 0 a0).tmps g := by
          unfold yielded
          cases ht : (ops[g]?).bind (·.dst) with
          | none => rfl
          | some t =>
            have h1 := hagree t (by simp [Oper.looksAt, hg, ht])
            have h2 : a.tmps.size = (putAll u ((ops.toList.take n).take i) 0 a0).tmps.size := hi.size.trans (putAll_size u _ 0 a0).1.symm
            rw [get_of_getD h2 h1]
        simp only [hy]
    have hg2 : Gives P oi a w (fun v w' => C w' ∧ Le (0 + i) w w' ∧ Φ u (0 + i) w' v) := by
      unfold Gives
      rw [hexec]
      exact hgives
    unfold wpOp
    simp only [hoi, hwanted, if_true]
    refine .inl (wp_of_gives hg2 fun v w' ⟨hC', hLe', hΦ⟩ => ?_)
    rw [Nat.zero_add] at hΦ hLe'
    refine ih (listed.setIfInBounds i true) (a.put oi.dst v) w' (fun j => if j = i then v else u j) (fun j => by
      by_cases hji : j = i
      · subst hji; simp only [if_true]; exact hΨ _ _ _ _ hΦ
      · simp only [if_neg hji]; exact hu j) (inv.set hir hin) (by rw [cntU_set hun n hin] at hcnt; omega) ⟨hC', (put_size _ _ _).trans hi.size, (put_defers' _ _ _).trans hi.defers, ?_, ?_, ?_, fun j hjs hju => by
        by_cases hji : j = i
        · subst hji
          have hsz : j < listed.size := by rw [inv.size]; exact hjs
          rw [Array.getD_eq_getD_getElem?, Array.getElem?_setIfInBounds] at hju
          simp [hsz] at hju
        · have hq : listed.getD j true = false := by rw [Array.getD_eq_getD_getElem?] at hju ⊢; rwa [Array.getElem?_setIfInBounds_ne (fun e => hji e.symm)] at hju
          exact hPre j i w w' hji (fun ok hok e he hb ee => by
            obtain rfl : oi = ok := Option.some.inj (hoi.symm.trans hok)
            have h1 := hall e he hb
            rw [ee, getD_both hq] at h1
            cases h1) hLe' (hi.pre j hjs hq)⟩
    · intro j oj d hoj hl hd hds
      by_cases hji : i = j
      · subst hji
        obtain rfl : oi = oj := Option.some.inj (hoi.symm.trans hoj)
        rw [put_getD, if_pos ⟨hd, by rw [hi.size]; exact hds⟩, if_pos rfl]
      · rw [getD_set_ne false hji] at hl
        have hjn : j < n := Nat.lt_of_not_le fun hge => by
          have := inv.tail j hge (Array.getElem?_eq_some_iff.1 hoj).1
          rw [getD_both this] at hl
          cases hl
        rw [put_getD, if_neg (fun h => hdist' j i oj oi d hjn hin (fun e => hji e.symm) hoj hoi hd h.1), if_neg (fun e => hji e.symm)]
        exact hi.val j oj d hoj hl hd hds
    · intro j hl
      by_cases hji : i = j
      · subst hji
        simp only [if_true]
        refine hU u _ i w' v (fun oj hoj e he hb => ?_) hΦ
        obtain rfl : oi = oj := Option.some.inj (hoi.symm.trans hoj)
        have := hdep' i oi hin hoi e he hb
        rw [if_neg (by omega)]
      · rw [getD_set_ne false hji] at hl
        simp only [if_neg (fun e : j = i => hji e.symm)]
        refine hU u _ j w' (u j) (fun oj hoj e he hb => ?_) (hLe _ _ _ _ _ _ (fun e => hji e.symm) hLe' (hi.word j hl))
        have h1 := inv.closed j oj hoj hl e he hb
        rw [if_neg (fun ee => by rw [ee, getD_both hun] at h1; cases h1)]
    · intro t ht
      rw [put_getD, if_neg (fun h => ht i oi hoi (by
        rw [Array.getD_eq_getD_getElem?, Array.getElem?_setIfInBounds]
        have : i < listed.size := by rw [inv.size]; omega
        simp [this]) h.1)]
      exact hi.rest t (fun j oj hoj hl => ht j oj hoj (getD_set_true hl))
theorem any_specD {Q : Exit → Act → World → Prop} {a0 : Act} {w : World} {l : List Oper} (n : Nat) (Φ : (Nat → Value) → Nat → World → Value → Prop) (hB : specB l.toArray n = true) (hC : C { w with drawn := w.drawn + 1 }) (hU : ∀ (u u' : Nat → Value) (j : Nat) w v, (∀ oj, l.toArray[j]? = some oj → ∀ e ∈ oj.after, Region.binds .any e = true → u e.on = u' e.on) → Φ u j w v → Φ u' j w v) (hLe : ∀ u j k w w' v, j ≠ k → Le k w w' → Φ u j w v → Φ u j w' v) (hPre : ∀ j k w w', j ≠ k → (∀ ok, l.toArray[k]? = some ok → ∀ e ∈ ok.after, Region.binds .any e = true → e.on ≠ j) → Le k w w' → Pre j w → Pre j w') (hPre0 : ∀ j, Pre j { w with drawn := w.drawn + 1 }) (Ψ : Nat → Value → Prop) (hΨ : ∀ u j w v, Φ u j w v → Ψ j v) (u0 : Nat → Value) (hu0 : ∀ j, Ψ j (u0 j))
    (h : ∀ u, (∀ j, Ψ j (u j)) → specAll P l.toArray C Pre Le Φ u (l.take n) 0 a0) (hend : ∀ u w, (∀ j, Ψ j (u j)) → C w → (∀ j, j < n → Φ u j w (u j)) → wpList P l.toArray Q (l.drop n) (putAll u (l.take n) 0 a0) w) :
    wpAny P .any l.toArray Q l.toArray.size (Array.replicate l.toArray.size false) a0 { w with drawn := w.drawn + 1 } := by
  have hn : n < l.toArray.size := by
    simp only [specB, Bool.and_eq_true, decide_eq_true_eq] at hB
    exact hB.1.1.1.1.1.1.2
  have inv0 : HeadInv .any l.toArray n (Array.replicate l.toArray.size false) :=
    ⟨by simp, fun j oj _ hl => (by rw [getD_replicate_false] at hl; cases hl), fun t _ ht => getD_in (by simpa using ht) (getD_replicate_false _ _)⟩
  have hc : ∀ k, k ≤ l.toArray.size → cntU (Array.replicate l.toArray.size false) k = k := by
    intro k
    induction k with
    | zero => intro _; rfl
    | succ k ih =>
      intro hk
      have : (Array.replicate l.toArray.size false).getD k true = false := getD_in (by simp at hk ⊢; omega) (getD_replicate_false _ _)
      rw [cntU, ih (by omega), this]
      simp
  have K := spec_anyD (Q := Q) (a0 := a0) (n := n) hB hU hLe hPre Ψ hΨ (by simpa using h) (fun u a w hu hC hΦ ha => by subst ha; simpa using hend u w hu hC hΦ) n _ a0 { w with drawn := w.drawn + 1 } u0 hu0 inv0 (hc n (by omega))
    ⟨hC, rfl, rfl, (fun j oj d _ hl => by rw [getD_replicate_false] at hl; cases hl), (fun j hl => by rw [getD_replicate_false] at hl; cases hl), (fun t _ => rfl), fun j _ _ => hPre0 j⟩
  rwa [show n + (l.toArray.size - n) = l.toArray.size by omega] at K
theorem wp_region_specD {id : Nat} {Q : Exit → Act → World → Prop} {a0 : Act} {w : World} {l : List Oper} (n : Nat) (Φ : (Nat → Value) → Nat → World → Value → Prop) (hm : P.follows .mixedOrders = true) (hB : specB l.toArray n = true) (hC : C { w with drawn := w.drawn + 1 }) (hU : ∀ (u u' : Nat → Value) (j : Nat) w v, (∀ oj, l.toArray[j]? = some oj → ∀ e ∈ oj.after, Region.binds .any e = true → u e.on = u' e.on) → Φ u j w v → Φ u' j w v) (hLe : ∀ u j k w w' v, j ≠ k → Le k w w' → Φ u j w v → Φ u j w' v) (hPre : ∀ j k w w', j ≠ k → (∀ ok, l.toArray[k]? = some ok → ∀ e ∈ ok.after, Region.binds .any e = true → e.on ≠ j) → Le k w w' → Pre j w → Pre j w') (hPre0 : ∀ j, Pre j { w with drawn := w.drawn + 1 }) (Ψ : Nat → Value → Prop) (hΨ : ∀ u j w v, Φ u j w v → Ψ j v) (u0 : Nat → Value) (hu0 : ∀ j, Ψ j (u0 j))
    (h : ∀ u, (∀ j, Ψ j (u j)) → specAll P l.toArray C Pre Le Φ u (l.take n) 0 a0) (hend : ∀ u w, (∀ j, Ψ j (u j)) → C w → (∀ j, j < n → Φ u j w (u j)) → wpList P l.toArray Q (l.drop n) (putAll u (l.take n) 0 a0) w) : (Code.region id l.toArray true).wp P Q a0 w :=
  wp_region_any hm (any_specD n Φ hB hC hU hLe hPre hPre0 Ψ hΨ u0 hu0 h hend)
end
end Go.Proofs.Ytkfkjapkcjidnaa.Wg
namespace Go.Proofs.Ytkfkjapkcjidnaa.Wg
set_option maxRecDepth 100000
open Go.ChangeShapes Go.WideShapes Go.ChangeAt Go.RowKit Go.Shelf Go.Proofs.Ytkfkjapkcjidnaa.Tn
attribute [local go_sem] Oper.semAt_some

/-! ### a part gets one more row -/
/-- of a part that is told: its closure, in a model under way -/
theorem clos_ofR {n0 : Nat} {w : World} {g lb L : Nat} {h : Hr} {st : Nat → Nat → St} {x : Bk} (hS : RdG w g lb L h st) (hL : L ≤ 4) (hx : FnOK n0 w x) (hb : OkL L x.b) :
    (isVec x.b.k = true → ClosOK w g x.vf ⟨(addrR g lb x.b).1, (addrR g lb x.b).2, none⟩ ∧ x.mf = .nilFunc) ∧ (isVec x.b.k = false → ClosOK w g x.mf ⟨(addrR g lb x.b).1, (addrR g lb x.b).2, none⟩ ∧ x.vf = .nilFunc) := by
  unfold addrR
  rcases hx with ⟨hk, h1, h2⟩ | ⟨hk, h1, h2⟩ | ⟨hk, h1, h2⟩ | ⟨⟨h2, h3⟩, bi, bl, hb1, hb2, hr1, hr2, h4, h5⟩
  · rw [if_pos hk, hk]
    refine ⟨(fun h => by cases h), fun _ => ⟨?_, h1⟩⟩
    rw [h2]
    exact (leadsEmb g 0).clos (fun args W => cf Try.func57 (by kernel_rfl) (by kernel_rfl) _ _)
  · rw [if_neg (by omega), if_pos hk, hk]
    refine ⟨fun _ => ⟨?_, h2⟩, (fun h => by cases h)⟩
    rw [h1]
    exact (leadsNrm g 0).clos (fun args W => cf Try.func59 (by kernel_rfl) (by kernel_rfl) _ _)
  · rw [if_neg (by omega), if_neg (by omega), if_pos hk, hk]
    refine ⟨(fun h => by cases h), fun _ => ⟨?_, h1⟩⟩
    rw [h2]
    exact (leadsOut g 0).clos (fun args W => cf Try.func60 (by kernel_rfl) (by kernel_rfl) _ _)
  · rw [if_neg (by omega), if_neg (by omega), if_neg (by omega)]
    have hyl : x.b.y < L := by unfold OkL at hb; omega
    obtain ⟨hl, hc⟩ := leadsK h2 h3
    have hcw : w.cell? ⟨g, 0 + 11, none⟩ = some (.slice (some ⟨lb, 0, none⟩) L L) := by
      rw [Nat.zero_add, cell_of_row _ _ _ _ _ _ hS.row]
      rfl
    have k1 : w.cell? ⟨bi, 0, none⟩ = some (fnV (fnK x.b.k)) := by rw [cell_of_row _ _ _ _ _ _ hr1]; rfl
    have k2 : w.cell? ⟨bl, 0, none⟩ = some (.int .i64 (x.b.y : Int)) := by rw [cell_of_row _ _ _ _ _ _ hr2]; rfl
    have hl' := hl lb (0 + x.b.y * 23)
    rw [show 0 + x.b.y * 23 + offK x.b.k = x.b.y * 23 + offK x.b.k by omega] at hl'
    refine ⟨fun hv => ?_, fun hv => ?_⟩
    · obtain ⟨e1, e2⟩ := h4 hv
      refine ⟨⟨_, _, e1, fun args W => cf Try.func71 (by kernel_rfl) (by kernel_rfl) _ _, fun W hW => ?_⟩, e2⟩
      exact vecIn_any W g 0 bi bl (fnK x.b.k) lb 0 L L x.b.y _ ((hW.cell (block_lt_of_cell k1)).trans k1) ((hW.cell (block_lt_of_cell k2)).trans k2) ((hW.cell (block_lt_of_cell hcw)).trans hcw) hyl hL hl' hc
    · obtain ⟨e1, e2⟩ := h5 hv
      refine ⟨⟨_, _, e2, fun args W => cf Try.func73 (by kernel_rfl) (by kernel_rfl) _ _, fun W hW => ?_⟩, e1⟩
      exact matIn_any W g 0 bi bl (fnK x.b.k) lb 0 L L x.b.y _ ((hW.cell (block_lt_of_cell k1)).trans k1) ((hW.cell (block_lt_of_cell k2)).trans k2) ((hW.cell (block_lt_of_cell hcw)).trans hcw) hyl hL hl' hc
theorem addrR_or (g lb : Nat) (b : Bl) : (addrR g lb b).1 = g ∨ (addrR g lb b).1 = lb := by
  unfold addrR
  split
  · exact Or.inl rfl
  · split
    · exact Or.inl rfl
    · split
      · exact Or.inl rfl
      · exact Or.inr rfl
section
variable {n0 : Nat} {w W W' : World} {g lb L : Nat} {h : Hr} {st : Nat → Nat → St} {x : Bk}
/-- the closures stay where the model is turned -/
theorem FnOK.set (hx : FnOK n0 W x) (hS : RdG W g lb L h st) {j : Nat} {v : Value} : FnOK n0 (W.setCell ⟨(addrR g lb x.b).1, j, none⟩ v) x := by
  obtain ⟨cs, hcs⟩ := hS.lrow
  have keep : ∀ (k : Nat) (c : Array Value) (t : TypeId), t ≠ 31 → t ≠ 65 → W.heap[k]? = some (Obj.cells c t (0, 0)) → (W.setCell ⟨(addrR g lb x.b).1, j, none⟩ v).heap[k]? = some (Obj.cells c t (0, 0)) := fun k c t h1 h2 hk => by
    refine (heap_setCell_far fun e => ?_).trans hk
    rcases addrR_or g lb x.b with e2 | e2
    · rw [e, e2, hS.row] at hk; cases hk; exact h1 rfl
    · rw [e, e2, hcs] at hk; cases hk; exact h2 rfl
  rcases hx with h | h | h | ⟨h1, bi, bl, h3, h4, h5, h6, h7⟩
  · exact Or.inl h
  · exact Or.inr (Or.inl h)
  · exact Or.inr (Or.inr (Or.inl h))
  · exact Or.inr (Or.inr (Or.inr ⟨h1, bi, bl, h3, h4, keep _ _ _ (by split <;> decide) (by split <;> decide) h5, keep _ _ _ (by decide) (by decide) h6, h7⟩))
theorem own_not {base n : Nat} {v : Value} {xs : List Value} (ho : W.ownsRow base 3 1 v n xs) : ∀ r cs, v.ownBlock = some r → W.heap[r]? ≠ some (.cells cs 31 (0, 0)) ∧ W.heap[r]? ≠ some (.cells cs 65 (0, 0)) := fun r cs e => by
  rcases ho.2 with ⟨rfl, _⟩ | ⟨g', cap, cur, rfl, _, hh, _⟩
  · simp [Value.ownBlock] at e
  · have : g' = r := by simpa [Value.ownBlock] using e
    subst this
    rw [hh]
    exact ⟨(fun e => by cases e), (fun e => by cases e)⟩
/-- what add answers -/
def AddPost (w : World) (g lb L : Nat) (h : Hr) (st : Nat → Nat → St) (b : Bl) (base : Nat) (lst lr : List Int) (e : Ending) (w' : World) : Prop :=
  (∃ v, e = .returned v) ∧ ∃ val', RdG w' g lb L h (putS st b.k b.y ⟨if isVec b.k then (st b.k b.y).r else (st b.k b.y).r + 1, if isVec b.k then (st b.k b.y).c else b.c, val'⟩) ∧ w'.ownsRow base 3 1 val' (lst.length + lr.length) ((lst ++ lr).map fun v => Value.int .i64 v) ∧
    Fr (fun j => j = g ∨ j = lb ∨ (st b.k b.y).val.ownBlock = some j) w.heap.size w w'
theorem frozen_row {b : Nat} {cs : Array Value} {t : TypeId} {j : Nat} (hb : W.heap[b]? = some (.cells cs t (0, 0))) : W.frozen? ⟨b, j, none⟩ = false := by
  simp [World.frozen?, hb]
theorem RdG.thaw (hS : RdG W g lb L h st) (b : Bl) (j : Nat) : W.frozen? ⟨(addrR g lb b).1, j, none⟩ = false := by
  rcases addrR_or g lb b with e | e
  · rw [e]; simp [World.frozen?, hS.row]
  · obtain ⟨cs, hcs⟩ := hS.lrow
    rw [e]; simp [World.frozen?, hcs]
theorem owns_setR {base n j : Nat} {v u : Value} {xs : List Value} (ho : W.ownsRow base 3 1 v n xs) (hS : RdG W g lb L h st) (b : Bl) : (W.setCell ⟨(addrR g lb b).1, j, none⟩ u).ownsRow base 3 1 v n xs := by
  obtain ⟨h0, h1⟩ := ho
  refine ⟨h0, ?_⟩
  rcases h1 with h1 | ⟨g', cap, cur, h2, h3, h4, h5⟩
  · exact Or.inl h1
  · refine Or.inr ⟨g', cap, cur, h2, h3, (heap_setCell_far fun e => ?_).trans h4, h5⟩
    obtain ⟨cs, hcs⟩ := hS.lrow
    rcases addrR_or g lb b with e2 | e2
    · rw [e, e2, hS.row] at h4; cases h4
    · rw [e, e2, hcs] at h4; cases h4
end
set_option maxHeartbeats 4000000 in
theorem addV_any (w : World) (n0 g lb L : Nat) (h : Hr) (st : Nat → Nat → St) (x : Bk) (hL : L ≤ 4) (hS : RdG w g lb L h st) (hx : FnOK n0 w x) (hb : OkL L x.b) (hk : isVec x.b.k = true) (base : Nat) (lst lr : List Int) (hown : w.ownsRow base 3 1 (st x.b.k x.b.y).val lst.length (lst.map fun v => Value.int .i64 v)) (hbs : base ≤ w.heap.size)
    (sp : Option Addr) (cap C : Nat) (hr : Sl w sp cap (lr.map fun v => Value.int .i64 v)) (hC : lr.length = C) (hlen : lst.length + C ≤ 100000) :
    Calls Try.prog 51 #[x.val, .pointer (some ⟨g, 0, none⟩), .slice sp C cap] w (AddPost w g lb L h st x.b base lst lr) := by
  have hal : Below w.heap.size w (w.alloc (.cells x.cells 95)) := (Below.refl _ _).alloc (Nat.le_refl _) _
  have hS1 := hS.later hal
  have HCl := Lib.hid (fun W (hW : Below (w.alloc (.cells x.cells 95)).heap.size (w.alloc (.cells x.cells 95)) W) => ((clos_ofR hS1 hL (hx.later hal) hb).1 hk).1.later hW)
  have hmf := ((clos_ofR hS1 hL (hx.later hal) hb).1 hk).2
  have HOk := Lib.hid hb
  have HS := Lib.hid hS1
  have HOw := Lib.hid (owns_below hown hal)
  have HR := Lib.hid (Sl.below hr (Nat.le_refl _) hal)
  have HRow := Lib.hid (heap_alloc_new w (.cells x.cells 95))
  have HW1 : Hid (w.heap.size ≤ (w.alloc (.cells x.cells 95)).heap.size) := Lib.hid hal.size
  have HAl := Lib.hid hal
  have HLr : Hid ((lr.map fun v => Value.int .i64 v).length = C) := Lib.hid (by rw [List.length_map]; exact hC)
  have HCn := Lib.hid hC
  have HLen := Lib.hid hlen
  have HBs := Lib.hid hbs
  have HK := Lib.hid hk
  have HAt := Lib.hid (show StAt _ _ _ _ _ from hS1.at_ hb)
  have h0 := neM_no
  have h1 := neM_yes
  clear hal hS1 hS hx hb hown hr hC hlen hbs hk
  obtain ⟨⟨k, y, r, c⟩, vf, mf⟩ := x
  dsimp only at hmf
  subst hmf
  dsimp only [Bk.val, Bk.cells, blC] at HCl HS HOw HR HRow HW1 HAl HOk HK HAt ⊢
  obtain ⟨A, hA⟩ : ∃ A : Nat × Nat, addrR g lb ⟨k, y, r, c⟩ = A := ⟨_, rfl⟩
  have HA := Lib.hid hA
  rw [hA] at HCl HAt
  clear hA
  obtain ⟨b, o⟩ := A
  dsimp only at HCl HAt
  have HNa := Lib.hid (fun W hW => numbersV_any W g k y r c vf b o (HCl.out W hW))
  go_enter Try.func51, Try.ntmps51
  go_wp2_with fail
  refine (HNa.out _ (Below.refl _ _)).mono ?_
  rintro e w2 ⟨rfl, hb2⟩
  have HS2 := Lib.hid (HS.out.later hb2)
  have HOw2 := Lib.hid (owns_below HOw.out hb2)
  have HR2 := Lib.hid (Sl.below HR.out (Nat.le_refl _) hb2)
  have HFr := Lib.hid (HAl.out.trans (hb2.mono HW1.out))
  have hc2 : w2.cell? ⟨b, o, none⟩ = some (st k y).val := by
    have := HS2.out.at_ HOk.out
    unfold StAt at this
    rw [HA.out] at this
    dsimp only at this
    rw [HK.out, if_pos rfl] at this
    exact this
  have HSz2 := Lib.hid (hb2.size)
  have hf2 : w2.frozen? ⟨b, o, none⟩ = false := by
    have := HS2.out.thaw ⟨k, y, r, c⟩ o
    rw [HA.out] at this
    exact this
  clear hb2 HNa HCl HAt HS HOw HR HRow
  obtain ⟨V0, hV0⟩ : ∃ V0, (st k y).val = V0 := ⟨_, rfl⟩
  have HV0 := Lib.hid hV0
  rw [hV0] at hc2 HOw2
  clear hV0
  go_wp2_with (refine wpList_append_sl 26 3 8 (.int .i64 0) Try.underlying26 info3 rfl (by decide) rfl (.tmp 34) (.tmp 35) rfl base V0 lst.length C _ _ rfl HOw2.out sp cap rfl HLr.out HR2.out (one_ints lr) (by have := HLen.out; omega) (by have := HBs.out; have := HW1.out; have := HSz2.out; omega) ?_; intro v' w3 ho3 hg3; obtain ⟨sv, cv, rfl, _⟩ := Sl.all1 ho3; have HO3 := Lib.hid ho3; have HG3 := Lib.hid hg3; have HS3 := Lib.hid (HS2.out.grown hg3 (own_not HOw2.out)); have hc3 : w3.cell? ⟨b, o, none⟩ = some V0 := (by have := HS3.out.at_ HOk.out; unfold StAt at this; rw [HA.out] at this; dsimp only at this; rw [HK.out, if_pos rfl, HV0.out] at this; exact this); have hf3 : w3.frozen? ⟨b, o, none⟩ = false := (by have := HS3.out.thaw ⟨k, y, r, c⟩ o; rw [HA.out] at this; exact this); clear ho3 hg3 hc2 hf2)
  have hset := HS3.out.set HOk.out (j := 0) (v := .slice sv (lst.length + C) cv) (s' := ⟨(st k y).r, (st k y).c, .slice sv (lst.length + C) cv⟩) (by unfold St.set; rw [HK.out, if_pos rfl]; exact ⟨rfl, rfl⟩)
  have hown := owns_setR (j := o) (u := .slice sv (lst.length + C) cv) HO3.out HS3.out ⟨k, y, r, c⟩
  have hfr : Fr (fun j => j = g ∨ j = lb ∨ (st k y).val.ownBlock = some j) w.heap.size w (w3.setCell ⟨b, o, none⟩ (.slice sv (lst.length + C) cv)) := by
    have hor := addrR_or g lb ⟨k, y, r, c⟩
    rw [HA.out] at hor
    refine ((Fr.of_below HFr.out (Nat.le_refl _)).trans (Fr.grown HG3.out HFr.out.size fun r e => Or.inr (Or.inr (Or.inr (by rw [HV0.out]; exact e))))).trans (Fr.setCell _ (Or.inr ?_))
    rcases hor with e | e
    · exact Or.inl e
    · exact Or.inr (Or.inl e)
  rw [HA.out] at hset hown
  dsimp only [Nat.add_zero] at hset hown
  go_end0
  refine ⟨⟨_, rfl⟩, .slice sv (lst.length + C) cv, ?_, ?_, hfr⟩
  · dsimp only
    rw [HK.out, if_pos rfl, if_pos rfl]
    exact hset
  · rw [HCn.out, List.map_append]
    exact hown
end Go.Proofs.Ytkfkjapkcjidnaa.Wg
namespace Go.Proofs.Ytkfkjapkcjidnaa.Wg
set_option maxRecDepth 100000
open Go.ChangeShapes Go.WideShapes Go.ChangeAt Go.RowKit Go.Shelf Go.Proofs.Ytkfkjapkcjidnaa.Tn
attribute [local go_sem] Oper.semAt_some

/-! ### a matrix gets one more row -/
theorem gives_storeI {a : Act} {o : Oper} {W : World} {G : Value → World → Prop} (x y : Operand) (ho : o.op = .store 3 x y) (p : Addr) (hx : a.eval x = .pointer (some p)) (z : Int) (hy : a.eval y = .int .i64 z) (u : Value) (hc : W.cell? p = some u) (hf : W.frozen? p = false) (hG : G undef (W.setCell p (.int .i64 z))) : Gives Try.prog o a W G := by
  unfold Gives execOp
  simp only [ho, hx, hy]
  simp [go_sem, hc, hf, hG]
theorem run_mf0 (b o : Nat) (W : World) : (Instr.fieldAt 28 (.pointer (some ⟨b, o, none⟩)) 0).run Try.prog W = .ok (.pointer (some ⟨b, o, none⟩)) W := by kernel_rfl
theorem exec_mf0 {a : Act} {o : Oper} {W : World} (x : Operand) (ho : o.op = .fieldAddr 28 x 0) (b q : Nat) (hx : a.eval x = .pointer (some ⟨b, q, none⟩)) : (execOp a.eval o).run Try.prog W = .ok (.value (.pointer (some ⟨b, q, none⟩))) W := by
  unfold execOp
  simp only [ho, hx, Sem.run_bind, run_mf0, Result.andThen_ok, Sem.run_pure]
set_option maxHeartbeats 8000000 in
theorem addM_any (w : World) (n0 g lb L : Nat) (h : Hr) (st : Nat → Nat → St) (x : Bk) (hL : L ≤ 4) (hS : RdG w g lb L h st) (hx : FnOK n0 w x) (hb : OkL L x.b) (hk : isVec x.b.k = false) (base : Nat) (lst lr : List Int) (hown : w.ownsRow base 3 1 (st x.b.k x.b.y).val lst.length (lst.map fun v => Value.int .i64 v)) (hbs : base ≤ w.heap.size)
    (q : Nat) (hq : (st x.b.k x.b.y).r = (q : Int)) (hq1 : q ≤ 100000) (sp : Option Addr) (cap C : Nat) (hr : Sl w sp cap (lr.map fun v => Value.int .i64 v)) (hsp : ∀ c o, sp = some ⟨c, o, none⟩ → c ≠ g ∧ c ≠ lb) (hC : lr.length = C) (hlen : lst.length + C ≤ 100000) :
    Calls Try.prog 51 #[x.val, .pointer (some ⟨g, 0, none⟩), .slice sp C cap] w (AddPost w g lb L h st x.b base lst lr) := by
  have hal : Below w.heap.size w (w.alloc (.cells x.cells 95)) := (Below.refl _ _).alloc (Nat.le_refl _) _
  have HL := Lib.hid hL
  have HLt := Lib.hid hS.lts
  have HF := Lib.hid (hx.later hal)
  have hnil := ((clos_ofR hS hL hx hb).2 hk).2
  have HOk := Lib.hid hb
  have HS := Lib.hid (hS.later hal)
  have HOw := Lib.hid (owns_below hown hal)
  have HR := Lib.hid (Sl.below hr (Nat.le_refl _) hal)
  have HRow := Lib.hid (heap_alloc_new w (.cells x.cells 95))
  have HW1 : Hid (w.heap.size ≤ (w.alloc (.cells x.cells 95)).heap.size) := Lib.hid hal.size
  have HAl := Lib.hid hal
  have HLr : Hid ((lr.map fun v => Value.int .i64 v).length = C) := Lib.hid (by rw [List.length_map]; exact hC)
  have HCn := Lib.hid hC
  have HLen := Lib.hid hlen
  have HBs := Lib.hid hbs
  have HK := Lib.hid hk
  have HQ := Lib.hid hq
  have HQ1 := Lib.hid hq1
  have hmc := ((clos_ofR (hS.later hal) hL (hx.later hal) hb).2 hk).1
  have h0 := neM_no
  have h1 := neM_yes
  clear hal hS hx hb hown hr hC hlen hbs hk hq hq1 hL
  obtain ⟨⟨k, y, r, c⟩, vf, mf⟩ := x
  dsimp only at hnil hmc
  subst hnil
  dsimp only [Bk.val, Bk.cells, blC] at HF HS HOw HR HRow HW1 HAl HOk HK HQ hmc ⊢
  obtain ⟨A, hA⟩ : ∃ A : Nat × Nat, addrR g lb ⟨k, y, r, c⟩ = A := ⟨_, rfl⟩
  have HA := Lib.hid hA
  rw [hA] at hmc
  clear hA
  obtain ⟨b, o⟩ := A
  dsimp only at hmc
  obtain ⟨f, cp, rfl, hcf, hcl⟩ := hmc
  have HCl := Lib.hid hcl
  clear hcl
  go_enter Try.func51, Try.ntmps51
  go_wp2_with fail
  refine (HCl.out _ (Below.refl _ _)).mono ?_
  rintro e w2 ⟨rfl, qd, rfl⟩
  clear HCl hcf
  go_wp2_with fail
  have hbl : b < w.heap.size := by
    have := addrR_or g lb ⟨k, y, r, c⟩
    rw [HA.out] at this
    have h2 := HLt.out
    dsimp only at this
    omega
  obtain ⟨W0, hW0⟩ : ∃ W0, (w.alloc (.cells #[.int .i64 (k : Int), .int .i64 (y : Int), .int .i64 (r : Int), .int .i64 (c : Int), .nilFunc, .func (.func f) #[] cp] 95)).drewN qd = W0 := ⟨_, rfl⟩
  have hS0 : RdG W0.drew g lb L h st := by rw [← hW0]; exact HS.out.over rfl rfl
  have hO0 : W0.drew.ownsRow base 3 1 (st k y).val lst.length (lst.map fun v => Value.int .i64 v) := by rw [← hW0]; exact HOw.out
  have hR0 : Sl W0.drew sp cap (lr.map fun v => Value.int .i64 v) := by rw [← hW0]; exact ⟨HR.out.le, HR.out.max, HR.out.nul, HR.out.lies⟩
  have hrow : W0.drew.heap[w.heap.size]? = some (.cells #[.int .i64 (k : Int), .int .i64 (y : Int), .int .i64 (r : Int), .int .i64 (c : Int), .nilFunc, .func (.func f) #[] cp] 95 (0, 0)) := by rw [← hW0]; exact HRow.out
  have hF0 : FnOK n0 W0.drew ⟨⟨k, y, r, c⟩, .nilFunc, .func (.func f) #[] cp⟩ := by rw [← hW0]; exact HF.out
  have hB0 : Below w.heap.size w W0.drew := by rw [← hW0]; exact ⟨HAl.out.os, HAl.out.tape, HAl.out.output, HAl.out.size, HAl.out.block⟩
  have hset := hS0.set HOk.out (j := 0) (v := .int .i64 ((q : Int) + 1)) (s' := ⟨(st k y).r + 1, (st k y).c, (st k y).val⟩) (by unfold St.set; rw [HK.out, if_neg (by decide)]; exact Or.inl ⟨rfl, _, by rw [HQ.out], rfl⟩)
  have hOs := owns_setR (j := o) (u := .int .i64 ((q : Int) + 1)) hO0 hS0 ⟨k, y, r, c⟩
  have hFs := hF0.set (j := o) (v := .int .i64 ((q : Int) + 1)) hS0
  have hat := hS0.at_ HOk.out
  have hth := hS0.thaw ⟨k, y, r, c⟩ o
  rw [HA.out] at hset hOs hFs hat hth
  dsimp only [Nat.add_zero] at hset hOs hFs hat hth
  unfold StAt at hat
  rw [HK.out, if_neg (by decide), HQ.out] at hat
  have hrows : (W0.drew.setCell ⟨b, o, none⟩ (.int .i64 ((q : Int) + 1))).heap[w.heap.size]? = some (.cells #[.int .i64 (k : Int), .int .i64 (y : Int), .int .i64 (r : Int), .int .i64 (c : Int), .nilFunc, .func (.func f) #[] cp] 95 (0, 0)) := (heap_setCell_far (by omega)).trans hrow
  have hRs : Sl (W0.drew.setCell ⟨b, o, none⟩ (.int .i64 ((q : Int) + 1))) sp cap (lr.map fun v => Value.int .i64 v) := ⟨hR0.le, hR0.max, hR0.nul, fun h0 => by
    obtain ⟨c', o', e, hl⟩ := hR0.lies h0
    refine ⟨c', o', e, fun i v hv => (World.cell?_of_block (heap_setCell_far ?_)).trans (hl i v hv)⟩
    have h2 := hsp c' o' e
    have h3 := addrR_or g lb ⟨k, y, r, c⟩
    rw [HA.out] at h3
    dsimp only at h3 ⊢
    omega⟩
  rw [hW0]
  clear hW0 HS HOw HR HRow HF HAl
  have HAt := Lib.hid hat
  have HTh := Lib.hid hth
  have HRow := Lib.hid hrow
  have HRows := Lib.hid hrows
  have HRs := Lib.hid hRs
  have HSs := Lib.hid hset
  have HOs := Lib.hid hOs
  have HFs := Lib.hid hFs
  have HB0 := Lib.hid hB0
  have HBl := Lib.hid hbl
  clear hat hth hrow hrows hRs hset hOs hFs hB0 hbl hS0 hO0 hR0 hF0
  refine wp_region_specD (C := fun W => W = W0.drew ∨ W = W0.drew.setCell ⟨b, o, none⟩ (.int .i64 ((q : Int) + 1))) (Pre := fun j W => (j = 5 ∨ j = 11) → W = W0.drew) (Le := fun j A B => (j ≠ 11 → B = A) ∧ (j = 11 → B = W0.drew.setCell ⟨b, o, none⟩ (.int .i64 ((q : Int) + 1)))) 12
    (fun _ j W v => (j ≠ 11 → v = ([.pointer (some ⟨b, o, none⟩), .pointer (some ⟨b, o, none⟩), .pointer (some ⟨b, o, none⟩), .pointer (some ⟨b, o, none⟩), .pointer (some ⟨b, o, none⟩), .int .i64 q, .int .i64 ((q : Int) + 1), .pointer (some ⟨w.heap.size, 3, none⟩), .int .i64 c, .pointer (some ⟨b, o, none⟩), .pointer (some ⟨b, o, none⟩)] : List Value).getD j undef) ∧ (j = 11 → W = W0.drew.setCell ⟨b, o, none⟩ (.int .i64 ((q : Int) + 1))))
    (by kernel_rfl) (by kernel_rfl) (Or.inl rfl) (fun _ _ _ _ _ _ h => h) (fun _ j k' A B v hne hl h => ⟨h.1, fun e => by subst e; exact (hl.1 hne.symm).trans (h.2 rfl)⟩) (fun j k' A B hne hD hl h e => by
      by_cases hk' : k' = 11
      · subst hk'
        rcases e with rfl | rfl
        · exact absurd rfl (hD _ rfl ⟨5, .phase⟩ (by simp) (by kernel_rfl))
        · exact absurd rfl hne
      · exact (hl.1 hk').trans (h e)) (fun _ _ => rfl)
    (fun j v => j ≠ 11 → v = ([.pointer (some ⟨b, o, none⟩), .pointer (some ⟨b, o, none⟩), .pointer (some ⟨b, o, none⟩), .pointer (some ⟨b, o, none⟩), .pointer (some ⟨b, o, none⟩), .int .i64 q, .int .i64 ((q : Int) + 1), .pointer (some ⟨w.heap.size, 3, none⟩), .int .i64 c, .pointer (some ⟨b, o, none⟩), .pointer (some ⟨b, o, none⟩)] : List Value).getD j undef) (fun _ _ _ _ h => h.1) (fun j => ([.pointer (some ⟨b, o, none⟩), .pointer (some ⟨b, o, none⟩), .pointer (some ⟨b, o, none⟩), .pointer (some ⟨b, o, none⟩), .pointer (some ⟨b, o, none⟩), .int .i64 q, .int .i64 ((q : Int) + 1), .pointer (some ⟨w.heap.size, 3, none⟩), .int .i64 c, .pointer (some ⟨b, o, none⟩), .pointer (some ⟨b, o, none⟩)] : List Value).getD j undef) (fun _ _ => rfl) ?_ ?_
  · intro u hu
    have e0 : u 0 = .pointer (some ⟨b, o, none⟩) := hu 0 (by decide)
    have e1 : u 1 = .pointer (some ⟨b, o, none⟩) := hu 1 (by decide)
    have e2 : u 2 = .pointer (some ⟨b, o, none⟩) := hu 2 (by decide)
    have e3 : u 3 = .pointer (some ⟨b, o, none⟩) := hu 3 (by decide)
    have e4 : u 4 = .pointer (some ⟨b, o, none⟩) := hu 4 (by decide)
    have e5 : u 5 = .int .i64 q := hu 5 (by decide)
    have e6 : u 6 = .int .i64 ((q : Int) + 1) := hu 6 (by decide)
    have e7 : u 7 = .pointer (some ⟨w.heap.size, 3, none⟩) := hu 7 (by decide)
    have e8 : u 8 = .int .i64 c := hu 8 (by decide)
    have e9 : u 9 = .pointer (some ⟨b, o, none⟩) := hu 9 (by decide)
    have e10 : u 10 = .pointer (some ⟨b, o, none⟩) := hu 10 (by decide)
    simp only [List.take_succ_cons, List.take_zero]
    refine Tn.spec_cons_at (fun Y hC hP hd => ⟨by rfl, Tn.gives_val (.pointer (some ⟨b, o, none⟩)) Y (by rfl) ⟨hC, ⟨fun _ => rfl, fun e => by cases e⟩, fun _ => rfl, fun e => by cases e⟩⟩) ?_
    simp only [Act.put, List.setIfInBounds_toArray, List.set_cons_succ, List.set_cons_zero, Nat.reduceAdd]
    rw [e0]
    refine Tn.spec_cons_at (fun Y hC hP hd => ⟨by rfl, Tn.gives_val (.pointer (some ⟨b, o, none⟩)) Y (by rfl) ⟨hC, ⟨fun _ => rfl, fun e => by cases e⟩, fun _ => rfl, fun e => by cases e⟩⟩) ?_
    simp only [Act.put, List.setIfInBounds_toArray, List.set_cons_succ, List.set_cons_zero, Nat.reduceAdd]
    rw [e1]
    refine Tn.spec_cons_at (fun Y hC hP hd => ⟨by rfl, Tn.gives_val (.pointer (some ⟨b, o, none⟩)) Y (by rfl) ⟨hC, ⟨fun _ => rfl, fun e => by cases e⟩, fun _ => rfl, fun e => by cases e⟩⟩) ?_
    simp only [Act.put, List.setIfInBounds_toArray, List.set_cons_succ, List.set_cons_zero, Nat.reduceAdd]
    rw [e2]
    refine Tn.spec_cons_at (fun Y hC hP hd => ⟨by rfl, Tn.gives_val (.pointer (some ⟨b, o, none⟩)) Y (exec_nilA (.tmp 17) rfl ⟨b, o, none⟩ rfl) ⟨hC, ⟨fun _ => rfl, fun e => by cases e⟩, fun _ => rfl, fun e => by cases e⟩⟩) ?_
    simp only [Act.put, List.setIfInBounds_toArray, List.set_cons_succ, List.set_cons_zero, Nat.reduceAdd]
    rw [e3]
    refine Tn.spec_cons_at (fun Y hC hP hd => ⟨by rfl, Tn.gives_val (.pointer (some ⟨b, o, none⟩)) Y (exec_mf0 (.tmp 18) rfl b o rfl) ⟨hC, ⟨fun _ => rfl, fun e => by cases e⟩, fun _ => rfl, fun e => by cases e⟩⟩) ?_
    simp only [Act.put, List.setIfInBounds_toArray, List.set_cons_succ, List.set_cons_zero, Nat.reduceAdd]
    rw [e4]
    refine Tn.spec_cons_at (fun Y hC hP hd => ⟨by rfl, Tn.gives_val (.int .i64 q) Y (Bp.exec_load1 3 (.tmp 19) rfl ⟨b, o, none⟩ rfl _ (by rw [hP (Or.inl rfl)]; exact HAt.out.1) _ Try.underlying3 rfl) ⟨hC, ⟨fun _ => rfl, fun e => by cases e⟩, fun _ => rfl, fun e => by cases e⟩⟩) ?_
    simp only [Act.put, List.setIfInBounds_toArray, List.set_cons_succ, List.set_cons_zero, Nat.reduceAdd]
    rw [e5]
    refine Tn.spec_cons_at (fun Y hC hP hd => ⟨by rfl, Tn.gives_val (.int .i64 ((q : Int) + 1)) Y (exec_bin .add (.tmp 20) (.const (.int .i64 1)) rfl rfl q 1 _ rfl rfl (by have := HQ1.out; have hw : IntKind.i64.wrap ((q : Int) + 1) = (q : Int) + 1 := IntWalk.i64_in _ (by omega); simp [go_sem, hw])) ⟨hC, ⟨fun _ => rfl, fun e => by cases e⟩, fun _ => rfl, fun e => by cases e⟩⟩) ?_
    simp only [Act.put, List.setIfInBounds_toArray, List.set_cons_succ, List.set_cons_zero, Nat.reduceAdd]
    rw [e6]
    refine Tn.spec_cons_at (fun Y hC hP hd => ⟨by rfl, Tn.gives_val (.pointer (some ⟨w.heap.size, 3, none⟩)) Y (exec_bf3 (.tmp 3) rfl w.heap.size rfl) ⟨hC, ⟨fun _ => rfl, fun e => by cases e⟩, fun _ => rfl, fun e => by cases e⟩⟩) ?_
    simp only [Act.put, List.setIfInBounds_toArray, List.set_cons_succ, List.set_cons_zero, Nat.reduceAdd]
    rw [e7]
    refine Tn.spec_cons_at (fun Y hC hP hd => ⟨by rfl, Tn.gives_val (.int .i64 c) Y (Bp.exec_load1 3 (.tmp 22) rfl ⟨w.heap.size, 3, none⟩ rfl _ (by rcases hC with rfl | rfl <;> first | (rw [cell_of_row _ _ _ _ _ _ HRow.out]; rfl) | (rw [cell_of_row _ _ _ _ _ _ HRows.out]; rfl)) _ Try.underlying3 rfl) ⟨hC, ⟨fun _ => rfl, fun e => by cases e⟩, fun _ => rfl, fun e => by cases e⟩⟩) ?_
    simp only [Act.put, List.setIfInBounds_toArray, List.set_cons_succ, List.set_cons_zero, Nat.reduceAdd]
    rw [e8]
    refine Tn.spec_cons_at (fun Y hC hP hd => ⟨by rfl, Tn.gives_val (.pointer (some ⟨b, o, none⟩)) Y (exec_nilA (.tmp 15) rfl ⟨b, o, none⟩ rfl) ⟨hC, ⟨fun _ => rfl, fun e => by cases e⟩, fun _ => rfl, fun e => by cases e⟩⟩) ?_
    simp only [Act.put, List.setIfInBounds_toArray, List.set_cons_succ, List.set_cons_zero, Nat.reduceAdd]
    rw [e9]
    refine Tn.spec_cons_at (fun Y hC hP hd => ⟨by rfl, Tn.gives_val (.pointer (some ⟨b, o, none⟩)) Y (exec_mf0 (.tmp 24) rfl b o rfl) ⟨hC, ⟨fun _ => rfl, fun e => by cases e⟩, fun _ => rfl, fun e => by cases e⟩⟩) ?_
    simp only [Act.put, List.setIfInBounds_toArray, List.set_cons_succ, List.set_cons_zero, Nat.reduceAdd]
    rw [e10]
    refine Tn.spec_cons_at (fun Y hC hP hd => ⟨by rfl, gives_storeI (.tmp 25) (.tmp 21) rfl ⟨b, o, none⟩ rfl ((q : Int) + 1) rfl (.int .i64 q) (by rw [hP (Or.inr rfl)]; exact HAt.out.1) (by rw [hP (Or.inr rfl)]; exact HTh.out) ⟨Or.inr (by rw [hP (Or.inr rfl)]), ⟨fun e => absurd rfl e, fun _ => by rw [hP (Or.inr rfl)]⟩, fun e => absurd rfl e, fun _ => by rw [hP (Or.inr rfl)]⟩⟩) ?_
    exact Tn.spec_nil
  · intro u Y hu hC hP
    have hY := (hP 11 (by decide)).2 rfl
    subst hY
    have e0 : u 0 = .pointer (some ⟨b, o, none⟩) := hu 0 (by decide)
    have e1 : u 1 = .pointer (some ⟨b, o, none⟩) := hu 1 (by decide)
    have e2 : u 2 = .pointer (some ⟨b, o, none⟩) := hu 2 (by decide)
    have e3 : u 3 = .pointer (some ⟨b, o, none⟩) := hu 3 (by decide)
    have e4 : u 4 = .pointer (some ⟨b, o, none⟩) := hu 4 (by decide)
    have e5 : u 5 = .int .i64 q := hu 5 (by decide)
    have e6 : u 6 = .int .i64 ((q : Int) + 1) := hu 6 (by decide)
    have e7 : u 7 = .pointer (some ⟨w.heap.size, 3, none⟩) := hu 7 (by decide)
    have e8 : u 8 = .int .i64 c := hu 8 (by decide)
    have e9 : u 9 = .pointer (some ⟨b, o, none⟩) := hu 9 (by decide)
    have e10 : u 10 = .pointer (some ⟨b, o, none⟩) := hu 10 (by decide)
    simp only [List.take_succ_cons, List.take_zero, List.drop_succ_cons, List.drop_zero, Tn.putAll, Act.put, List.setIfInBounds_toArray, List.set_cons_succ, List.set_cons_zero, Nat.reduceAdd]
    rw [e0, e1, e2, e3, e4, e5, e6, e7, e8, e9, e10]
    clear hu hC hP e0 e1 e2 e3 e4 e5 e6 e7 e8 e9 e10
    have hsz1 : (W0.drew.setCell ⟨b, o, none⟩ (.int .i64 ((q : Int) + 1))).heap.size = W0.drew.heap.size := by simp [World.setCell]
    have HB1 : Hid (Fr (fun j => j = g ∨ j = lb ∨ (st k y).val.ownBlock = some j) w.heap.size w (W0.drew.setCell ⟨b, o, none⟩ (.int .i64 ((q : Int) + 1)))) := Lib.hid ((Fr.of_below HB0.out (Nat.le_refl _)).trans (Fr.setCell _ (Or.inr (by
      have hor := addrR_or g lb ⟨k, y, r, c⟩
      rw [HA.out] at hor
      rcases hor with e | e
      · exact Or.inl e
      · exact Or.inr (Or.inl e)))))
    have HSz : Hid (w.heap.size ≤ (W0.drew.setCell ⟨b, o, none⟩ (.int .i64 ((q : Int) + 1))).heap.size) := Lib.hid (by rw [hsz1]; exact HB0.out.size)
    obtain ⟨W1, hW1⟩ : ∃ W1, W0.drew.setCell ⟨b, o, none⟩ (.int .i64 ((q : Int) + 1)) = W1 := ⟨_, rfl⟩
    rw [hW1] at HB1 HSz HSs HOs HFs HRows HRs ⊢
    clear hsz1 hW1 HAt HTh HRow HB0
    have hset := HSs.out.set HOk.out (j := 1) (v := .int .i64 (c : Int)) (s' := ⟨(st k y).r + 1, c, (st k y).val⟩) (by unfold St.set; rw [HK.out, if_neg (by decide), putS_same]; exact Or.inr (Or.inl ⟨rfl, _, rfl, rfl⟩))
    have hOs := owns_setR (j := o + 1) (u := .int .i64 (c : Int)) HOs.out HSs.out ⟨k, y, r, c⟩
    have hFs := HFs.out.set (j := o + 1) (v := .int .i64 (c : Int)) HSs.out
    have hat := HSs.out.at_ HOk.out
    have hth := HSs.out.thaw ⟨k, y, r, c⟩ (o + 1)
    dsimp only at hset hOs hFs hat hth
    rw [HA.out] at hset hOs hFs hat hth
    rw [putS_twice] at hset
    dsimp only at hset hOs hFs hat hth
    unfold StAt at hat
    rw [HK.out, if_neg (by decide), putS_same] at hat
    have hc1 := hat.2.1
    dsimp only at hc1
    have hrows : (W1.setCell ⟨b, o + 1, none⟩ (.int .i64 (c : Int))).heap[w.heap.size]? = some (.cells #[.int .i64 (k : Int), .int .i64 (y : Int), .int .i64 (r : Int), .int .i64 (c : Int), .nilFunc, .func (.func f) #[] cp] 95 (0, 0)) := (heap_setCell_far (by have := HBl.out; omega)).trans HRows.out
    have hRs : Sl (W1.setCell ⟨b, o + 1, none⟩ (.int .i64 (c : Int))) sp cap (lr.map fun v => Value.int .i64 v) := ⟨HRs.out.le, HRs.out.max, HRs.out.nul, fun h0 => by
      obtain ⟨c', o', e, hl⟩ := HRs.out.lies h0
      refine ⟨c', o', e, fun i v hv => (World.cell?_of_block (heap_setCell_far ?_)).trans (hl i v hv)⟩
      have h2 := hsp c' o' e
      have h3 := addrR_or g lb ⟨k, y, r, c⟩
      rw [HA.out] at h3
      dsimp only at h3 ⊢
      omega⟩
    have hFr : Fr (fun j => j = g ∨ j = lb ∨ (st k y).val.ownBlock = some j) w.heap.size w (W1.setCell ⟨b, o + 1, none⟩ (.int .i64 (c : Int))) := HB1.out.trans (Fr.setCell _ (Or.inr (by
      have hor := addrR_or g lb ⟨k, y, r, c⟩
      rw [HA.out] at hor
      rcases hor with e | e
      · exact Or.inl e
      · exact Or.inr (Or.inl e))))
    have hsz2 : (W1.setCell ⟨b, o + 1, none⟩ (.int .i64 (c : Int))).heap.size = W1.heap.size := by simp [World.setCell]
    have HS2 := Lib.hid hset
    have HO2 := Lib.hid hOs
    have HF2 := Lib.hid hFs
    have HFr2 := Lib.hid hFr
    have HRw2 := Lib.hid hrows
    have HR2 := Lib.hid hRs
    have HSz2 : Hid (w.heap.size ≤ (W1.setCell ⟨b, o + 1, none⟩ (.int .i64 (c : Int))).heap.size) := Lib.hid (by rw [hsz2]; exact HSz.out)
    clear hset hOs hFs hat hrows hRs hFr hsz2 HFs HRows HRs HSs HOs HB1 HSz
    go_upto_region 4 with fail
    obtain ⟨W2, hW2⟩ : ∃ W2, W1.setCell ⟨b, o + 1, none⟩ (.int .i64 (c : Int)) = W2 := ⟨_, rfl⟩
    rw [hW2] at HS2 HO2 HF2 HFr2 HRw2 HR2 HSz2 ⊢
    clear hW2 hc1 hth
    have HCl := Lib.hid (((clos_ofR HS2.out HL.out HF2.out HOk.out).2 HK.out).1)
    dsimp only at HCl
    rw [HA.out] at HCl
    dsimp only at HCl
    go_wp2_with (first
      | (refine wpList_load_row rfl 95 (.tmp 3) rfl w.heap.size rfl 95 #[.int .i64 (k : Int), .int .i64 (y : Int), .int .i64 (r : Int), .int .i64 (c : Int), .nilFunc, .func (.func f) #[] cp] (0, 0) _ HRw2.out Try.underlying95 rfl size_blk ?_)
      | (go_at_call 41; refine (numbersM_any W2 g k y r c (.func (.func f) #[] cp) b o HCl.out).mono ?_; rintro e w3 ⟨rfl, hb3⟩; have HS3 := Lib.hid (HS2.out.later hb3); have HO3 := Lib.hid (owns_below HO2.out hb3); have HR3 := Lib.hid (Sl.below HR2.out (Nat.le_refl _) hb3); have HFr3 := Lib.hid (HFr2.out.trans (Fr.of_below hb3 HSz2.out)); have HSz3 : Hid (w.heap.size ≤ w3.heap.size) := Lib.hid (Nat.le_trans HSz2.out hb3.size); have hc3 : w3.cell? ⟨b, o + 2, none⟩ = some (st k y).val := (by have := HS3.out.at_ HOk.out; unfold StAt at this; rw [HA.out] at this; dsimp only at this; rw [HK.out, if_neg (by decide), putS_same] at this; exact this.2.2); have hf3 : w3.frozen? ⟨b, o + 2, none⟩ = false := (by have := HS3.out.thaw ⟨k, y, r, c⟩ (o + 2); rw [HA.out] at this; exact this); obtain ⟨V0, hV0⟩ : ∃ V0, (st k y).val = V0 := ⟨_, rfl⟩; have HV0 := Lib.hid hV0; rw [hV0] at hc3 HO3; clear hb3 hV0)
      | (refine wpList_append_sl 26 3 8 (.int .i64 0) Try.underlying26 info3 rfl (by decide) rfl (.tmp 34) (.tmp 35) rfl base V0 lst.length C _ _ rfl HO3.out sp cap rfl HLr.out HR3.out (one_ints lr) (by have := HLen.out; omega) (by have := HBs.out; have := HSz3.out; omega) ?_; intro v' w4 ho4 hg4; obtain ⟨sv, cv, rfl, _⟩ := Sl.all1 ho4; have HO4 := Lib.hid ho4; have HG4 := Lib.hid hg4; have HS4 := Lib.hid (HS3.out.grown hg4 (own_not HO3.out)); have hc4 : w4.cell? ⟨b, o + 2, none⟩ = some V0 := (by have := HS4.out.at_ HOk.out; unfold StAt at this; rw [HA.out] at this; dsimp only at this; rw [HK.out, if_neg (by decide), putS_same] at this; exact this.2.2.trans (by rw [HV0.out])); have hf4 : w4.frozen? ⟨b, o + 2, none⟩ = false := (by have := HS4.out.thaw ⟨k, y, r, c⟩ (o + 2); rw [HA.out] at this; exact this); clear ho4 hg4 hc3 hf3))
    have hset := HS4.out.set HOk.out (j := 2) (v := .slice sv (lst.length + C) cv) (s' := ⟨(st k y).r + 1, c, .slice sv (lst.length + C) cv⟩) (by unfold St.set; rw [HK.out, if_neg (by decide), putS_same]; exact Or.inr (Or.inr ⟨rfl, rfl⟩))
    have hown := owns_setR (j := o + 2) (u := .slice sv (lst.length + C) cv) HO4.out HS4.out ⟨k, y, r, c⟩
    have hfr : Fr (fun j => j = g ∨ j = lb ∨ (st k y).val.ownBlock = some j) w.heap.size w (w4.setCell ⟨b, o + 2, none⟩ (.slice sv (lst.length + C) cv)) := by
      have hor := addrR_or g lb ⟨k, y, r, c⟩
      rw [HA.out] at hor
      refine (HFr3.out.trans (Fr.grown HG4.out HSz3.out fun r e => Or.inr (Or.inr (Or.inr (by rw [HV0.out]; exact e))))).trans (Fr.setCell _ (Or.inr ?_))
      rcases hor with e | e
      · exact Or.inl e
      · exact Or.inr (Or.inl e)
    rw [HA.out] at hset hown
    rw [putS_twice] at hset
    dsimp only at hset hown
    go_end0
    refine ⟨⟨_, rfl⟩, .slice sv (lst.length + C) cv, ?_, ?_, hfr⟩
    · dsimp only
      rw [HK.out, if_neg (by decide), if_neg (by decide)]
      exact hset
    · rw [HCn.out, List.map_append]
      exact hown
end Go.Proofs.Ytkfkjapkcjidnaa.Wg
