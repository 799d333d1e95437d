import Derived.Test.YtdffbjjiojheoaaWj
import Derived.Test.YtdffbjjiojheoaaTb
namespace Go.Proofs.Ytdffbjjiojheoaa.Wg
set_option maxRecDepth 100000
open Go.ChangeShapes Go.WideShapes Go.ChangeAt Go.RowKit Go.Shelf Go.Proofs.Ytdffbjjiojheoaa.Tn

/-! ### models: what is wrong with one -/
/-- a matrix, or a vector (of no rows and columns of its own) -/
structure Mt where
  r : Int
  c : Int
  l : List Int
structure Md where
  cfg : Cfg
  al : List Int
  ps : List (Int × Int)
  em : Mt
  n : Nat
  ly : Nat → Nat → Mt
  nm : List Int
  ou : Mt
/-- a part of a model -/
def Md.part (m : Md) (k y : Nat) : Mt := if k = 1 then m.em else if k = 11 then ⟨0, 0, m.nm⟩ else if k = 12 then m.ou else m.ly y k
/-- are a part's sizes as told? -/
def szB (b : Bl) (p : Mt) : Int := if isVec b.k then (if p.l.length = b.c then 0 else 13) else if p.r = b.r ∧ p.c = b.c then 0 else 13
def nmB (b : Bl) (p : Mt) : Int := if isVec b.k then chkV p.l else chkM p.r p.c p.l
def partE (b : Bl) (p : Mt) : Int := if szB b p ≠ 0 then szB b p else nmB b p
def partsE (m : Md) : List Bl → Int
  | [] => 0
  | b :: l => if partE b (m.part b.k b.y) ≠ 0 then partE b (m.part b.k b.y) else partsE m l
/-- what is wrong with a model ahead of its parts -/
def Md.headE (m : Md) : Int := if m.cfg.chk ≠ 0 then m.cfg.chk else if (Bp.newD m.al m.ps).1 ≠ 0 then (Bp.newD m.al m.ps).1 else if ((Bp.newD m.al m.ps).2.length : Int) ≠ m.cfg.v ∨ (m.n : Int) ≠ m.cfg.l then 13 else 0
def Md.chk (m : Md) : Int := if m.headE ≠ 0 then m.headE else partsE m m.cfg.blks
/-! ### models in memory -/
/-- a part at a place -/
def PartAt (W : World) (b o k : Nat) (p : Mt) : Prop :=
  if isVec k then ∃ sp cap, W.cell? ⟨b, o, none⟩ = some (.slice sp p.l.length cap) ∧ Nums W sp cap p.l
  else W.cell? ⟨b, o, none⟩ = some (.int .i64 p.r) ∧ W.cell? ⟨b, o + 1, none⟩ = some (.int .i64 p.c) ∧ ∃ sp cap, W.cell? ⟨b, o + 2, none⟩ = some (.slice sp p.l.length cap) ∧ Nums W sp cap p.l
/-- a model's cells -/
structure Wv where
  c : Cfg
  sa : Option Addr
  na : Nat
  ca : Nat
  sp : Option Addr
  np : Nat
  cp : Nat
  er : Int
  ec : Int
  se : Option Addr
  ne : Nat
  ce : Nat
  sl : Option Addr
  nl : Nat
  cl : Nat
  sn : Option Addr
  nn : Nat
  cn : Nat
  xr : Int
  xc : Int
  so : Option Addr
  no : Nat
  co : Nat
def Wv.cells (v : Wv) : Array Value := #[.int .i64 v.c.v, .int .i64 v.c.d, .int .i64 v.c.h, .int .i64 v.c.l, .int .i64 v.c.x, .int .i64 v.c.i, .slice v.sa v.na v.ca, .slice v.sp v.np v.cp, .int .i64 v.er, .int .i64 v.ec, .slice v.se v.ne v.ce, .slice v.sl v.nl v.cl, .slice v.sn v.nn v.cn, .int .i64 v.xr, .int .i64 v.xc, .slice v.so v.no v.co]
/-- so many layers at an address -/
def LaysAt (W : World) (sl : Option Addr) (n : Nat) (ly : Nat → Nat → Mt) : Prop := 0 < n → ∃ b o, sl = some ⟨b, o, none⟩ ∧ ∀ y k, y < n → 2 ≤ k → k ≤ 10 → PartAt W b (o + y * 23 + offK k) k (ly y k)
structure WvOK (W : World) (v : Wv) (m : Md) : Prop where
  c : v.c = m.cfg
  al : Bp.Byts W v.sa v.ca m.al
  na : v.na = m.al.length
  ps : Bp.Prs W v.sp v.cp m.ps
  np : v.np = m.ps.length
  er : v.er = m.em.r
  ec : v.ec = m.em.c
  em : Nums W v.se v.ce m.em.l
  ne : v.ne = m.em.l.length
  ls : LaysAt W v.sl v.nl m.ly
  nl : v.nl = m.n
  cl : v.nl ≤ v.cl ∧ v.cl ≤ maxLen
  nm : Nums W v.sn v.cn m.nm
  nn : v.nn = m.nm.length
  xr : v.xr = m.ou.r
  xc : v.xc = m.ou.c
  ou : Nums W v.so v.co m.ou.l
  no : v.no = m.ou.l.length
theorem PartAt.later {W W' : World} {b o k : Nat} {p : Mt} (h : PartAt W b o k p) (hb : Below W.heap.size W W') : PartAt W' b o k p := by
  have hc : ∀ {a : Addr} {v : Value}, W.cell? a = some v → W'.cell? a = some v := fun h => (hb.cell (block_lt_of_cell h)).trans h
  unfold PartAt at h ⊢
  split at h
  · rename_i hk
    rw [if_pos hk]
    obtain ⟨sp, cap, h1, h2⟩ := h
    exact ⟨sp, cap, hc h1, Sl.below h2 (Nat.le_refl _) hb⟩
  · rename_i hk
    rw [if_neg hk]
    obtain ⟨h0, h1, sp, cap, h2, h3⟩ := h
    exact ⟨hc h0, hc h1, sp, cap, hc h2, Sl.below h3 (Nat.le_refl _) hb⟩
theorem LaysAt.later {W W' : World} {sl : Option Addr} {n : Nat} {ly : Nat → Nat → Mt} (h : LaysAt W sl n ly) (hb : Below W.heap.size W W') : LaysAt W' sl n ly := fun hn => by
  obtain ⟨b, o, e, h1⟩ := h hn
  exact ⟨b, o, e, fun y k hy h2 h3 => (h1 y k hy h2 h3).later hb⟩
theorem WvOK.later {W W' : World} {v : Wv} {m : Md} (h : WvOK W v m) (hb : Below W.heap.size W W') : WvOK W' v m :=
  ⟨h.c, h.al.below hb, h.na, h.ps.below hb, h.np, h.er, h.ec, Sl.below h.em (Nat.le_refl _) hb, h.ne, h.ls.later hb, h.nl, h.cl, Sl.below h.nm (Nat.le_refl _) hb, h.nn, h.xr, h.xc, Sl.below h.ou (Nat.le_refl _) hb, h.no⟩
/-- a model in a block of its own -/
structure Model (W : World) (g : Nat) (v : Wv) (m : Md) : Prop where
  row : W.heap[g]? = some (.cells v.cells 38 (0, 0))
  ok : WvOK W v m
theorem Model.later {W W' : World} {g : Nat} {v : Wv} {m : Md} (h : Model W g v m) (hb : Below W.heap.size W W') : Model W' g v m := ⟨(hb.block _ (Array.getElem?_eq_some_iff.1 h.row).1).trans h.row, h.ok.later hb⟩
theorem Model.new {W : World} {v : Wv} {m : Md} (h : WvOK W v m) : Model (W.alloc (.cells v.cells 38)) W.heap.size v m := ⟨heap_alloc_new _ _, h.later ((Below.refl _ _).alloc (Nat.le_refl _) _)⟩
theorem Model.cell {W : World} {g : Nat} {v : Wv} {m : Md} (h : Model W g v m) (j : Nat) : W.cell? ⟨g, j, none⟩ = v.cells[j]? := by rw [cell_of_row _ _ _ _ _ _ h.row]
/-- where a part stands -/
def addrP (v : Wv) (g : Nat) (b : Bl) : Nat × Nat := if b.k = 1 then (g, 8) else if b.k = 11 then (g, 12) else if b.k = 12 then (g, 13) else match v.sl with | some a => (a.block, a.off + b.y * 23 + offK b.k) | none => (0, 0)
/-- a part of the list of parts is a layer's, or one of the three -/
theorem laysB_mem {D I : Nat} : ∀ {L : Nat} {b : Bl}, b ∈ laysB D I L → b.y < L ∧ 2 ≤ b.k ∧ b.k ≤ 10
  | 0, b, h => by simp [laysB] at h
  | L + 1, b, h => by
    rw [laysB, List.mem_append] at h
    rcases h with h | h
    · obtain ⟨h1, h2⟩ := laysB_mem h
      exact ⟨by omega, h2⟩
    · simp only [layB, List.mem_cons, List.not_mem_nil, or_false] at h
      rcases h with rfl | rfl | rfl | rfl | rfl | rfl | rfl | rfl | rfl <;> exact ⟨Nat.lt_succ_self _, of_decide_eq_true rfl, of_decide_eq_true rfl⟩
theorem blks_mem {V D L I : Nat} {b : Bl} (h : b ∈ blks V D L I) : b.k = 1 ∨ b.k = 11 ∨ b.k = 12 ∨ (b.y < L ∧ 2 ≤ b.k ∧ b.k ≤ 10) := by
  unfold blks at h
  simp only [List.mem_cons, List.mem_append, List.not_mem_nil, or_false] at h
  rcases h with rfl | h | rfl | rfl
  · exact Or.inl rfl
  · exact Or.inr (Or.inr (Or.inr (laysB_mem h)))
  · exact Or.inr (Or.inl rfl)
  · exact Or.inr (Or.inr (Or.inl rfl))
theorem Model.part {W : World} {g : Nat} {v : Wv} {m : Md} (h : Model W g v m) {b : Bl} (hb : b.k = 1 ∨ b.k = 11 ∨ b.k = 12 ∨ (b.y < v.nl ∧ 2 ≤ b.k ∧ b.k ≤ 10)) : PartAt W (addrP v g b).1 (addrP v g b).2 b.k (m.part b.k b.y) := by
  unfold addrP Md.part
  have ho := h.ok
  rcases hb with hk | hk | hk | ⟨hy, h2, h3⟩
  · rw [if_pos hk, if_pos hk, hk]
    unfold PartAt
    rw [if_neg (by decide)]
    exact ⟨by rw [h.cell, ← ho.er]; rfl, by rw [h.cell, ← ho.ec]; rfl, v.se, v.ce, by rw [h.cell, ← ho.ne]; rfl, ho.em⟩
  · rw [if_neg (by omega), if_pos hk, if_neg (by omega), if_pos hk, hk]
    unfold PartAt
    rw [if_pos (by decide)]
    exact ⟨v.sn, v.cn, by rw [h.cell, ← ho.nn]; rfl, ho.nm⟩
  · rw [if_neg (by omega), if_neg (by omega), if_pos hk, if_neg (by omega), if_neg (by omega), if_pos hk, hk]
    unfold PartAt
    rw [if_neg (by decide)]
    exact ⟨by rw [h.cell, ← ho.xr]; rfl, by rw [h.cell, ← ho.xc]; rfl, v.so, v.co, by rw [h.cell, ← ho.no]; rfl, ho.ou⟩
  · rw [if_neg (by omega), if_neg (by omega), if_neg (by omega), if_neg (by omega), if_neg (by omega), if_neg (by omega)]
    obtain ⟨b', o', e, hp⟩ := ho.ls (by omega)
    rw [e]
    exact hp _ _ hy h2 h3
end Go.Proofs.Ytdffbjjiojheoaa.Wg
