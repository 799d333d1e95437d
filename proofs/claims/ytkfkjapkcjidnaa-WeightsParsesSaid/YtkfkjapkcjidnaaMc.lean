import Derived.Test.YtkfkjapkcjidnaaWj
import Derived.Test.YtkfkjapkcjidnaaTb
import Derived.Lib.QuietBelow
namespace Go.Proofs.Ytkfkjapkcjidnaa.Wg
set_option maxRecDepth 100000
open Go.ChangeShapes Go.WideShapes Go.ChangeAt Go.RowKit Go.Shelf Go.Proofs.Ytkfkjapkcjidnaa.Tn

/-! ### models: what is wrong with one -/
/-- a matrix, or a vector (of no rows and columns of its own) -/
structure Mt where
  r : Int
  c : Int
  l : List Int
structure Md where
  cfg : Cfg
  al : List Int
  ps : List (Int × Int)
  em : Mt
  n : Nat
  ly : Nat → Nat → Mt
  nm : List Int
  ou : Mt
/-- a part of a model -/
def Md.part (m : Md) (k y : Nat) : Mt := if k = 1 then m.em else if k = 11 then ⟨0, 0, m.nm⟩ else if k = 12 then m.ou else m.ly y k
/-- are a part's sizes as told? -/
def szB (b : Bl) (p : Mt) : Int := if isVec b.k then (if p.l.length = b.c then 0 else 13) else if p.r = b.r ∧ p.c = b.c then 0 else 13
def nmB (b : Bl) (p : Mt) : Int := if isVec b.k then chkV p.l else chkM p.r p.c p.l
def partE (b : Bl) (p : Mt) : Int := if szB b p ≠ 0 then szB b p else nmB b p
def partsE (m : Md) : List Bl → Int
  | [] => 0
  | b :: l => if partE b (m.part b.k b.y) ≠ 0 then partE b (m.part b.k b.y) else partsE m l
/-- what is wrong with a model ahead of its parts -/
def Md.headE (m : Md) : Int := if m.cfg.chk ≠ 0 then m.cfg.chk else if (Bp.newD m.al m.ps).1 ≠ 0 then (Bp.newD m.al m.ps).1 else if ((Bp.newD m.al m.ps).2.length : Int) ≠ m.cfg.v ∨ (m.n : Int) ≠ m.cfg.l then 13 else 0
def Md.chk (m : Md) : Int := if m.headE ≠ 0 then m.headE else partsE m m.cfg.blks
/-! ### models in memory -/
/-- a part at a place -/
def PartAt (W : World) (b o k : Nat) (p : Mt) : Prop :=
  if isVec k then ∃ sp cap, W.cell? ⟨b, o, none⟩ = some (.slice sp p.l.length cap) ∧ Nums W sp cap p.l
  else W.cell? ⟨b, o, none⟩ = some (.int .i64 p.r) ∧ W.cell? ⟨b, o + 1, none⟩ = some (.int .i64 p.c) ∧ ∃ sp cap, W.cell? ⟨b, o + 2, none⟩ = some (.slice sp p.l.length cap) ∧ Nums W sp cap p.l
/-- a model's cells -/
structure Wv where
  c : Cfg
  sa : Option Addr
  na : Nat
  ca : Nat
  sp : Option Addr
  np : Nat
  cp : Nat
  er : Int
  ec : Int
  se : Option Addr
  ne : Nat
  ce : Nat
  sl : Option Addr
  nl : Nat
  cl : Nat
  sn : Option Addr
  nn : Nat
  cn : Nat
  xr : Int
  xc : Int
  so : Option Addr
  no : Nat
  co : Nat
def Wv.cells (v : Wv) : Array Value := #[.int .i64 v.c.v, .int .i64 v.c.d, .int .i64 v.c.h, .int .i64 v.c.l, .int .i64 v.c.x, .int .i64 v.c.i, .slice v.sa v.na v.ca, .slice v.sp v.np v.cp, .int .i64 v.er, .int .i64 v.ec, .slice v.se v.ne v.ce, .slice v.sl v.nl v.cl, .slice v.sn v.nn v.cn, .int .i64 v.xr, .int .i64 v.xc, .slice v.so v.no v.co]
/-- so many layers at an address -/
def LaysAt (W : World) (sl : Option Addr) (n : Nat) (ly : Nat → Nat → Mt) : Prop := 0 < n → ∃ b o, sl = some ⟨b, o, none⟩ ∧ ∀ y k, y < n → 2 ≤ k → k ≤ 10 → PartAt W b (o + y * 23 + offK k) k (ly y k)
structure WvOK (W : World) (v : Wv) (m : Md) : Prop where
  c : v.c = m.cfg
  al : Bp.Byts W v.sa v.ca m.al
  na : v.na = m.al.length
  ps : Bp.Prs W v.sp v.cp m.ps
  np : v.np = m.ps.length
  er : v.er = m.em.r
  ec : v.ec = m.em.c
  em : Nums W v.se v.ce m.em.l
  ne : v.ne = m.em.l.length
  ls : LaysAt W v.sl v.nl m.ly
  nl : v.nl = m.n
  cl : v.nl ≤ v.cl ∧ v.cl ≤ maxLen
  nm : Nums W v.sn v.cn m.nm
  nn : v.nn = m.nm.length
  xr : v.xr = m.ou.r
  xc : v.xc = m.ou.c
  ou : Nums W v.so v.co m.ou.l
  no : v.no = m.ou.l.length
theorem PartAt.later {W W' : World} {b o k : Nat} {p : Mt} (h : PartAt W b o k p) (hb : Below W.heap.size W W') : PartAt W' b o k p := by
  have hc : ∀ {a : Addr} {v : Value}, W.cell? a = some v → W'.cell? a = some v := fun h => (hb.cell (block_lt_of_cell h)).trans h
  unfold PartAt at h ⊢
  split at h
  · rename_i hk
    rw [if_pos hk]
    obtain ⟨sp, cap, h1, h2⟩ := h
    exact ⟨sp, cap, hc h1, Sl.below h2 (Nat.le_refl _) hb⟩
  · rename_i hk
    rw [if_neg hk]
    obtain ⟨h0, h1, sp, cap, h2, h3⟩ := h
    exact ⟨hc h0, hc h1, sp, cap, hc h2, Sl.below h3 (Nat.le_refl _) hb⟩
theorem LaysAt.later {W W' : World} {sl : Option Addr} {n : Nat} {ly : Nat → Nat → Mt} (h : LaysAt W sl n ly) (hb : Below W.heap.size W W') : LaysAt W' sl n ly := fun hn => by
  obtain ⟨b, o, e, h1⟩ := h hn
  exact ⟨b, o, e, fun y k hy h2 h3 => (h1 y k hy h2 h3).later hb⟩
theorem WvOK.later {W W' : World} {v : Wv} {m : Md} (h : WvOK W v m) (hb : Below W.heap.size W W') : WvOK W' v m :=
  ⟨h.c, h.al.below hb, h.na, h.ps.below hb, h.np, h.er, h.ec, Sl.below h.em (Nat.le_refl _) hb, h.ne, h.ls.later hb, h.nl, h.cl, Sl.below h.nm (Nat.le_refl _) hb, h.nn, h.xr, h.xc, Sl.below h.ou (Nat.le_refl _) hb, h.no⟩
/-- a model in a block of its own -/
structure Model (W : World) (g : Nat) (v : Wv) (m : Md) : Prop where
  row : W.heap[g]? = some (.cells v.cells 31 (0, 0))
  ok : WvOK W v m
theorem Model.later {W W' : World} {g : Nat} {v : Wv} {m : Md} (h : Model W g v m) (hb : Below W.heap.size W W') : Model W' g v m := ⟨(hb.block _ (Array.getElem?_eq_some_iff.1 h.row).1).trans h.row, h.ok.later hb⟩
theorem Model.new {W : World} {v : Wv} {m : Md} (h : WvOK W v m) : Model (W.alloc (.cells v.cells 31)) W.heap.size v m := ⟨heap_alloc_new _ _, h.later ((Below.refl _ _).alloc (Nat.le_refl _) _)⟩
theorem Model.cell {W : World} {g : Nat} {v : Wv} {m : Md} (h : Model W g v m) (j : Nat) : W.cell? ⟨g, j, none⟩ = v.cells[j]? := by rw [cell_of_row _ _ _ _ _ _ h.row]
/-- where a part stands -/
def addrP (v : Wv) (g : Nat) (b : Bl) : Nat × Nat := if b.k = 1 then (g, 8) else if b.k = 11 then (g, 12) else if b.k = 12 then (g, 13) else match v.sl with | some a => (a.block, a.off + b.y * 23 + offK b.k) | none => (0, 0)
/-- a part of the list of parts is a layer's, or one of the three -/
theorem laysB_mem {D I : Nat} : ∀ {L : Nat} {b : Bl}, b ∈ laysB D I L → b.y < L ∧ 2 ≤ b.k ∧ b.k ≤ 10
  | 0, b, h => by simp [laysB] at h
  | L + 1, b, h => by
    rw [laysB, List.mem_append] at h
    rcases h with h | h
    · obtain ⟨h1, h2⟩ := laysB_mem h
      exact ⟨by omega, h2⟩
    · simp only [layB, List.mem_cons, List.not_mem_nil, or_false] at h
      rcases h with rfl | rfl | rfl | rfl | rfl | rfl | rfl | rfl | rfl <;> exact ⟨Nat.lt_succ_self _, of_decide_eq_true rfl, of_decide_eq_true rfl⟩
theorem blks_mem {V D L I : Nat} {b : Bl} (h : b ∈ blks V D L I) : b.k = 1 ∨ b.k = 11 ∨ b.k = 12 ∨ (b.y < L ∧ 2 ≤ b.k ∧ b.k ≤ 10) := by
  unfold blks at h
  simp only [List.mem_cons, List.mem_append, List.not_mem_nil, or_false] at h
  rcases h with rfl | h | rfl | rfl
  · exact Or.inl rfl
  · exact Or.inr (Or.inr (Or.inr (laysB_mem h)))
  · exact Or.inr (Or.inl rfl)
  · exact Or.inr (Or.inr (Or.inl rfl))
theorem Model.part {W : World} {g : Nat} {v : Wv} {m : Md} (h : Model W g v m) {b : Bl} (hb : b.k = 1 ∨ b.k = 11 ∨ b.k = 12 ∨ (b.y < v.nl ∧ 2 ≤ b.k ∧ b.k ≤ 10)) : PartAt W (addrP v g b).1 (addrP v g b).2 b.k (m.part b.k b.y) := by
  unfold addrP Md.part
  have ho := h.ok
  rcases hb with hk | hk | hk | ⟨hy, h2, h3⟩
  · rw [if_pos hk, if_pos hk, hk]
    unfold PartAt
    rw [if_neg (by decide)]
    exact ⟨by rw [h.cell, ← ho.er]; rfl, by rw [h.cell, ← ho.ec]; rfl, v.se, v.ce, by rw [h.cell, ← ho.ne]; rfl, ho.em⟩
  · rw [if_neg (by omega), if_pos hk, if_neg (by omega), if_pos hk, hk]
    unfold PartAt
    rw [if_pos (by decide)]
    exact ⟨v.sn, v.cn, by rw [h.cell, ← ho.nn]; rfl, ho.nm⟩
  · rw [if_neg (by omega), if_neg (by omega), if_pos hk, if_neg (by omega), if_neg (by omega), if_pos hk, hk]
    unfold PartAt
    rw [if_neg (by decide)]
    exact ⟨by rw [h.cell, ← ho.xr]; rfl, by rw [h.cell, ← ho.xc]; rfl, v.so, v.co, by rw [h.cell, ← ho.no]; rfl, ho.ou⟩
  · rw [if_neg (by omega), if_neg (by omega), if_neg (by omega), if_neg (by omega), if_neg (by omega), if_neg (by omega)]
    obtain ⟨b', o', e, hp⟩ := ho.ls (by omega)
    rw [e]
    exact hp _ _ hy h2 h3
end Go.Proofs.Ytkfkjapkcjidnaa.Wg
namespace Go.Proofs.Ytkfkjapkcjidnaa.Wg
set_option maxRecDepth 100000
open Go.ChangeShapes Go.WideShapes Go.ChangeAt Go.RowKit Go.Shelf Go.Proofs.Ytkfkjapkcjidnaa.Tn

/-! ### the closures of a part, and where it stands -/
theorem leadsK {k : Nat} (h2 : 2 ≤ k) (h3 : k ≤ 10) : (∀ b o, Leads (fnK k) ⟨b, o, none⟩ ⟨b, o + offK k, none⟩) ∧ ∀ args W, (callFunc (fnK k) args).run Try.prog W = .ok (.enter (fnK k) args) W := by
  obtain rfl | rfl | rfl | rfl | rfl | rfl | rfl | rfl | rfl : k = 2 ∨ k = 3 ∨ k = 4 ∨ k = 5 ∨ k = 6 ∨ k = 7 ∨ k = 8 ∨ k = 9 ∨ k = 10 := by omega
  · exact ⟨leads2, fun args W => cf Try.func74 (by kernel_rfl) (by kernel_rfl) _ _⟩
  · exact ⟨leads3, fun args W => cf Try.func75 (by kernel_rfl) (by kernel_rfl) _ _⟩
  · exact ⟨leads4, fun args W => cf Try.func76 (by kernel_rfl) (by kernel_rfl) _ _⟩
  · exact ⟨leads5, fun args W => cf Try.func77 (by kernel_rfl) (by kernel_rfl) _ _⟩
  · exact ⟨leads6, fun args W => cf Try.func78 (by kernel_rfl) (by kernel_rfl) _ _⟩
  · exact ⟨leads7, fun args W => cf Try.func79 (by kernel_rfl) (by kernel_rfl) _ _⟩
  · exact ⟨leads8, fun args W => cf Try.func80 (by kernel_rfl) (by kernel_rfl) _ _⟩
  · exact ⟨leads9, fun args W => cf Try.func81 (by kernel_rfl) (by kernel_rfl) _ _⟩
  · exact ⟨leads10, fun args W => cf Try.func82 (by kernel_rfl) (by kernel_rfl) _ _⟩
/-- a closure that tells where a part stands: from a pointer to the model -/
def ClosOK (w : World) (g : Nat) (fv : Value) (A : Addr) : Prop := ∃ f cap, fv = .func (.func f) #[] cap ∧ (∀ args W, (callFunc f args).run Try.prog W = .ok (.enter f args) W) ∧ ∀ W, Below w.heap.size w W → Calls Try.prog f (#[.pointer (some ⟨g, 0, none⟩)] ++ cap) W fun e W' => e = .returned (.pointer (some A)) ∧ ∃ q, W' = W.drewN q
theorem ClosOK.later {w w' : World} {g : Nat} {fv : Value} {A : Addr} (h : ClosOK w g fv A) (hb : Below w.heap.size w w') : ClosOK w' g fv A := by
  obtain ⟨f, cap, h1, h2, h3⟩ := h
  exact ⟨f, cap, h1, h2, fun W hW => h3 W (hb.trans (hW.mono hb.size))⟩
theorem Leads.clos {w : World} {g f : Nat} {A : Addr} (h : Leads f ⟨g, 0, none⟩ A) (hc : ∀ args W, (callFunc f args).run Try.prog W = .ok (.enter f args) W) : ClosOK w g (.func (.func f) #[] #[]) A :=
  ⟨f, #[], rfl, hc, fun W _ => (h W).mono fun _ _ he => ⟨he.1, 0, he.2⟩⟩
/-- of a part that is told: its closure; the other one is none -/
theorem clos_of {n0 : Nat} {w : World} {g : Nat} {v : Wv} {m : Md} {x : Bk} (hm : Model w g v m) (hn : v.nl ≤ 4) (hx : FnOK n0 w x) (hy : 2 ≤ x.b.k → x.b.k ≤ 10 → x.b.y < v.nl) :
    (isVec x.b.k = true → ClosOK w g x.vf ⟨(addrP v g x.b).1, (addrP v g x.b).2, none⟩ ∧ x.mf = .nilFunc) ∧ (isVec x.b.k = false → ClosOK w g x.mf ⟨(addrP v g x.b).1, (addrP v g x.b).2, none⟩ ∧ x.vf = .nilFunc) := by
  unfold addrP
  rcases hx with ⟨hk, h1, h2⟩ | ⟨hk, h1, h2⟩ | ⟨hk, h1, h2⟩ | ⟨⟨h2, h3⟩, bi, bl, hb1, hb2, hr1, hr2, h4, h5⟩
  · rw [if_pos hk, hk]
    refine ⟨(fun h => by cases h), fun _ => ⟨?_, h1⟩⟩
    rw [h2]
    exact (leadsEmb g 0).clos (fun args W => cf Try.func57 (by kernel_rfl) (by kernel_rfl) _ _)
  · rw [if_neg (by omega), if_pos hk, hk]
    refine ⟨fun _ => ⟨?_, h2⟩, (fun h => by cases h)⟩
    rw [h1]
    exact (leadsNrm g 0).clos (fun args W => cf Try.func59 (by kernel_rfl) (by kernel_rfl) _ _)
  · rw [if_neg (by omega), if_neg (by omega), if_pos hk, hk]
    refine ⟨(fun h => by cases h), fun _ => ⟨?_, h1⟩⟩
    rw [h2]
    exact (leadsOut g 0).clos (fun args W => cf Try.func60 (by kernel_rfl) (by kernel_rfl) _ _)
  · rw [if_neg (by omega), if_neg (by omega), if_neg (by omega)]
    have hyl := hy h2 h3
    obtain ⟨b, o, e, _⟩ := hm.ok.ls (by omega)
    obtain ⟨hl, hc⟩ := leadsK h2 h3
    have hcw : w.cell? ⟨g, 0 + 11, none⟩ = some (.slice (some ⟨b, o, none⟩) v.nl v.cl) := by
      have := hm.cell 11
      rw [Nat.zero_add, this, ← e]
      rfl
    have k1 : w.cell? ⟨bi, 0, none⟩ = some (fnV (fnK x.b.k)) := by rw [cell_of_row _ _ _ _ _ _ hr1]; rfl
    have k2 : w.cell? ⟨bl, 0, none⟩ = some (.int .i64 (x.b.y : Int)) := by rw [cell_of_row _ _ _ _ _ _ hr2]; rfl
    rw [e]
    refine ⟨fun hv => ?_, fun hv => ?_⟩
    · obtain ⟨e1, e2⟩ := h4 hv
      refine ⟨⟨_, _, e1, fun args W => cf Try.func71 (by kernel_rfl) (by kernel_rfl) _ _, fun W hW => ?_⟩, e2⟩
      exact vecIn_any W g 0 bi bl (fnK x.b.k) b o v.nl v.cl x.b.y _ ((hW.cell (block_lt_of_cell k1)).trans k1) ((hW.cell (block_lt_of_cell k2)).trans k2) ((hW.cell (block_lt_of_cell hcw)).trans hcw) hyl hn (hl b (o + x.b.y * 23)) hc
    · obtain ⟨e1, e2⟩ := h5 hv
      refine ⟨⟨_, _, e2, fun args W => cf Try.func73 (by kernel_rfl) (by kernel_rfl) _ _, fun W hW => ?_⟩, e1⟩
      exact matIn_any W g 0 bi bl (fnK x.b.k) b o v.nl v.cl x.b.y _ ((hW.cell (block_lt_of_cell k1)).trans k1) ((hW.cell (block_lt_of_cell k2)).trans k2) ((hW.cell (block_lt_of_cell hcw)).trans hcw) hyl hn (hl b (o + x.b.y * 23)) hc
/-! ### numbers -/
theorem drawn_below {W : World} (q : Nat) : Below W.heap.size W (W.drewN q) := ⟨rfl, rfl, rfl, Nat.le_refl _, fun _ _ => rfl⟩
theorem neM_no (W : World) : (binOp .neq 93 .nilFunc .nilFunc).run Try.prog W = .ok (.bool false) W := by kernel_rfl
theorem neM_yes (f : FuncId) (cap : Array Value) (W : World) : (binOp .neq 93 (.func (.func f) #[] cap) .nilFunc).run Try.prog W = .ok (.bool true) W := by kernel_rfl

set_option maxHeartbeats 4000000 in
theorem numbersV_any (w : World) (g : Nat) (k y r c : Nat) (vf : Value) (b o : Nat) (hc : ClosOK w g vf ⟨b, o, none⟩) :
    Calls Try.prog 41 #[.agg #[.int .i64 (k : Int), .int .i64 (y : Int), .int .i64 (r : Int), .int .i64 (c : Int), vf, .nilFunc], .pointer (some ⟨g, 0, none⟩)] w fun e w' => e = .returned (.pointer (some ⟨b, o, none⟩)) ∧ Below w.heap.size w w' := by
  obtain ⟨f, cap, rfl, hcf, hcl⟩ := hc
  have HCl := Lib.hid hcl
  have hba : Below w.heap.size w (w.alloc (.cells #[.int .i64 (k : Int), .int .i64 (y : Int), .int .i64 (r : Int), .int .i64 (c : Int), .func (.func f) #[] cap, .nilFunc] 95)) := (Below.refl _ _).alloc (Nat.le_refl _) _
  have HB := Lib.hid hba
  have h0 := neM_no
  have h1 := neM_yes
  clear hcl hba
  go_enter Try.func41, Try.ntmps41
  go_wp2_with fail
  refine (HCl.out _ HB.out).mono ?_
  rintro e w2 ⟨rfl, q, rfl⟩
  have HB2 := Lib.hid (HB.out.trans ((drawn_below q).mono HB.out.size))
  clear HB
  go_wp2
  go_ret
  exact ⟨rfl, HB2.out⟩
set_option maxHeartbeats 4000000 in
theorem numbersM_any (w : World) (g : Nat) (k y r c : Nat) (mf : Value) (b o : Nat) (hc : ClosOK w g mf ⟨b, o, none⟩) :
    Calls Try.prog 41 #[.agg #[.int .i64 (k : Int), .int .i64 (y : Int), .int .i64 (r : Int), .int .i64 (c : Int), .nilFunc, mf], .pointer (some ⟨g, 0, none⟩)] w fun e w' => e = .returned (.pointer (some ⟨b, o + 2, none⟩)) ∧ Below w.heap.size w w' := by
  obtain ⟨f, cap, rfl, hcf, hcl⟩ := hc
  have HCl := Lib.hid hcl
  have hba : Below w.heap.size w (w.alloc (.cells #[.int .i64 (k : Int), .int .i64 (y : Int), .int .i64 (r : Int), .int .i64 (c : Int), .nilFunc, .func (.func f) #[] cap] 95)) := (Below.refl _ _).alloc (Nat.le_refl _) _
  have HB := Lib.hid hba
  have h0 := neM_no
  have h1 := neM_yes
  clear hcl hba
  go_enter Try.func41, Try.ntmps41
  go_wp2_with fail
  refine (HCl.out _ HB.out).mono ?_
  rintro e w2 ⟨rfl, q, rfl⟩
  have HB2 := Lib.hid (HB.out.trans ((drawn_below q).mono HB.out.size))
  clear HB
  go_wp2
  go_ret
  exact ⟨rfl, HB2.out⟩
end Go.Proofs.Ytkfkjapkcjidnaa.Wg
namespace Go.Proofs.Ytkfkjapkcjidnaa.Wg
set_option maxRecDepth 100000
open Go.ChangeShapes Go.WideShapes Go.ChangeAt Go.RowKit Go.Shelf Go.Proofs.Ytkfkjapkcjidnaa.Tn
open Go.Sort (grow)

/-! ### a part's sizes and numbers, checked -/
/-- a part's box -/
structure Bb (w : World) (cs : Array Value) (W : World) : Prop where
  below : Below w.heap.size w W
  row : W.heap[w.heap.size]? = some (.cells cs 95 (0, 0))
theorem Bb.made (w : World) (cs : Array Value) : Bb w cs (w.alloc (.cells cs 95)) := ⟨(Below.refl _ _).alloc (Nat.le_refl _) _, heap_alloc_new _ _⟩
theorem Bb.later {w W W' : World} {cs : Array Value} (h : Bb w cs W) (hb : Below W.heap.size W W') : Bb w cs W' := ⟨h.below.trans (hb.mono h.below.size), (hb.block _ (Array.getElem?_eq_some_iff.1 h.row).1).trans h.row⟩
theorem Bb.at_ {w W : World} {cs : Array Value} (h : Bb w cs W) (j : Nat) : W.cell? ⟨w.heap.size, j, none⟩ = cs[j]? := by rw [cell_of_row _ _ _ _ _ _ h.row]
set_option maxHeartbeats 8000000 in
theorem sizesV_any (w : World) (g k y r c b o : Nat) (vf : Value) (n : Nat) (sp : Option Addr) (cap : Nat) (hc : ClosOK w g vf ⟨b, o, none⟩) (hs : w.cell? ⟨b, o, none⟩ = some (.slice sp n cap)) (hr : r = 1) (hcn : c ≤ 1000000) :
    Calls Try.prog 53 #[.agg #[.int .i64 (k : Int), .int .i64 (y : Int), .int .i64 (r : Int), .int .i64 (c : Int), vf, .nilFunc], .pointer (some ⟨g, 0, none⟩)] w fun e w' => e = .returned (.int .i64 (if n = c then 0 else 13)) ∧ Below w.heap.size w w' := by
  obtain ⟨E, hE⟩ : ∃ E : Int, (if n = c then 0 else 13) = E := ⟨_, rfl⟩
  rw [hE]
  have HE := Lib.hid hE
  clear hE
  have HCw := Lib.hid hc
  obtain ⟨f, cap0, rfl, hcf, hcl⟩ := hc
  have HCl := Lib.hid hcl
  have HB := Lib.hid (Bb.made w #[.int .i64 (k : Int), .int .i64 (y : Int), .int .i64 (r : Int), .int .i64 (c : Int), .func (.func f) #[] cap0, .nilFunc])
  have n0 := neM_no
  have n1 := neM_yes
  have Hs := Lib.hid hs
  have Hr := Lib.hid hr
  clear hcl hs hr
  go_enter Try.func53, Try.ntmps53
  go_upto_region 1 with fail
  refine gen_w (Q := fun w => Code.wp _ _ _ _ w) _ (Bb w #[.int .i64 (k : Int), .int .i64 (y : Int), .int .i64 (r : Int), .int .i64 (c : Int), .func (.func f) #[] cap0, .nilFunc]) HB.out ?_
  clear HB
  intro w1 hx
  have HX := Lib.hid hx
  have k0 := cell_regrown (hx.at_ 0)
  have k1 := cell_regrown (hx.at_ 1)
  have k2 := cell_regrown (hx.at_ 2)
  have k3 := cell_regrown (hx.at_ 3)
  have k4 := cell_regrown (hx.at_ 4)
  have k5 := cell_regrown (hx.at_ 5)
  have ks := cell_regrown ((hx.below.cell (block_lt_of_cell Hs.out)).trans Hs.out)
  have qc := fun d os => Calls.regrown_of ((numbersV_any (grow (redrawn w1 d) os) g k y r c (.func (.func f) #[] cap0) b o ((HCw.out.later hx.below).later (below_regrown w1 d os))))
  clear hx
  go_wp2
  refine wp_region_quiet_below (by kernel_rfl) (by kernel_rfl) ?_
  repeat (quiet_step (exact qc _ _))
  refine wpQuiet_nil ?_
  intro _ hw'
  obtain ⟨⟨dq, osq⟩, hw''⟩ := hw'
  subst hw''
  have HX2 := Lib.hid (HX.out.later (below_regrown w1 dq osq))
  generalize grow (redrawn w1 dq) osq = w2 at HX2 ⊢
  clear k0 k1 k2 k3 k4 k5 ks qc HX
  have k5 := HX2.out.at_ 5
  have k2 := HX2.out.at_ 2
  have k3 := HX2.out.at_ 3
  simp only [List.getElem?_toArray, List.getElem?_cons_succ, List.getElem?_cons_zero] at k5 k2 k3
  obtain rfl := Hr.out
  have d0 : (((1 : Nat) : Int)) = 1 := rfl
  rw [d0] at k2
  by_cases hnc : n = c
  · subst hnc
    have HV : Hid (E = 0) := Lib.hid (by rw [← HE.out, if_pos rfl])
    have e1 : (n == n) = true := by simp
    have e2 : ((n : Int) == (n : Int)) = true := by simp
    have e3 : ((n : Int) != (n : Int)) = false := by simp
    clear d0
    go_wp2
    go_ret
    exact ⟨by rw [HV.out]; rfl, HX2.out.below⟩
  · have HV : Hid (E = 13) := Lib.hid (by rw [← HE.out, if_neg hnc])
    have e2 : ((n : Int) == (c : Int)) = false := by simp; omega
    have e3 : ((n : Int) != (c : Int)) = true := by simp; omega
    have e1 : (n == c) = false := by simpa using hnc
    clear d0 hnc
    go_wp2
    go_ret
    exact ⟨by rw [HV.out]; rfl, HX2.out.below⟩
set_option maxHeartbeats 8000000 in
theorem sizesM_any (w : World) (g k y r c b o : Nat) (mf : Value) (pr pc : Int) (n : Nat) (sp : Option Addr) (cap : Nat) (hc : ClosOK w g mf ⟨b, o, none⟩) (h0 : w.cell? ⟨b, o, none⟩ = some (.int .i64 pr)) (h1 : w.cell? ⟨b, o + 1, none⟩ = some (.int .i64 pc)) (hs : w.cell? ⟨b, o + 2, none⟩ = some (.slice sp n cap)) :
    Calls Try.prog 53 #[.agg #[.int .i64 (k : Int), .int .i64 (y : Int), .int .i64 (r : Int), .int .i64 (c : Int), .nilFunc, mf], .pointer (some ⟨g, 0, none⟩)] w fun e w' => e = .returned (.int .i64 (if pr = r ∧ pc = c then 0 else 13)) ∧ Below w.heap.size w w' := by
  obtain ⟨E, hE⟩ : ∃ E : Int, (if pr = r ∧ pc = c then 0 else 13) = E := ⟨_, rfl⟩
  rw [hE]
  have HE := Lib.hid hE
  clear hE
  have HCw := Lib.hid hc
  obtain ⟨f, cap0, rfl, hcf, hcl⟩ := hc
  have HCl := Lib.hid hcl
  have HB := Lib.hid (Bb.made w #[.int .i64 (k : Int), .int .i64 (y : Int), .int .i64 (r : Int), .int .i64 (c : Int), .nilFunc, .func (.func f) #[] cap0])
  have n0 := neM_no
  have n1 := neM_yes
  have Hs := Lib.hid hs
  have Hh0 := Lib.hid h0
  have Hh1 := Lib.hid h1
  clear hcl hs h0 h1
  go_enter Try.func53, Try.ntmps53
  go_upto_region 1 with fail
  refine gen_w (Q := fun w => Code.wp _ _ _ _ w) _ (Bb w #[.int .i64 (k : Int), .int .i64 (y : Int), .int .i64 (r : Int), .int .i64 (c : Int), .nilFunc, .func (.func f) #[] cap0]) HB.out ?_
  clear HB
  intro w1 hx
  have HX := Lib.hid hx
  have k0 := cell_regrown (hx.at_ 0)
  have k1 := cell_regrown (hx.at_ 1)
  have k2 := cell_regrown (hx.at_ 2)
  have k3 := cell_regrown (hx.at_ 3)
  have k4 := cell_regrown (hx.at_ 4)
  have k5 := cell_regrown (hx.at_ 5)
  have ks := cell_regrown ((hx.below.cell (block_lt_of_cell Hs.out)).trans Hs.out)
  have qc := fun d os => Calls.regrown_of ((numbersM_any (grow (redrawn w1 d) os) g k y r c (.func (.func f) #[] cap0) b o ((HCw.out.later hx.below).later (below_regrown w1 d os))))
  clear hx
  go_wp2
  refine wp_region_quiet_below (by kernel_rfl) (by kernel_rfl) ?_
  repeat (quiet_step (exact qc _ _))
  refine wpQuiet_nil ?_
  intro _ hw'
  obtain ⟨⟨dq, osq⟩, hw''⟩ := hw'
  subst hw''
  have HX2 := Lib.hid (HX.out.later (below_regrown w1 dq osq))
  generalize grow (redrawn w1 dq) osq = w2 at HX2 ⊢
  clear k0 k1 k2 k3 k4 k5 ks qc HX
  have k5 := HX2.out.at_ 5
  have k2 := HX2.out.at_ 2
  have k3 := HX2.out.at_ 3
  simp only [List.getElem?_toArray, List.getElem?_cons_succ, List.getElem?_cons_zero] at k5 k2 k3
  go_wp2_with fail
  refine (HCl.out w2 HX2.out.below).mono ?_
  rintro e w3 ⟨rfl, q, rfl⟩
  have HX3 := Lib.hid (HX2.out.later (drawn_below q))
  have p0 := (HX3.out.below.cell (block_lt_of_cell Hh0.out)).trans Hh0.out
  have p1 := (HX3.out.below.cell (block_lt_of_cell Hh1.out)).trans Hh1.out
  generalize w2.drewN q = w4 at HX3 p0 p1 ⊢
  have k2 := HX3.out.at_ 2
  have k3 := HX3.out.at_ 3
  simp only [List.getElem?_toArray, List.getElem?_cons_succ, List.getElem?_cons_zero] at k2 k3
  clear k5
  go_wp2
  go_quiet (fail)
  have HX5 := Lib.hid (HX3.out.later (drawn_below nq))
  have k2 := HX5.out.at_ 2
  have k3 := HX5.out.at_ 3
  simp only [List.getElem?_toArray, List.getElem?_cons_succ, List.getElem?_cons_zero] at k2 k3
  generalize w4.drewN nq = w5 at HX5 k2 k3 ⊢
  clear p0 p1
  by_cases hr : pr = r
  · have e2 : (pr == (r : Int)) = true := by simpa using hr
    have e3 : (pr != (r : Int)) = false := by simpa using hr
    by_cases hcc : pc = c
    · have e4 : (pc == (c : Int)) = true := by simpa using hcc
      have e5 : (pc != (c : Int)) = false := by simpa using hcc
      have HV : Hid (E = 0) := Lib.hid (by rw [← HE.out, if_pos ⟨hr, hcc⟩])
      clear hr hcc
      go_wp2
      go_ret
      exact ⟨by rw [HV.out]; rfl, HX5.out.below⟩
    · have e4 : (pc == (c : Int)) = false := by simpa using hcc
      have e5 : (pc != (c : Int)) = true := by simpa using hcc
      have HV : Hid (E = 13) := Lib.hid (by rw [← HE.out, if_neg (fun h => hcc h.2)])
      clear hr hcc
      go_wp2
      go_ret
      exact ⟨by rw [HV.out]; rfl, HX5.out.below⟩
  · have e2 : (pr == (r : Int)) = false := by simpa using hr
    have e3 : (pr != (r : Int)) = true := by simpa using hr
    have HV : Hid (E = 13) := Lib.hid (by rw [← HE.out, if_neg (fun h => hr h.1)])
    clear hr
    go_wp2
    go_ret
    exact ⟨by rw [HV.out]; rfl, HX5.out.below⟩
set_option maxHeartbeats 8000000 in
theorem numsV_any (w : World) (g k y r c b o : Nat) (vf : Value) (n : Nat) (l : List Int) (sp : Option Addr) (cap : Nat) (hc : ClosOK w g vf ⟨b, o, none⟩) (hs : w.cell? ⟨b, o, none⟩ = some (.slice sp n cap)) (hl : l.length = n) (hN : Nums w sp cap l) :
    Calls Try.prog 54 #[.agg #[.int .i64 (k : Int), .int .i64 (y : Int), .int .i64 (r : Int), .int .i64 (c : Int), vf, .nilFunc], .pointer (some ⟨g, 0, none⟩)] w fun e w' => e = .returned (.int .i64 (chkV l)) ∧ Below w.heap.size w w' := by
  obtain ⟨f, cap0, rfl, hcf, hcl⟩ := hc
  have HCl := Lib.hid hcl
  have HB := Lib.hid (Bb.made w #[.int .i64 (k : Int), .int .i64 (y : Int), .int .i64 (r : Int), .int .i64 (c : Int), .func (.func f) #[] cap0, .nilFunc])
  have n0 := neM_no
  have n1 := neM_yes
  have Hs := Lib.hid hs
  have HN := Lib.hid hN
  have Hl := Lib.hid hl
  clear hcl hs hN hl
  go_enter Try.func54, Try.ntmps54
  go_upto_region 1 with fail
  refine gen_w (Q := fun w => Code.wp _ _ _ _ w) _ (Bb w #[.int .i64 (k : Int), .int .i64 (y : Int), .int .i64 (r : Int), .int .i64 (c : Int), .func (.func f) #[] cap0, .nilFunc]) HB.out ?_
  clear HB
  intro w1 hx
  have HX := Lib.hid hx
  have k4 := hx.at_ 4
  have k5 := hx.at_ 5
  simp only [List.getElem?_toArray, List.getElem?_cons_succ, List.getElem?_cons_zero] at k4 k5
  clear hx
  go_wp2_with fail
  refine (HCl.out w1 HX.out.below).mono ?_
  rintro e w2 ⟨rfl, q, rfl⟩
  have HX3 := Lib.hid (HX.out.later (drawn_below q))
  have ps := (HX3.out.below.cell (block_lt_of_cell Hs.out)).trans Hs.out
  generalize w1.drewN q = w3 at HX3 ps ⊢
  clear k4 k5
  go_wp2_with fail
  refine (tcheck_any w3 sp cap n l Hl.out (Sl.below HN.out (Nat.le_refl _) HX3.out.below)).mono ?_
  rintro e w4 ⟨rfl, hb4⟩
  have HX4 := Lib.hid (HX3.out.later hb4)
  clear hb4
  go_wp2
  go_ret
  exact ⟨rfl, HX4.out.below⟩
set_option maxHeartbeats 8000000 in
theorem numsM_any (w : World) (g k y r c b o : Nat) (mf : Value) (pr pc : Int) (n : Nat) (l : List Int) (sp : Option Addr) (cap : Nat) (hc : ClosOK w g mf ⟨b, o, none⟩) (h0 : w.cell? ⟨b, o, none⟩ = some (.int .i64 pr)) (h1 : w.cell? ⟨b, o + 1, none⟩ = some (.int .i64 pc)) (hs : w.cell? ⟨b, o + 2, none⟩ = some (.slice sp n cap)) (hl : l.length = n) (hN : Nums w sp cap l) :
    Calls Try.prog 54 #[.agg #[.int .i64 (k : Int), .int .i64 (y : Int), .int .i64 (r : Int), .int .i64 (c : Int), .nilFunc, mf], .pointer (some ⟨g, 0, none⟩)] w fun e w' => e = .returned (.int .i64 (chkM pr pc l)) ∧ Below w.heap.size w w' := by
  obtain ⟨f, cap0, rfl, hcf, hcl⟩ := hc
  have HCl := Lib.hid hcl
  have HB := Lib.hid (Bb.made w #[.int .i64 (k : Int), .int .i64 (y : Int), .int .i64 (r : Int), .int .i64 (c : Int), .nilFunc, .func (.func f) #[] cap0])
  have n0 := neM_no
  have n1 := neM_yes
  have Hs := Lib.hid hs
  have HN := Lib.hid hN
  have Hl := Lib.hid hl
  have Hh0 := Lib.hid h0
  have Hh1 := Lib.hid h1
  clear hcl hs hN hl h0 h1
  go_enter Try.func54, Try.ntmps54
  go_upto_region 1 with fail
  refine gen_w (Q := fun w => Code.wp _ _ _ _ w) _ (Bb w #[.int .i64 (k : Int), .int .i64 (y : Int), .int .i64 (r : Int), .int .i64 (c : Int), .nilFunc, .func (.func f) #[] cap0]) HB.out ?_
  clear HB
  intro w1 hx
  have HX := Lib.hid hx
  have k4 := hx.at_ 4
  have k5 := hx.at_ 5
  simp only [List.getElem?_toArray, List.getElem?_cons_succ, List.getElem?_cons_zero] at k4 k5
  clear hx
  go_wp2_with fail
  refine (HCl.out w1 HX.out.below).mono ?_
  rintro e w2 ⟨rfl, q, rfl⟩
  have HX3 := Lib.hid (HX.out.later (drawn_below q))
  have ps := (HX3.out.below.cell (block_lt_of_cell Hs.out)).trans Hs.out
  have p0 := (HX3.out.below.cell (block_lt_of_cell Hh0.out)).trans Hh0.out
  have p1 := (HX3.out.below.cell (block_lt_of_cell Hh1.out)).trans Hh1.out
  generalize w1.drewN q = w3 at HX3 ps p0 p1 ⊢
  clear k4 k5
  go_wp2_with fail
  refine (mcheck_any w3 pr pc sp cap n l Hl.out (Sl.below HN.out (Nat.le_refl _) HX3.out.below)).mono ?_
  rintro e w4 ⟨rfl, hb4⟩
  have HX4 := Lib.hid (HX3.out.later hb4)
  clear hb4
  go_wp2
  go_ret
  exact ⟨rfl, HX4.out.below⟩
/-- what is known of a part that is told, beside a model -/
structure OkB (v : Wv) (b : Bl) : Prop where
  kind : b.k = 1 ∨ b.k = 11 ∨ b.k = 12 ∨ (b.y < v.nl ∧ 2 ≤ b.k ∧ b.k ≤ 10)
  one : isVec b.k = true → b.r = 1
  cols : b.c ≤ 64
theorem layB_ok {D I y : Nat} (hD : D ≤ 64) (hI : I ≤ 64) {b : Bl} (h : b ∈ layB D I y) : (isVec b.k = true → b.r = 1) ∧ b.c ≤ 64 := by
  simp only [layB, List.mem_cons, List.not_mem_nil, or_false] at h
  rcases h with rfl | rfl | rfl | rfl | rfl | rfl | rfl | rfl | rfl <;> exact ⟨fun h => by first | rfl | (cases h), by simpa using (by assumption)⟩
theorem laysB_ok {D I : Nat} (hD : D ≤ 64) (hI : I ≤ 64) : ∀ {L : Nat} {b : Bl}, b ∈ laysB D I L → (isVec b.k = true → b.r = 1) ∧ b.c ≤ 64
  | 0, b, h => by simp [laysB] at h
  | L + 1, b, h => by
    rw [laysB, List.mem_append] at h
    rcases h with h | h
    · exact laysB_ok hD hI h
    · exact layB_ok hD hI h
theorem blks_ok {V D L I : Nat} (hD : D ≤ 64) (hI : I ≤ 64) {v : Wv} (hL : L ≤ v.nl) {b : Bl} (h : b ∈ blks V D L I) : OkB v b := by
  refine ⟨?_, ?_, ?_⟩
  · rcases blks_mem h with h1 | h1 | h1 | ⟨h1, h2⟩
    · exact Or.inl h1
    · exact Or.inr (Or.inl h1)
    · exact Or.inr (Or.inr (Or.inl h1))
    · exact Or.inr (Or.inr (Or.inr ⟨by omega, h2⟩))
  · unfold blks at h
    simp only [List.mem_cons, List.mem_append, List.not_mem_nil, or_false] at h
    rcases h with rfl | h | rfl | rfl
    · exact fun h => by cases h
    · exact (laysB_ok hD hI h).1
    · exact fun _ => rfl
    · exact fun h => by cases h
  · unfold blks at h
    simp only [List.mem_cons, List.mem_append, List.not_mem_nil, or_false] at h
    rcases h with rfl | h | rfl | rfl
    · exact hD
    · exact (laysB_ok hD hI h).2
    · exact hD
    · exact hD
theorem sizesB_any (w : World) (n0 g : Nat) (v : Wv) (m : Md) (x : Bk) (hm : Model w g v m) (hn : v.nl ≤ 4) (hx : FnOK n0 w x) (hb : OkB v x.b) :
    Calls Try.prog 53 #[x.val, .pointer (some ⟨g, 0, none⟩)] w fun e w' => e = .returned (.int .i64 (szB x.b (m.part x.b.k x.b.y))) ∧ Below w.heap.size w w' := by
  have hp := hm.part hb.kind
  have hc := clos_of hm hn hx (fun h2 h3 => by rcases hb.kind with h | h | h | h <;> omega)
  obtain ⟨⟨k, y, r, c⟩, vf, mf⟩ := x
  have h1 := hb.one
  have h2 := hb.cols
  dsimp only at hp hc h1 h2 ⊢
  unfold szB
  cases hk : isVec k with
  | true =>
    obtain ⟨hc1, rfl⟩ := hc.1 hk
    unfold PartAt at hp
    rw [if_pos hk] at hp
    obtain ⟨sp, cap, hs, _⟩ := hp
    rw [if_pos rfl]
    exact sizesV_any w g k y r c _ _ vf _ sp cap hc1 hs (h1 hk) (by omega)
  | false =>
    obtain ⟨hc1, rfl⟩ := hc.2 hk
    unfold PartAt at hp
    rw [if_neg (by rw [hk]; decide)] at hp
    obtain ⟨q0, q1, sp, cap, hs, _⟩ := hp
    rw [if_neg (by decide)]
    exact sizesM_any w g k y r c _ _ mf _ _ _ sp cap hc1 q0 q1 hs
theorem numsB_any (w : World) (n0 g : Nat) (v : Wv) (m : Md) (x : Bk) (hm : Model w g v m) (hn : v.nl ≤ 4) (hx : FnOK n0 w x) (hb : OkB v x.b) :
    Calls Try.prog 54 #[x.val, .pointer (some ⟨g, 0, none⟩)] w fun e w' => e = .returned (.int .i64 (nmB x.b (m.part x.b.k x.b.y))) ∧ Below w.heap.size w w' := by
  have hp := hm.part hb.kind
  have hc := clos_of hm hn hx (fun h2 h3 => by rcases hb.kind with h | h | h | h <;> omega)
  obtain ⟨⟨k, y, r, c⟩, vf, mf⟩ := x
  dsimp only at hp hc ⊢
  unfold nmB
  cases hk : isVec k with
  | true =>
    obtain ⟨hc1, rfl⟩ := hc.1 hk
    unfold PartAt at hp
    rw [if_pos hk] at hp
    obtain ⟨sp, cap, hs, hN⟩ := hp
    rw [if_pos rfl]
    exact numsV_any w g k y r c _ _ vf _ _ sp cap hc1 hs rfl hN
  | false =>
    obtain ⟨hc1, rfl⟩ := hc.2 hk
    unfold PartAt at hp
    rw [if_neg (by rw [hk]; decide)] at hp
    obtain ⟨q0, q1, sp, cap, hs, hN⟩ := hp
    rw [if_neg (by decide)]
    exact numsM_any w g k y r c _ _ mf _ _ _ _ sp cap hc1 q0 q1 hs rfl hN
end Go.Proofs.Ytkfkjapkcjidnaa.Wg
