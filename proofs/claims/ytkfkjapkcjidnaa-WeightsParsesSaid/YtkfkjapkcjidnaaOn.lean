import Derived.Test.YtkfkjapkcjidnaaOl
import Derived.Test.YtkfkjapkcjidnaaBk
namespace Go.Proofs.Ytkfkjapkcjidnaa.Wg
set_option maxRecDepth 100000
open Go.ChangeShapes Go.WideShapes Go.ChangeAt Go.RowKit Go.Shelf Go.Proofs.Ytkfkjapkcjidnaa.Tn
attribute [local go_sem] Oper.semAt_some

/-! ### a model of one's own, where something else is turned -/
/-- a row reads the same where its block is the same -/
theorem sl_same {W W' : World} {sp : Option Addr} {cap : Nat} {xs : List Value} (h : Sl W sp cap xs) (hs : 0 < xs.length → ∀ c o, sp = some ⟨c, o, none⟩ → W'.heap[c]? = W.heap[c]?) : Sl W' sp cap xs := ⟨h.le, h.max, h.nul, fun h0 => by
  obtain ⟨c, o, e, hl⟩ := h.lies h0
  exact ⟨c, o, e, fun i v hv => (World.cell?_of_block (hs h0 c o e)).trans (hl i v hv)⟩⟩
theorem prs_same {W W' : World} {sp : Option Addr} {cap : Nat} {ps : List (Int × Int)} (h : Bp.Prs W sp cap ps) (hs : 0 < ps.length → ∀ c o, sp = some ⟨c, o, none⟩ → W'.heap[c]? = W.heap[c]?) : Bp.Prs W' sp cap ps := ⟨h.le, h.max, h.nul, fun h0 => by
  obtain ⟨c, o, e, hl⟩ := h.lies h0
  exact ⟨c, o, e, fun k hk j v hv => (World.cell?_of_block (hs h0 c o e)).trans (hl k hk j v hv)⟩⟩
/-- the parts of a layer are told by their places -/
theorem lay_at {c : Cfg} (hO : c.Ok) {y k : Nat} (hy : y < c.l.toNat) (h2 : 2 ≤ k) (h3 : k ≤ 10) : ∃ (i : Nat) (b : Bl), c.blks[i]? = some b ∧ b.k = k ∧ b.y = y := by
  obtain ⟨V, D, I, eb, _⟩ := cfg_blks hO
  have hj : (layB D I y)[k - 2]? = some ((layB D I y)[k - 2]'(by rw [layB_length]; omega)) := List.getElem?_eq_getElem _
  have hb := (blks_lay V D c.l.toNat I hy (show k - 2 < 9 by omega)).trans hj
  obtain ⟨q1, q2, _⟩ := layB_key hj
  exact ⟨_, _, by rw [eb]; exact hb, by omega, q2⟩
theorem owned_upd {W W' : World} {v : Wv} {m m' : Md} {n2 : Nat} {β : Nat → Nat} (h : WvOK W v m) (hO : Owned W n2 v m β) (hck : m.cfg.chk = 0) (hn : m.n = m.cfg.l.toNat) (hm : m'.cfg = m.cfg ∧ m'.al = m.al ∧ m'.ps = m.ps ∧ m'.n = m.n)
    (hpt : ∀ b ∈ m.cfg.blks, (m'.part b.k b.y).l.length = (m.part b.k b.y).l.length ∧ (m'.part b.k b.y).r = (m.part b.k b.y).r ∧ (m'.part b.k b.y).c = (m.part b.k b.y).c)
    (ha : 0 < m.al.length → ∀ c o, v.sa = some ⟨c, o, none⟩ → W'.heap[c]? = W.heap[c]?) (hp : 0 < m.ps.length → ∀ c o, v.sp = some ⟨c, o, none⟩ → W'.heap[c]? = W.heap[c]?) (hl : ∀ lb, v.sl = some ⟨lb, 0, none⟩ → W'.heap[lb]? = W.heap[lb]?)
    (hnew : ∀ i b c, m.cfg.blks[i]? = some b → Nums W (some ⟨β i, 0, none⟩) c (m.part b.k b.y).l → Nums W' (some ⟨β i, 0, none⟩) c (m'.part b.k b.y).l) (hty : ∀ i, i < m.cfg.blks.length → ∃ cs, W'.heap[β i]? = some (.cells cs 3 (0, 0))) : WvOK W' v m' ∧ Owned W' n2 v m' β := by
  obtain ⟨e1, e2, e3, e4⟩ := hm
  have hok := Cfg.ok_of_chk hck
  obtain ⟨lb, hsl, hlb, hlr⟩ := hO.sl
  have hlb' := hl lb hsl
  have hsame : ∀ b, sliceOf W' v b = sliceOf W v b := fun b => by
    unfold sliceOf
    rw [hsl]
    dsimp only
    rw [World.cell?_of_block hlb']
  obtain ⟨V, D, I, eb, _, _, _, k1, k2, k3, k4, k5, k6⟩ := cfg_blks hok
  have i0 : m.cfg.blks[0]? = some ⟨1, 0, V, D⟩ := by rw [eb]; rfl
  have i1 : m.cfg.blks[1 + 9 * m.cfg.l.toNat]? = some ⟨11, 0, 1, D⟩ := by rw [eb]; exact blks_norm _ _ _ _
  have i2 : m.cfg.blks[1 + 9 * m.cfg.l.toNat + 1]? = some ⟨12, 0, V, D⟩ := by rw [eb]; exact blks_out _ _ _ _
  have hnum : ∀ i b, m.cfg.blks[i]? = some b → n2 ≤ β i ∧ ∃ c, sliceOf W v b = some (.slice (some ⟨β i, 0, none⟩) (m'.part b.k b.y).l.length c) ∧ Nums W' (some ⟨β i, 0, none⟩) c (m'.part b.k b.y).l := fun i b hb => by
    obtain ⟨h1, _, c, h2, h3⟩ := hO.rows i b hb
    exact ⟨h1, c, by rw [(hpt b (List.mem_of_getElem? hb)).1]; exact h2, hnew i b c hb h3⟩
  have pe : ∀ x : Md, x.part 1 0 = x.em := fun _ => rfl
  have pn : ∀ x : Md, x.part 11 0 = ⟨0, 0, x.nm⟩ := fun _ => rfl
  have po : ∀ x : Md, x.part 12 0 = x.ou := fun _ => rfl
  obtain ⟨_, ce, s1, n1⟩ := hnum _ _ i0
  obtain ⟨_, cn, s2, n2'⟩ := hnum _ _ i1
  obtain ⟨_, co, s3, n3⟩ := hnum _ _ i2
  have t1 := hpt _ (List.mem_of_getElem? i0)
  have t2 := hpt _ (List.mem_of_getElem? i1)
  have t3 := hpt _ (List.mem_of_getElem? i2)
  dsimp only at s1 n1 s2 n2' s3 n3 t1 t2 t3
  rw [pe] at s1 n1 t1
  rw [pe] at t1
  rw [pn] at s2 n2' t2
  rw [pn] at t2
  rw [po] at s3 n3 t3
  rw [po] at t3
  have q1 : some (Value.slice v.se v.ne v.ce) = some (.slice (some ⟨β 0, 0, none⟩) m'.em.l.length ce) := s1
  have q2 : some (Value.slice v.sn v.nn v.cn) = some (.slice (some ⟨β (1 + 9 * m.cfg.l.toNat), 0, none⟩) m'.nm.length cn) := s2
  have q3 : some (Value.slice v.so v.no v.co) = some (.slice (some ⟨β (1 + 9 * m.cfg.l.toNat + 1), 0, none⟩) m'.ou.l.length co) := s3
  injection q1 with q1
  injection q1 with a1 a2 a3
  injection q2 with q2
  injection q2 with b1 b2 b3
  injection q3 with q3
  injection q3 with c1 c2 c3
  refine ⟨⟨h.c.trans e1.symm, ⟨?_, by rw [e2]; exact h.al.rng⟩, by rw [e2]; exact h.na, ?_, by rw [e3]; exact h.np, by rw [t1.2.1]; exact h.er, by rw [t1.2.2]; exact h.ec, by rw [a1, a3]; exact n1, a2, fun hn0 => ⟨lb, 0, hsl, fun y k hy h2 h3 => ?_⟩, by rw [e4]; exact h.nl, h.cl, by rw [b1, b3]; exact n2', b2, by rw [t3.2.1]; exact h.xr, by rw [t3.2.2]; exact h.xc, by rw [c1, c3]; exact n3, c2⟩, ⟨⟨lb, hsl, hlb, ?_⟩, fun i b hb => ?_, fun i j hij hj => hO.asc i j hij (by rw [← e1]; exact hj)⟩⟩
  · rw [e2]; exact sl_same h.al.sl fun h0 => ha (by simpa using h0)
  · rw [e3]; exact prs_same h.ps hp
  · obtain ⟨b', o', e', hpa⟩ := h.ls hn0
    rw [hsl] at e'
    cases e'
    have hp1 := hpa y k hy h2 h3
    have hyl : y < m.cfg.l.toNat := by rw [← hn, ← h.nl]; exact hy
    obtain ⟨i, b, hb, rfl, rfl⟩ := lay_at hok hyl h2 h3
    obtain ⟨_, c, s, nn⟩ := hnum i b hb
    have tb := hpt b (List.mem_of_getElem? hb)
    have hpl : ∀ x : Md, x.part b.k b.y = x.ly b.y b.k := fun x => by
      unfold Md.part
      rw [if_neg (by omega), if_neg (by omega), if_neg (by omega)]
    rw [hpl] at s nn tb
    rw [hpl] at tb
    unfold sliceOf at s
    rw [if_neg (by omega), if_neg (by omega), if_neg (by omega), hsl] at s
    dsimp only at s
    unfold PartAt at hp1 ⊢
    have hcl : ∀ o, W'.cell? ⟨lb, o, none⟩ = W.cell? ⟨lb, o, none⟩ := fun o => World.cell?_of_block hlb'
    cases hv : isVec b.k with
    | true =>
      rw [hv, if_pos rfl] at hp1 s
      rw [if_pos rfl]
      exact ⟨_, c, by rw [hcl]; exact s, nn⟩
    | false =>
      rw [hv, if_neg (by decide)] at hp1 s
      rw [if_neg (by decide)]
      obtain ⟨p1, p2, _⟩ := hp1
      exact ⟨by rw [hcl, tb.2.1]; exact p1, by rw [hcl, tb.2.2]; exact p2, _, c, by rw [hcl]; exact s, nn⟩
  · obtain ⟨cs, hcs⟩ := hlr
    exact ⟨cs, hlb'.trans hcs⟩
  · rw [e1] at hb
    obtain ⟨h1, c, h2, h3⟩ := hnum i b hb
    exact ⟨h1, hty i (List.getElem?_eq_some_iff.1 hb).1, c, by rw [hsame]; exact h2, h3⟩
/-- where nothing of it is turned -/
theorem owned_same {W W' : World} {v : Wv} {m : Md} {n2 : Nat} {β : Nat → Nat} (h : WvOK W v m) (hO : Owned W n2 v m β) (hck : m.cfg.chk = 0) (hn : m.n = m.cfg.l.toNat)
    (ha : 0 < m.al.length → ∀ c o, v.sa = some ⟨c, o, none⟩ → W'.heap[c]? = W.heap[c]?) (hp : 0 < m.ps.length → ∀ c o, v.sp = some ⟨c, o, none⟩ → W'.heap[c]? = W.heap[c]?) (hl : ∀ lb, v.sl = some ⟨lb, 0, none⟩ → W'.heap[lb]? = W.heap[lb]?)
    (hr : ∀ i, i < m.cfg.blks.length → W'.heap[β i]? = W.heap[β i]?) : WvOK W' v m ∧ Owned W' n2 v m β := by
  refine owned_upd h hO hck hn ⟨rfl, rfl, rfl, rfl⟩ (fun _ _ => ⟨rfl, rfl, rfl⟩) ha hp hl (fun i b c hb hN => sl_same hN fun _ c' o' e => ?_) (fun i hi => ?_)
  · cases e
    exact hr i (List.getElem?_eq_some_iff.1 hb).1
  · obtain ⟨_, ⟨cs, hcs⟩, _⟩ := hO.rows i _ (List.getElem?_eq_getElem hi)
    exact ⟨cs, (hr i hi).trans hcs⟩
end Go.Proofs.Ytkfkjapkcjidnaa.Wg
