import Derived.Test.YtkfkjapkcjidnaaOg
namespace Go.Proofs.Ytkfkjapkcjidnaa.Wg
set_option maxRecDepth 100000
open Go.ChangeShapes Go.WideShapes Go.ChangeAt Go.RowKit Go.Shelf Go.Proofs.Ytkfkjapkcjidnaa.Tn
attribute [local go_sem] Oper.semAt_some

/-! ### read, of any leaves -/
/-- are leaves those of a model of such sizes? -/
def ReadOK (c : Cfg) (ls : List (List Int)) : Prop := c.chk = 0 ∧ ls.length = rowsB c.blks ∧ fits c.blks ls
theorem read_any (w : World) (g : Nat) (hh : Hr) (hr : w.heap[g]? = some (.cells hh.cells 31 (0, 0))) (sp : Option Addr) (cap N : Nat) (ls : List (List Int)) (hP : LvP w g sp cap ls) (hlen : ∀ l ∈ ls, l.length ≤ 100000) (hN : ls.length = N) :
    Calls Try.prog 33 #[.pointer (some ⟨g, 0, none⟩), .slice sp N cap] w fun e w' => Fr (fun j => j = g) w.heap.size w w' ∧ ((e = .returned (.int .i64 11) ∧ ¬ ReadOK hh.c ls) ∨ (e = .returned (.int .i64 0) ∧ ReadOK hh.c ls ∧ ∃ lb n2 st β, w.heap.size ≤ lb ∧ lb < n2 ∧ RdG w' g lb hh.c.l.toNat hh st ∧ RdS n2 hh.c.blks ls st β hh.c.blks.length w')) := by
  by_cases h1 : hh.c.chk = 0
  · by_cases h2 : N = rowsB hh.c.blks
    · refine (callsIn_wide.1 (read_in w g hh hr sp cap N ls hP hlen h1 hN h2)).mono fun e w' h => ⟨h.1, ?_⟩
      rcases h.2 with ⟨h3, h4⟩ | ⟨h3, h4, h5⟩
      · exact Or.inl ⟨h3, fun k => h4 k.2.2⟩
      · exact Or.inr ⟨h3, ⟨h1, hN.trans h2, h4⟩, h5⟩
    · exact (read_no w g hh hr sp N cap (Or.inr h2)).mono fun e w' h => ⟨Fr.of_below h.2 (Nat.le_refl _), Or.inl ⟨h.1, fun k => h2 (hN.symm.trans k.2.1)⟩⟩
  · exact (read_no w g hh hr sp N cap (Or.inl h1)).mono fun e w' h => ⟨Fr.of_below h.2 (Nat.le_refl _), Or.inl ⟨h.1, fun k => h1 k.1⟩⟩
/-! ### the model of leaves -/
/-- a part of it -/
def partL (BL : List Bl) (L : Nat) (ls : List (List Int)) (k y : Nat) : Mt := match BL[idxB L ⟨k, y, 0, 0⟩]? with
  | some b => partR b (ls.drop (rowsB (BL.take (idxB L ⟨k, y, 0, 0⟩))))
  | none => ⟨0, 0, []⟩
def mdR (c : Cfg) (al : List Int) (ps : List (Int × Int)) (ls : List (List Int)) : Md :=
  ⟨c, al, ps, partL c.blks c.l.toNat ls 1 0, c.l.toNat, fun y k => partL c.blks c.l.toNat ls k y, (partL c.blks c.l.toNat ls 11 0).l, partL c.blks c.l.toNat ls 12 0⟩
theorem idxB_key {L : Nat} {a b : Bl} (h1 : a.k = b.k) (h2 : a.y = b.y) : idxB L a = idxB L b := by unfold idxB; rw [h1, h2]
theorem partL_at {V D L I i : Nat} {ls : List (List Int)} {b : Bl} (h : (blks V D L I)[i]? = some b) : partL (blks V D L I) L ls b.k b.y = partR b (ls.drop (rowsB ((blks V D L I).take i))) := by
  have e : idxB L ⟨b.k, b.y, 0, 0⟩ = i := (idxB_key (b := b) rfl rfl).trans (blks_idx h).symm
  unfold partL
  rw [e, h]
theorem cfg_blks {c : Cfg} (h : c.Ok) : ∃ V D I : Nat, c.blks = blks V D c.l.toNat I ∧ c.v.toNat = V ∧ c.d.toNat = D ∧ c.i.toNat = I ∧ (1 ≤ V ∧ V ≤ 512) ∧ (1 ≤ D ∧ D ≤ 64) ∧ (1 ≤ I ∧ I ≤ 64) ∧ 1 ≤ c.l.toNat ∧ c.l.toNat ≤ 4 ∧ ((c.l.toNat : Nat) : Int) = c.l := by
  obtain ⟨h1, h2, h3, h4, h5, h6⟩ := h
  exact ⟨_, _, _, rfl, rfl, rfl, rfl, by omega, by omega, by omega, by omega, by omega, by omega⟩
theorem mdR_part {c : Cfg} {al : List Int} {ps : List (Int × Int)} {ls : List (List Int)} (hO : c.Ok) {i : Nat} {b : Bl} (h : c.blks[i]? = some b) : (mdR c al ps ls).part b.k b.y = partR b (ls.drop (rowsB (c.blks.take i))) := by
  obtain ⟨V, D, I, e, _⟩ := cfg_blks hO
  rw [e] at h ⊢
  have hp := partL_at (ls := ls) h
  have hk := blks_okL (List.mem_of_getElem? h)
  unfold Md.part mdR
  dsimp only
  rw [e]
  rcases hk with ⟨h1, h2⟩ | ⟨h1, h2⟩ | ⟨h1, h2⟩ | ⟨h1, h2, h3⟩
  · rw [if_pos h1, ← hp, h1, h2]
  · rw [if_neg (by omega), if_pos h1, ← h1, ← h2, hp]
    unfold partR
    rw [h1]
    rfl
  · rw [if_neg (by omega), if_neg (by omega), if_pos h1, ← hp, h1, h2]
  · rw [if_neg (by omega), if_neg (by omega), if_neg (by omega), hp]
/-! ### the model that read leaves -/
/-- where a part's numbers stand: the slice of them -/
def sliceOf (W : World) (v : Wv) (b : Bl) : Option Value := if b.k = 1 then some (.slice v.se v.ne v.ce) else if b.k = 11 then some (.slice v.sn v.nn v.cn) else if b.k = 12 then some (.slice v.so v.no v.co) else match v.sl with
  | some a => W.cell? ⟨a.block, a.off + b.y * 23 + offK b.k + (if isVec b.k then 0 else 2), none⟩
  | none => none
/-- each part's numbers lie in a block of their own -/
structure Owned (W : World) (n2 : Nat) (v : Wv) (m : Md) (β : Nat → Nat) : Prop where
  sl : ∃ lb, v.sl = some ⟨lb, 0, none⟩ ∧ lb < n2 ∧ ∃ cs, W.heap[lb]? = some (.cells cs 65 (0, 0))
  rows : ∀ i b, m.cfg.blks[i]? = some b → n2 ≤ β i ∧ (∃ cs, W.heap[β i]? = some (.cells cs 3 (0, 0))) ∧ ∃ c, sliceOf W v b = some (.slice (some ⟨β i, 0, none⟩) (m.part b.k b.y).l.length c) ∧ Nums W (some ⟨β i, 0, none⟩) c (m.part b.k b.y).l
  asc : ∀ i j, i < j → j < m.cfg.blks.length → β i < β j
theorem rd_model {W : World} {g lb n2 : Nat} {hh : Hr} {st : Nat → Nat → St} {β : Nat → Nat} {ls : List (List Int)} {al : List Int} {ps : List (Int × Int)} (hS : RdG W g lb hh.c.l.toNat hh st) (hR : RdS n2 hh.c.blks ls st β hh.c.blks.length W) (hok : ReadOK hh.c ls) (hlb : lb < n2)
    (hal : Bp.Byts W hh.sa hh.ca al) (hna : hh.na = al.length) (hps : Bp.Prs W hh.sp hh.cp ps) (hnp : hh.np = ps.length) : ∃ v, Model W g v (mdR hh.c al ps ls) ∧ Owned W n2 v (mdR hh.c al ps ls) β ∧ v.sa = hh.sa ∧ v.sp = hh.sp := by
  have hO := Cfg.ok_of_chk hok.1
  have hnum : ∀ i b, hh.c.blks[i]? = some b → ∃ c, st b.k b.y = stQ b b.r (.slice (some ⟨β i, 0, none⟩) ((mdR hh.c al ps ls).part b.k b.y).l.length c) ∧ Nums W (some ⟨β i, 0, none⟩) c ((mdR hh.c al ps ls).part b.k b.y).l ∧ ((mdR hh.c al ps ls).part b.k b.y).r = (stQ b b.r (.slice none 0 0)).r ∧ ((mdR hh.c al ps ls).part b.k b.y).c = (stQ b b.r (.slice none 0 0)).c := fun i b hb => by
    obtain ⟨c, h1, h2⟩ := hR.done i b (List.getElem?_eq_some_iff.1 hb).1 hb
    rw [mdR_part hO hb]
    have hle : rowsB (hh.c.blks.take i) + b.r ≤ ls.length := by
      rw [← rowsB_split hb, hok.2.1]
      exact rowsB_take_le _ _
    have hbr : 1 ≤ b.r := by
      obtain ⟨V, D, I, e, _, _, _, k1, k2, k3, _⟩ := cfg_blks hO
      rw [e] at hb
      exact (blks_rc k1 k2 k3 (List.mem_of_getElem? hb)).1
    have hl : (partR b (ls.drop (rowsB (hh.c.blks.take i)))).l.length = b.r * b.c := numsR_length _ _ _ (by rw [List.length_drop]; omega)
    rw [hl]
    refine ⟨c, h1, h2, rfl, ?_⟩
    unfold partR stQ
    dsimp only
    split
    · rfl
    · rw [if_neg (by omega)]
  obtain ⟨V, D, I, eb, _, _, _, k1, k2, k3, k4, k5, k6⟩ := cfg_blks hO
  have i0 : hh.c.blks[0]? = some ⟨1, 0, V, D⟩ := by rw [eb]; rfl
  have i1 : hh.c.blks[1 + 9 * hh.c.l.toNat]? = some ⟨11, 0, 1, D⟩ := by rw [eb]; exact blks_norm _ _ _ _
  have i2 : hh.c.blks[1 + 9 * hh.c.l.toNat + 1]? = some ⟨12, 0, V, D⟩ := by rw [eb]; exact blks_out _ _ _ _
  obtain ⟨ce, e1, n1, r1, c1⟩ := hnum _ _ i0
  obtain ⟨cn, e2, n2', r2, c2⟩ := hnum _ _ i1
  obtain ⟨co, e3, n3, r3, c3⟩ := hnum _ _ i2
  dsimp only at e1 n1 r1 c1 e2 n2' r2 c2 e3 n3 r3 c3
  have hlay : ∀ y k, y < hh.c.l.toNat → 2 ≤ k → k ≤ 10 → ∃ (i : Nat) (b : Bl), hh.c.blks[i]? = some b ∧ b.k = k ∧ b.y = y := fun y k hy h2 h3 => by
    have hj : (layB D I y)[k - 2]? = some ((layB D I y)[k - 2]'(by rw [layB_length]; omega)) := List.getElem?_eq_getElem _
    have hb := (blks_lay V D hh.c.l.toNat I hy (show k - 2 < 9 by omega)).trans hj
    obtain ⟨q1, q2, _⟩ := layB_key hj
    exact ⟨_, _, by rw [eb]; exact hb, by omega, q2⟩
  let m := mdR hh.c al ps ls
  let v : Wv := ⟨hh.c, hh.sa, hh.na, hh.ca, hh.sp, hh.np, hh.cp, (st 1 0).r, (st 1 0).c, some ⟨β 0, 0, none⟩, (m.part 1 0).l.length, ce, some ⟨lb, 0, none⟩, hh.c.l.toNat, hh.c.l.toNat, some ⟨β (1 + 9 * hh.c.l.toNat), 0, none⟩, (m.part 11 0).l.length, cn, (st 12 0).r, (st 12 0).c, some ⟨β (1 + 9 * hh.c.l.toNat + 1), 0, none⟩, (m.part 12 0).l.length, co⟩
  have hpe : m.part 1 0 = m.em := rfl
  have hpn : (m.part 11 0).l = m.nm := rfl
  have hpo : m.part 12 0 = m.ou := rfl
  have hpl : ∀ y k, 2 ≤ k → k ≤ 10 → m.part k y = m.ly y k := fun y k h2 h3 => by
    unfold Md.part
    rw [if_neg (by omega), if_neg (by omega), if_neg (by omega)]
  refine ⟨v, ⟨?_, ⟨rfl, hal, hna, hps, hnp, ?_, ?_, n1, rfl, fun _ => ⟨lb, 0, rfl, fun y k hy h2 h3 => ?_⟩, rfl, ⟨Nat.le_refl _, ?_⟩, n2', rfl, ?_, ?_, n3, rfl⟩⟩, ⟨⟨lb, rfl, hlb, hS.lrow⟩, fun i b hb => ?_, fun i j hij hj => hR.asc i j hij hj⟩, rfl, rfl⟩
  · have hrow := hS.row
    have q1 : (st 1 0).val = .slice (some ⟨β 0, 0, none⟩) (m.part 1 0).l.length ce := by rw [e1]; rfl
    have q2 : (st 11 0).val = .slice (some ⟨β (1 + 9 * hh.c.l.toNat), 0, none⟩) (m.part 11 0).l.length cn := by rw [e2]; rfl
    have q3 : (st 12 0).val = .slice (some ⟨β (1 + 9 * hh.c.l.toNat + 1), 0, none⟩) (m.part 12 0).l.length co := by rw [e3]; rfl
    unfold rdC at hrow
    rw [q1, q2, q3] at hrow
    exact hrow
  · show (st 1 0).r = m.em.r
    rw [← hpe, r1, e1]
    rfl
  · show (st 1 0).c = m.em.c
    rw [← hpe, c1, e1]
    rfl
  · obtain ⟨i, b, hb, rfl, rfl⟩ := hlay y k hy h2 h3
    obtain ⟨c, s1, s2, s3, s4⟩ := hnum i b hb
    have hat := hS.lay b.y b.k hy h2 h3
    rw [← hpl _ _ h2 h3]
    unfold StAt at hat
    unfold PartAt
    rw [s1] at hat
    rw [Nat.zero_add]
    cases hv : isVec b.k with
    | true =>
      rw [hv, if_pos rfl] at hat
      rw [if_pos rfl]
      exact ⟨_, c, hat, s2⟩
    | false =>
      rw [hv, if_neg (by decide)] at hat
      rw [if_neg (by decide)]
      exact ⟨by rw [s3]; exact hat.1, by rw [s4]; exact hat.2.1, _, c, hat.2.2, s2⟩
  · show hh.c.l.toNat ≤ maxLen
    unfold maxLen
    omega
  · show (st 12 0).r = m.ou.r
    rw [← hpo, r3, e3]
    rfl
  · show (st 12 0).c = m.ou.c
    rw [← hpo, c3, e3]
    rfl
  · replace hb : hh.c.blks[i]? = some b := hb
    obtain ⟨q1, q2⟩ := hR.lo i (List.getElem?_eq_some_iff.1 hb).1
    obtain ⟨c, s1, s2, s3, s4⟩ := hnum i b hb
    refine ⟨q1, q2, c, ?_, s2⟩
    have hk : OkL hh.c.l.toNat b := by rw [eb] at hb; exact blks_okL (List.mem_of_getElem? hb)
    have hat := hS.at_ hk
    unfold sliceOf
    unfold addrR StAt at hat
    rcases hk with ⟨h1, h2⟩ | ⟨h1, h2⟩ | ⟨h1, h2⟩ | ⟨h1, h2, h3⟩
    · rw [if_pos h1]
      obtain rfl : i = 0 := by rw [eb] at hb i0; exact blks_key hb i0 h1 h2
      obtain rfl : b = ⟨1, 0, V, D⟩ := Option.some.inj (hb.symm.trans i0)
      dsimp only at s1 ⊢
      rw [e1] at s1
      injection s1 with _ _ s1
      rw [← s1]
    · rw [if_neg (by omega), if_pos h1]
      obtain rfl : i = 1 + 9 * hh.c.l.toNat := by rw [eb] at hb i1; exact blks_key hb i1 h1 h2
      obtain rfl : b = ⟨11, 0, 1, D⟩ := Option.some.inj (hb.symm.trans i1)
      dsimp only at s1 ⊢
      rw [e2] at s1
      injection s1 with _ _ s1
      rw [← s1]
    · rw [if_neg (by omega), if_neg (by omega), if_pos h1]
      obtain rfl : i = 1 + 9 * hh.c.l.toNat + 1 := by rw [eb] at hb i2; exact blks_key hb i2 h1 h2
      obtain rfl : b = ⟨12, 0, V, D⟩ := Option.some.inj (hb.symm.trans i2)
      dsimp only at s1 ⊢
      rw [e3] at s1
      injection s1 with _ _ s1
      rw [← s1]
    · rw [if_neg (by omega), if_neg (by omega), if_neg (by omega)]
      rw [if_neg (show ¬ b.k = 1 by omega), if_neg (show ¬ b.k = 11 by omega), if_neg (show ¬ b.k = 12 by omega), s1] at hat
      dsimp only [v]
      rw [Nat.zero_add]
      cases hv : isVec b.k with
      | true =>
        rw [hv, if_pos rfl] at hat
        exact hat
      | false =>
        rw [hv, if_neg (by decide)] at hat
        exact hat.2.2
end Go.Proofs.Ytkfkjapkcjidnaa.Wg
namespace Go.Proofs.Ytkfkjapkcjidnaa.Wg
set_option maxRecDepth 100000
open Go.ChangeShapes Go.WideShapes Go.ChangeAt Go.RowKit Go.Shelf Go.Proofs.Ytkfkjapkcjidnaa.Tn
attribute [local go_sem] Oper.semAt_some

/-! ### Parse -/
theorem bytsOf {w : World} {sp : Option Addr} {cap : Nat} {b : List Int} (h : Cd.Bytes w sp cap b) : Bp.Byts w sp cap b := ⟨⟨h.sl.le, h.sl.max, h.sl.nul, h.sl.lies⟩, h.rng⟩
theorem wpList_store_newW {P : Program} {w0 w : World} {ops : Array Oper} {rest : List Oper} {o : Oper} {a : Act} {Q : Exit → Act → World → Prop} (hgd : o.guard = none) (ty : TypeId) (x y : Operand) (ho : o.op = .store ty x y) (cells : Array Value) (old : Array Value) (t : TypeId) (hw : w = w0.alloc (.cells old t)) (hx : a.eval x = .pointer (some ⟨w0.heap.size, 0, none⟩)) (hy : a.eval y = .agg cells)
    (hi : (P.info? ty).map (·.size) = some cells.size) (hold : old.size = cells.size) (h1 : cells.all (·.oneCell') = true)
    (h : wpList P ops Q rest (a.put o.dst undef) (w0.alloc (.cells cells t))) : wpList P ops Q (o :: rest) a w := by
  subst hw
  refine wpList_store_row hgd ty x y ho w0.heap.size cells hx hy t old (heap_alloc_new _ _) hi hold h1 ?_
  rw [alloc_setRow]
  exact h
/-- which model bytes are -/
def Parsed (l : List Int) (m : Md) : Prop := ∃ h ls, Cd.small (h :: ls) ∧ Cd.join (h :: ls) = l ∧ HeadIs h m.cfg m.al m.ps ∧ ReadOK m.cfg ls ∧ m = mdR m.cfg m.al m.ps ls
theorem Parsed.one {l : List Int} {m m' : Md} (h : Parsed l m) (h' : Parsed l m') : m = m' := by
  obtain ⟨a, ls, h1, h2, h3, h4, h5⟩ := h
  obtain ⟨a', ls', k1, k2, k3, k4, k5⟩ := h'
  have e := join_one h1 k1 (h2.trans k2.symm)
  injection e with e1 e2
  subst e1 e2
  obtain ⟨e3, e4, e5⟩ := h3.one k3
  rw [h5, k5, e3, e4, e5]
theorem head_no {w : World} {sp : Option Addr} {cap m : Nat} {l : List Int} (hm : l.length = m) (hb : Cd.Bytes w sp cap l) (hml : m ≤ 100000) (hn : ∀ cv al ps, ¬ HeadIs l cv al ps) :
    Calls Try.prog 32 #[.slice sp m cap] w fun e w' => e = .returned (.tuple #[.agg zeroC, .int .i64 11]) ∧ Below w.heap.size w w' :=
  (parseHead_any w sp cap m l hm hb hml).mono fun e w' ⟨h1, h2⟩ => by
    rcases h2 with ⟨_, _, _, cv, al, ps, h3, _⟩ | ⟨h3, _⟩
    · exact absurd h3 (hn cv al ps)
    · exact ⟨h3, h1⟩
theorem head_yes {w : World} {sp : Option Addr} {cap m : Nat} {l : List Int} (hm : l.length = m) (hb : Cd.Bytes w sp cap l) (hml : m ≤ 100000) (cv : Cfg) (al : List Int) (ps : List (Int × Int)) (hy : HeadIs l cv al ps) :
    Calls Try.prog 32 #[.slice sp m cap] w fun e w' => ∃ ga ca d, e = .returned (.tuple #[.agg (headC cv (some ⟨ga, 0, none⟩) al.length ca (some ⟨d, 0, none⟩) ps.length ps.length), .int .i64 0]) ∧ Cd.Bytes w' (some ⟨ga, 0, none⟩) ca al ∧ Bp.Prs w' (some ⟨d, 0, none⟩) ps.length ps ∧ w.heap.size ≤ ga ∧ w.heap.size ≤ d ∧ Below w.heap.size w w' :=
  (parseHead_any w sp cap m l hm hb hml).mono fun e w' ⟨h1, h2⟩ => by
    rcases h2 with ⟨sa, ca, d, cv', al', ps', h3, h4, h5, h6, ⟨ga, rfl, h7⟩, h8⟩ | ⟨_, h3⟩
    · obtain ⟨rfl, rfl, rfl⟩ := hy.one h3
      exact ⟨ga, ca, d, h4, h5, h6, h7, h8, h1⟩
    · exact absurd hy (h3 _ _ _)
set_option maxHeartbeats 4000000 in
theorem parse_no0 (w : World) (sp : Option Addr) (cap m : Nat) (l : List Int) (hm : l.length = m) (hb : Cd.Bytes w sp cap l) (hml : m ≤ 1000000) (hn : ∀ ps, Cd.small ps → Cd.join ps ≠ l) : Calls Try.prog 11 #[.slice sp m cap] w fun e w' => e = .returned (.tuple #[.agg zeroC, .int .i64 11]) ∧ Below w.heap.size w w' := by
  have HC := Lib.hid (fun W (h : Below w.heap.size w W) => split_no W sp m cap l hm (hb.below h) hml hn)
  clear hm hb hml hn
  go_enter Try.func11, Try.ntmps11
  go_wp2_with (first
    | (go_at_call 31; refine (HC.out _ ((Below.refl _ _).alloc (Nat.le_refl _) _)).mono ?_; rintro e w1 ⟨rfl, hb2⟩; have hal := (Below.refl w.heap.size w).alloc (Nat.le_refl _) (.cells zeroC 31); have HR := Lib.hid ((hb2.block w.heap.size (by simp)).trans (heap_alloc_new w (.cells zeroC 31))); have HB2 := Lib.hid (hal.trans (hb2.mono hal.size)); clear hb2 hal)
    | (refine wpList_store_row rfl 31 (.tmp 2) (.tmp 19) rfl w.heap.size zeroC rfl rfl 31 _ HR.out size_wts rfl zeroC_one ?_))
  exact bodyPost_ret (v := .tuple #[.agg zeroC, .int .i64 11]) (results_row_tmp Try.results11 _ _ w.heap.size 31 _ (0, 0) _ _ rfl (setRow_heap _ _ _ _ _ _ HR.out) Try.underlying31 rfl size_wts rfl) rfl ⟨rfl, Cd.below_setRow HB2.out (Nat.le_refl _) _⟩
set_option maxHeartbeats 4000000 in
theorem parse_no1 (w : World) (sp : Option Addr) (cap m : Nat) (l : List Int) (hm : l.length = m) (hb : Cd.Bytes w sp cap l) (hml : m ≤ 1000000) (hj : Cd.join [] = l) : Calls Try.prog 11 #[.slice sp m cap] w fun e w' => e = .returned (.tuple #[.agg zeroC, .int .i64 11]) ∧ Below w.heap.size w w' := by
  have HC := Lib.hid (fun W (h : Below w.heap.size w W) => split_own W sp m cap l hm (hb.below h) hml [] (fun p hp => by cases hp) hj)
  clear hm hb hml hj
  dsimp only [List.length_nil] at HC
  go_enter Try.func11, Try.ntmps11
  go_wp2_with (first
    | (go_at_call 31; refine (HC.out _ ((Below.refl _ _).alloc (Nat.le_refl _) _)).mono ?_; rintro e w1 ⟨A, c9, rfl, _, hb2⟩; have hal := (Below.refl w.heap.size w).alloc (Nat.le_refl _) (.cells zeroC 31); have HR := Lib.hid ((hb2.block w.heap.size (by simp)).trans (heap_alloc_new w (.cells zeroC 31))); have HB2 := Lib.hid (hal.trans (hb2.mono hal.size)); clear hb2 hal)
    | (refine wpList_store_row rfl 31 (.tmp 2) (.tmp 19) rfl w.heap.size zeroC rfl rfl 31 _ HR.out size_wts rfl zeroC_one ?_))
  exact bodyPost_ret (v := .tuple #[.agg zeroC, .int .i64 11]) (results_row_tmp Try.results11 _ _ w.heap.size 31 _ (0, 0) _ _ rfl (setRow_heap _ _ _ _ _ _ HR.out) Try.underlying31 rfl size_wts rfl) rfl ⟨rfl, Cd.below_setRow HB2.out (Nat.le_refl _) _⟩
set_option maxHeartbeats 4000000 in
theorem parse_noH (w : World) (sp : Option Addr) (cap m : Nat) (l : List Int) (hm : l.length = m) (hb : Cd.Bytes w sp cap l) (hml : m ≤ 1000000) (h : List Int) (ls : List (List Int)) (hs : Cd.small (h :: ls)) (hj : Cd.join (h :: ls) = l) (hh1 : h.length ≤ 100000) (hn : ∀ cv al ps, ¬ HeadIs h cv al ps) : Calls Try.prog 11 #[.slice sp m cap] w fun e w' => e = .returned (.tuple #[.agg zeroC, .int .i64 11]) ∧ Below w.heap.size w w' := by
  have HC := Lib.hid (fun W (h' : Below w.heap.size w W) => split_own W sp m cap l hm (hb.below h') hml (h :: ls) hs hj)
  obtain ⟨K, hK⟩ : ∃ K, (h :: ls).length = K := ⟨_, rfl⟩
  have hK1 : 1 ≤ K := by rw [← hK]; simp
  have HKn : Hid (ls.length = K - 1) := Lib.hid (by rw [← hK]; simp)
  rw [hK] at HC
  have d1 : decide (K < 1) = false := by simp; omega
  have HH := Lib.hid (fun W s q (hb : Cd.Bytes W s q h) => head_no (m := h.length) rfl hb hh1 hn)
  clear hm hb hml hs hj hn hK hh1
  go_enter Try.func11, Try.ntmps11
  go_wp2_with (first
    | (go_at_call 31; refine (HC.out _ ((Below.refl _ _).alloc (Nat.le_refl _) _)).mono ?_; rintro e w1 ⟨A, c9, rfl, hpc, hb2⟩; have hal := (Below.refl w.heap.size w).alloc (Nat.le_refl _) (.cells zeroC 31); have HR := Lib.hid ((hb2.block w.heap.size (by simp)).trans (heap_alloc_new w (.cells zeroC 31))); have HB2 := Lib.hid (hal.trans (hb2.mono hal.size)); obtain ⟨c, o, s0, q0, rfl, k0, b0⟩ := hpc.pieces.at_ 0 (by simp); simp only [Nat.add_zero, List.getD_cons_zero] at k0 b0; have HPc := Lib.hid hpc.pieces; have B0 := Lib.hid b0; clear hpc b0; clear hb2 hal)
    | (go_at_call 32; refine (HH.out _ s0 q0 B0.out).mono ?_; rintro e w2 ⟨rfl, hb3⟩; have hal3 := hb3.trans (((Below.refl w2.heap.size w2).alloc (Nat.le_refl _) (.cells zeroC 31)).mono hb3.size); have HR3 := Lib.hid ((hal3.block _ (Array.getElem?_eq_some_iff.1 HR.out).1).trans HR.out); have HB3 := Lib.hid (HB2.out.trans (hal3.mono HB2.out.size)); clear hb3 hal3)
    | (refine wpList_store_newW rfl 31 (.tmp 6) (.tmp 25) rfl zeroC zeroC 31 rfl rfl rfl size_wts rfl zeroC_one ?_)
    | (refine wpList_store_row rfl 31 (.tmp 2) (.tmp 29) rfl w.heap.size zeroC rfl rfl 31 _ HR3.out size_wts rfl zeroC_one ?_))
  exact bodyPost_ret (v := .tuple #[.agg zeroC, .int .i64 11]) (results_row_tmp Try.results11 _ _ w.heap.size 31 _ (0, 0) _ _ rfl (setRow_heap _ _ _ _ _ _ HR3.out) Try.underlying31 rfl size_wts rfl) rfl ⟨rfl, Cd.below_setRow HB3.out (Nat.le_refl _) _⟩
theorem rd_of (w2 : World) (sp : Option Addr) (cap K : Nat) (h : List Int) (ls : List (List Int)) (hK : ls.length = K - 1) (hP : Cd.Pieces w2 sp cap (h :: ls)) (hln : ∀ p ∈ ls, p.length ≤ 100000) (cv : Cfg) (al : List Int) (ps : List (Int × Int)) (ga ca d : Nat) : Calls Try.prog 33 #[.pointer (some ⟨w2.heap.size, 0, none⟩), .slice (cutA sp cap 1) (K - 1) (cap - 1)] (w2.alloc (.cells (headC cv (some ⟨ga, 0, none⟩) al.length ca (some ⟨d, 0, none⟩) ps.length ps.length) 31)) fun e w4 => Below w2.heap.size w2 w4 ∧ ((e = .returned (.int .i64 11) ∧ ¬ ReadOK cv ls) ∨ (e = .returned (.int .i64 0) ∧ ReadOK cv ls ∧ ∃ lb n2 st β, w2.heap.size < lb ∧ lb < n2 ∧ RdG w4 w2.heap.size lb cv.l.toNat ⟨cv, some ⟨ga, 0, none⟩, al.length, ca, some ⟨d, 0, none⟩, ps.length, ps.length⟩ st ∧ RdS n2 cv.blks ls st β cv.blks.length w4)) := by
  have hal : Below w2.heap.size w2 (w2.alloc (.cells (headC cv (some ⟨ga, 0, none⟩) al.length ca (some ⟨d, 0, none⟩) ps.length ps.length) 31)) := (Below.refl _ _).alloc (Nat.le_refl _) _
  have hlv : LvP (w2.alloc (.cells (headC cv (some ⟨ga, 0, none⟩) al.length ca (some ⟨d, 0, none⟩) ps.length ps.length) 31)) w2.heap.size (cutA sp cap 1) (cap - 1) ls := fun W hW => by
    have h1 := pieces_cut (hP.below (hal.trans (hW.below hal.size fun j hj e => by omega))) 1 (by simp)
    exact h1
  refine (read_any (w2.alloc (.cells (headC cv (some ⟨ga, 0, none⟩) al.length ca (some ⟨d, 0, none⟩) ps.length ps.length) 31)) w2.heap.size ⟨cv, some ⟨ga, 0, none⟩, al.length, ca, some ⟨d, 0, none⟩, ps.length, ps.length⟩ (heap_alloc_new _ _) (cutA sp cap 1) (cap - 1) (K - 1) ls hlv hln hK).mono ?_
  rintro e w4 ⟨hf, h1⟩
  refine ⟨hal.trans (hf.below hal.size fun j hj e => by omega), ?_⟩
  rcases h1 with h1 | ⟨h1, h2, lb, n2, st, β, h3, h4, h5⟩
  · exact Or.inl h1
  · refine Or.inr ⟨h1, h2, lb, n2, st, β, ?_, h4, h5⟩
    rw [World.size_alloc] at h3
    omega
theorem rd_no (w2 : World) (sp : Option Addr) (cap K : Nat) (h : List Int) (ls : List (List Int)) (hK : ls.length = K - 1) (hP : Cd.Pieces w2 sp cap (h :: ls)) (hln : ∀ p ∈ ls, p.length ≤ 100000) (cv : Cfg) (al : List Int) (ps : List (Int × Int)) (ga ca d : Nat) (hno : ¬ ReadOK cv ls) : Calls Try.prog 33 #[.pointer (some ⟨w2.heap.size, 0, none⟩), .slice (cutA sp cap 1) (K - 1) (cap - 1)] (w2.alloc (.cells (headC cv (some ⟨ga, 0, none⟩) al.length ca (some ⟨d, 0, none⟩) ps.length ps.length) 31)) fun e w4 => e = .returned (.int .i64 11) ∧ Below w2.heap.size w2 w4 :=
  (rd_of w2 sp cap K h ls hK hP hln cv al ps ga ca d).mono fun e w4 ⟨h1, h2⟩ => by
    rcases h2 with ⟨h2, _⟩ | ⟨_, h2, _⟩
    · exact ⟨h2, h1⟩
    · exact absurd h2 hno
set_option maxHeartbeats 4000000 in
theorem parse_noR (w : World) (sp : Option Addr) (cap m : Nat) (l : List Int) (hm : l.length = m) (hb : Cd.Bytes w sp cap l) (hml : m ≤ 1000000) (h : List Int) (ls : List (List Int)) (hs : Cd.small (h :: ls)) (hj : Cd.join (h :: ls) = l) (hh1 : h.length ≤ 100000) (cv : Cfg) (al : List Int) (ps : List (Int × Int)) (hy : HeadIs h cv al ps) (hln : ∀ p ∈ ls, p.length ≤ 100000) (hno : ¬ ReadOK cv ls) : Calls Try.prog 11 #[.slice sp m cap] w fun e w' => e = .returned (.tuple #[.agg zeroC, .int .i64 11]) ∧ Below w.heap.size w w' := by
  have HC := Lib.hid (fun W (h' : Below w.heap.size w W) => split_own W sp m cap l hm (hb.below h') hml (h :: ls) hs hj)
  obtain ⟨K, hK⟩ : ∃ K, (h :: ls).length = K := ⟨_, rfl⟩
  have hK1 : 1 ≤ K := by rw [← hK]; simp
  have HKn : Hid (ls.length = K - 1) := Lib.hid (by rw [← hK]; simp)
  rw [hK] at HC
  have d1 : decide (K < 1) = false := by simp; omega
  have HH := Lib.hid (fun W s q (hb : Cd.Bytes W s q h) => head_yes (m := h.length) rfl hb hh1 cv al ps hy)
  have HLn := Lib.hid hln
  clear hm hb hml hs hj hy hK hh1 hln
  go_enter Try.func11, Try.ntmps11
  go_wp2_with (first
    | (go_at_call 31; refine (HC.out _ ((Below.refl _ _).alloc (Nat.le_refl _) _)).mono ?_; rintro e w1 ⟨A, c9, rfl, hpc, hb2⟩; have hal := (Below.refl w.heap.size w).alloc (Nat.le_refl _) (.cells zeroC 31); have HR := Lib.hid ((hb2.block w.heap.size (by simp)).trans (heap_alloc_new w (.cells zeroC 31))); have HB2 := Lib.hid (hal.trans (hb2.mono hal.size)); obtain ⟨c, o, s0, q0, rfl, k0, b0⟩ := hpc.pieces.at_ 0 (by simp); simp only [Nat.add_zero, List.getD_cons_zero] at k0 b0; have HPc := Lib.hid hpc.pieces; have B0 := Lib.hid b0; clear hpc b0; clear hb2 hal)
    | (go_at_call 32; refine (HH.out _ s0 q0 B0.out).mono ?_; rintro e w2 ⟨ga, ca, d, rfl, hby, hpr, hga, hd, hb3⟩; have kC : ∀ w', (Instr.slice 39 (.slice (some ⟨c, o, none⟩) K c9) (some (.int .i64 1)) none none).run Try.prog w' = _ := run_cutL (some ⟨c, o, none⟩) K c9 1 hK1; have HHo := Lib.hid (headC_one cv (some ⟨ga, 0, none⟩) al.length ca (some ⟨d, 0, none⟩) ps.length ps.length); have HHz : Hid ((headC cv (some ⟨ga, 0, none⟩) al.length ca (some ⟨d, 0, none⟩) ps.length ps.length).size = 16) := Lib.hid rfl; have HRd := Lib.hid (rd_no w2 (some ⟨c, o, none⟩) c9 K h ls HKn.out (HPc.out.below hb3) HLn.out cv al ps ga ca d hno); obtain ⟨H, hH⟩ : ∃ H, headC cv (some ⟨ga, 0, none⟩) al.length ca (some ⟨d, 0, none⟩) ps.length ps.length = H := ⟨_, rfl⟩; rw [hH] at HHo HHz HRd ⊢; clear hH; have hal3 := hb3.trans (((Below.refl w2.heap.size w2).alloc (Nat.le_refl _) (.cells H 31)).mono hb3.size); have HR3 := Lib.hid ((hal3.block _ (Array.getElem?_eq_some_iff.1 HR.out).1).trans HR.out); have HB3 := Lib.hid (HB2.out.trans (hal3.mono HB2.out.size)); have HR2 := Lib.hid ((hb3.block _ (Array.getElem?_eq_some_iff.1 HR.out).1).trans HR.out); have HB22 := Lib.hid (HB2.out.trans (hb3.mono HB2.out.size)); have HGa := Lib.hid hga; have HDd := Lib.hid hd; have HLt1 := Lib.hid (Nat.lt_of_lt_of_le (Array.getElem?_eq_some_iff.1 HR.out).1 (Nat.le_refl _)); clear hb3 hal3 hga hd hby hpr k0)
    | (refine wpList_store_newW rfl 31 (.tmp 6) (.tmp 25) rfl H zeroC 31 rfl rfl rfl (by rw [HHz.out]; exact size_wts) (by rw [HHz.out]; rfl) HHo.out ?_)
    | (go_at_call 33; refine HRd.out.mono ?_; rintro e w4 ⟨rfl, hb4⟩; have HR4 := Lib.hid ((hb4.block _ (Array.getElem?_eq_some_iff.1 HR2.out).1).trans HR2.out); have HB4 := Lib.hid (HB22.out.trans (hb4.mono HB22.out.size)); clear hb4)
    | (refine wpList_store_row rfl 31 (.tmp 2) (.tmp 36) rfl w.heap.size zeroC rfl rfl 31 _ HR4.out size_wts rfl zeroC_one ?_))
  exact bodyPost_ret (v := .tuple #[.agg zeroC, .int .i64 11]) (results_row_tmp Try.results11 _ _ w.heap.size 31 _ (0, 0) _ _ rfl (setRow_heap _ _ _ _ _ _ HR4.out) Try.underlying31 rfl size_wts rfl) rfl ⟨rfl, Cd.below_setRow HB4.out (Nat.le_refl _) _⟩
theorem wv_one (v : Wv) : v.cells.all (·.oneCell') = true := by kernel_rfl
theorem rd_yes (w2 : World) (sp : Option Addr) (cap K : Nat) (h : List Int) (ls : List (List Int)) (hK : ls.length = K - 1) (hP : Cd.Pieces w2 sp cap (h :: ls)) (hln : ∀ p ∈ ls, p.length ≤ 100000) (cv : Cfg) (al : List Int) (ps : List (Int × Int)) (ga ca d : Nat) (hby : Cd.Bytes w2 (some ⟨ga, 0, none⟩) ca al) (hpr : Bp.Prs w2 (some ⟨d, 0, none⟩) ps.length ps) (hok : ReadOK cv ls) (hal : al.length ≤ 1000) (hps : ps.length ≤ 400) : Calls Try.prog 33 #[.pointer (some ⟨w2.heap.size, 0, none⟩), .slice (cutA sp cap 1) (K - 1) (cap - 1)] (w2.alloc (.cells (headC cv (some ⟨ga, 0, none⟩) al.length ca (some ⟨d, 0, none⟩) ps.length ps.length) 31)) fun e w4 => e = .returned (.int .i64 0) ∧ Below w2.heap.size w2 w4 ∧ ∃ (lb n2 : Nat) (st : Nat → Nat → St) (β : Nat → Nat) (v : Wv), w2.heap.size < lb ∧ lb < n2 ∧ RdG w4 w2.heap.size lb cv.l.toNat ⟨cv, some ⟨ga, 0, none⟩, al.length, ca, some ⟨d, 0, none⟩, ps.length, ps.length⟩ st ∧ RdS n2 cv.blks ls st β cv.blks.length w4 ∧ w4.heap[w2.heap.size]? = some (.cells v.cells 31 (0, 0)) ∧ Calls Try.prog 34 #[.agg v.cells] w4 fun e w5 => e = .returned (.int .i64 (mdR cv al ps ls).chk) ∧ Below w4.heap.size w4 w5 :=
  (rd_of w2 sp cap K h ls hK hP hln cv al ps ga ca d).mono fun e w4 ⟨h1, h2⟩ => by
    rcases h2 with ⟨_, h2⟩ | ⟨h2, _, lb, n2, st, β, h3, h4, h5, h6⟩
    · exact absurd hok h2
    · obtain ⟨v, hM, _⟩ := rd_model (hh := ⟨cv, some ⟨ga, 0, none⟩, al.length, ca, some ⟨d, 0, none⟩, ps.length, ps.length⟩) (al := al) (ps := ps) h5 h6 hok h4 (bytsOf (hby.below h1)) rfl (hpr.below h1) rfl
      exact ⟨h2, h1, lb, n2, st, β, v, h3, h4, h5, h6, hM.row, check_any w4 v _ hM.ok hal (show ps.length ≤ 1000 by omega)⟩
set_option maxHeartbeats 4000000 in
theorem parse_chk (w : World) (sp : Option Addr) (cap m : Nat) (l : List Int) (hm : l.length = m) (hb : Cd.Bytes w sp cap l) (hml : m ≤ 1000000) (h : List Int) (ls : List (List Int)) (hs : Cd.small (h :: ls)) (hj : Cd.join (h :: ls) = l) (hh1 : h.length ≤ 100000) (cv : Cfg) (al : List Int) (ps : List (Int × Int)) (hy : HeadIs h cv al ps) (hln : ∀ p ∈ ls, p.length ≤ 100000) (hok : ReadOK cv ls) (hal : al.length ≤ 1000) (hps : ps.length ≤ 400) (E : Int) (hE : (mdR cv al ps ls).chk = E) (hne : E ≠ 0) : Calls Try.prog 11 #[.slice sp m cap] w fun e w' => e = .returned (.tuple #[.agg zeroC, .int .i64 E]) ∧ Below w.heap.size w w' := by
  have HC := Lib.hid (fun W (h' : Below w.heap.size w W) => split_own W sp m cap l hm (hb.below h') hml (h :: ls) hs hj)
  obtain ⟨K, hK⟩ : ∃ K, (h :: ls).length = K := ⟨_, rfl⟩
  have hK1 : 1 ≤ K := by rw [← hK]; simp
  have HKn : Hid (ls.length = K - 1) := Lib.hid (by rw [← hK]; simp)
  rw [hK] at HC
  have d1 : decide (K < 1) = false := by simp; omega
  have HH := Lib.hid (fun W s q (hb : Cd.Bytes W s q h) => head_yes (m := h.length) rfl hb hh1 cv al ps hy)
  have HLn := Lib.hid hln
  have HOk := Lib.hid hok
  have HAl := Lib.hid hal
  have HPs := Lib.hid hps
  have HE := Lib.hid hE
  have n1 : (E == 0) = false := by simpa using hne
  have n2 : (E != 0) = true := by simpa using hne
  clear hm hb hml hs hj hy hK hh1 hln hok hal hps hE hne
  go_enter Try.func11, Try.ntmps11
  go_wp2_with (first
    | (go_at_call 31; refine (HC.out _ ((Below.refl _ _).alloc (Nat.le_refl _) _)).mono ?_; rintro e w1 ⟨A, c9, rfl, hpc, hb2⟩; have hal := (Below.refl w.heap.size w).alloc (Nat.le_refl _) (.cells zeroC 31); have HR := Lib.hid ((hb2.block w.heap.size (by simp)).trans (heap_alloc_new w (.cells zeroC 31))); have HB2 := Lib.hid (hal.trans (hb2.mono hal.size)); obtain ⟨c, o, s0, q0, rfl, k0, b0⟩ := hpc.pieces.at_ 0 (by simp); simp only [Nat.add_zero, List.getD_cons_zero] at k0 b0; have HPc := Lib.hid hpc.pieces; have B0 := Lib.hid b0; clear hpc b0; clear hb2 hal)
    | (go_at_call 32; refine (HH.out _ s0 q0 B0.out).mono ?_; rintro e w2 ⟨ga, ca, d, rfl, hby, hpr, hga, hd, hb3⟩; have kC : ∀ w', (Instr.slice 39 (.slice (some ⟨c, o, none⟩) K c9) (some (.int .i64 1)) none none).run Try.prog w' = _ := run_cutL (some ⟨c, o, none⟩) K c9 1 hK1; have HHo := Lib.hid (headC_one cv (some ⟨ga, 0, none⟩) al.length ca (some ⟨d, 0, none⟩) ps.length ps.length); have HHz : Hid ((headC cv (some ⟨ga, 0, none⟩) al.length ca (some ⟨d, 0, none⟩) ps.length ps.length).size = 16) := Lib.hid rfl; have HRd := Lib.hid (rd_yes w2 (some ⟨c, o, none⟩) c9 K h ls HKn.out (HPc.out.below hb3) HLn.out cv al ps ga ca d hby hpr HOk.out HAl.out HPs.out); have HBy := Lib.hid hby; have HPr := Lib.hid hpr; rw [HE.out] at HRd; obtain ⟨H, hH⟩ : ∃ H, headC cv (some ⟨ga, 0, none⟩) al.length ca (some ⟨d, 0, none⟩) ps.length ps.length = H := ⟨_, rfl⟩; rw [hH] at HHo HHz HRd ⊢; clear hH; have hal3 := hb3.trans (((Below.refl w2.heap.size w2).alloc (Nat.le_refl _) (.cells H 31)).mono hb3.size); have HR3 := Lib.hid ((hal3.block _ (Array.getElem?_eq_some_iff.1 HR.out).1).trans HR.out); have HB3 := Lib.hid (HB2.out.trans (hal3.mono HB2.out.size)); have HR2 := Lib.hid ((hb3.block _ (Array.getElem?_eq_some_iff.1 HR.out).1).trans HR.out); have HB22 := Lib.hid (HB2.out.trans (hb3.mono HB2.out.size)); have HGa := Lib.hid hga; have HDd := Lib.hid hd; have HLt1 := Lib.hid (Nat.lt_of_lt_of_le (Array.getElem?_eq_some_iff.1 HR.out).1 (Nat.le_refl _)); clear hb3 hal3 hga hd hby hpr k0)
    | (refine wpList_store_newW rfl 31 (.tmp 6) (.tmp 25) rfl H zeroC 31 rfl rfl rfl (by rw [HHz.out]; exact size_wts) (by rw [HHz.out]; rfl) HHo.out ?_)
    | (go_at_call 33; refine HRd.out.mono ?_; rintro e w4 ⟨rfl, hb4, lb, n2, st, β, v, hlb, hn2, hS, hR, hrw, hck⟩; have HLb := Lib.hid hlb; have HN2 := Lib.hid hn2; have HS4 := Lib.hid hS; have HRs4 := Lib.hid hR; have HRw := Lib.hid hrw; have HCk := Lib.hid hck; have HR4 := Lib.hid ((hb4.block _ (Array.getElem?_eq_some_iff.1 HR2.out).1).trans HR2.out); have HB4 := Lib.hid (HB22.out.trans (hb4.mono HB22.out.size)); have HBy4 := Lib.hid (HBy.out.below hb4); have HPr4 := Lib.hid (HPr.out.below hb4); clear hb4 hlb hn2 hS hR hrw hck)
    | (refine wpList_load_row rfl 31 (.tmp 6) rfl w2.heap.size rfl 31 v.cells (0, 0) _ HRw.out Try.underlying31 rfl size_wts ?_)
    | (go_at_call 34; refine HCk.out.mono ?_; rintro e w5 ⟨rfl, hb5⟩; have HR5 := Lib.hid ((hb5.block _ (Array.getElem?_eq_some_iff.1 HR4.out).1).trans HR4.out); have HB5 := Lib.hid (HB4.out.trans (hb5.mono HB4.out.size)); have HRw5 := Lib.hid ((hb5.block _ (Array.getElem?_eq_some_iff.1 HRw.out).1).trans HRw.out); have HL5 := Lib.hid hb5; clear hb5)
    | (refine wpList_store_row rfl 31 (.tmp 2) (.tmp 42) rfl w.heap.size zeroC rfl rfl 31 _ HR5.out size_wts rfl zeroC_one ?_))
  exact bodyPost_ret (v := .tuple #[.agg zeroC, .int .i64 E]) (results_row_tmp Try.results11 _ _ w.heap.size 31 _ (0, 0) _ _ rfl (setRow_heap _ _ _ _ _ _ HR5.out) Try.underlying31 rfl size_wts rfl) rfl ⟨rfl, Cd.below_setRow HB5.out (Nat.le_refl _) _⟩
/-- what Parse answers of bytes that are a model -/
def ParseOK (w : World) (M : Md) (e : Ending) (w' : World) : Prop := ∃ v n2 β, e = .returned (.tuple #[.agg v.cells, .int .i64 0]) ∧ WvOK w' v M ∧ Owned w' n2 v M β ∧ w.heap.size < n2 ∧ (∃ ga, v.sa = some ⟨ga, 0, none⟩ ∧ w.heap.size ≤ ga ∧ (0 < M.al.length → ga < n2)) ∧ (∃ d, v.sp = some ⟨d, 0, none⟩ ∧ w.heap.size ≤ d ∧ (0 < M.ps.length → d < n2)) ∧ Below w.heap.size w w'
set_option maxHeartbeats 4000000 in
theorem parse_ok (w : World) (sp : Option Addr) (cap m : Nat) (l : List Int) (hm : l.length = m) (hb : Cd.Bytes w sp cap l) (hml : m ≤ 1000000) (h : List Int) (ls : List (List Int)) (hs : Cd.small (h :: ls)) (hj : Cd.join (h :: ls) = l) (hh1 : h.length ≤ 100000) (cv : Cfg) (al : List Int) (ps : List (Int × Int)) (hy : HeadIs h cv al ps) (hln : ∀ p ∈ ls, p.length ≤ 100000) (hok : ReadOK cv ls) (hal : al.length ≤ 1000) (hps : ps.length ≤ 400) (hE : (mdR cv al ps ls).chk = 0) : Calls Try.prog 11 #[.slice sp m cap] w (ParseOK w (mdR cv al ps ls)) := by
  have HC := Lib.hid (fun W (h' : Below w.heap.size w W) => split_own W sp m cap l hm (hb.below h') hml (h :: ls) hs hj)
  obtain ⟨K, hK⟩ : ∃ K, (h :: ls).length = K := ⟨_, rfl⟩
  have hK1 : 1 ≤ K := by rw [← hK]; simp
  have HKn : Hid (ls.length = K - 1) := Lib.hid (by rw [← hK]; simp)
  rw [hK] at HC
  have d1 : decide (K < 1) = false := by simp; omega
  have HH := Lib.hid (fun W s q (hb : Cd.Bytes W s q h) => head_yes (m := h.length) rfl hb hh1 cv al ps hy)
  have HLn := Lib.hid hln
  have HOk := Lib.hid hok
  have HAl := Lib.hid hal
  have HPs := Lib.hid hps
  have HE := Lib.hid hE
  clear hm hb hml hs hj hy hK hh1 hln hok hal hps hE
  go_enter Try.func11, Try.ntmps11
  go_wp2_with (first
    | (go_at_call 31; refine (HC.out _ ((Below.refl _ _).alloc (Nat.le_refl _) _)).mono ?_; rintro e w1 ⟨A, c9, rfl, hpc, hb2⟩; have hal := (Below.refl w.heap.size w).alloc (Nat.le_refl _) (.cells zeroC 31); have HR := Lib.hid ((hb2.block w.heap.size (by simp)).trans (heap_alloc_new w (.cells zeroC 31))); have HB2 := Lib.hid (hal.trans (hb2.mono hal.size)); obtain ⟨c, o, s0, q0, rfl, k0, b0⟩ := hpc.pieces.at_ 0 (by simp); simp only [Nat.add_zero, List.getD_cons_zero] at k0 b0; have HPc := Lib.hid hpc.pieces; have B0 := Lib.hid b0; clear hpc b0; clear hb2 hal)
    | (go_at_call 32; refine (HH.out _ s0 q0 B0.out).mono ?_; rintro e w2 ⟨ga, ca, d, rfl, hby, hpr, hga, hd, hb3⟩; have kC : ∀ w', (Instr.slice 39 (.slice (some ⟨c, o, none⟩) K c9) (some (.int .i64 1)) none none).run Try.prog w' = _ := run_cutL (some ⟨c, o, none⟩) K c9 1 hK1; have HHo := Lib.hid (headC_one cv (some ⟨ga, 0, none⟩) al.length ca (some ⟨d, 0, none⟩) ps.length ps.length); have HHz : Hid ((headC cv (some ⟨ga, 0, none⟩) al.length ca (some ⟨d, 0, none⟩) ps.length ps.length).size = 16) := Lib.hid rfl; have HRd := Lib.hid (rd_yes w2 (some ⟨c, o, none⟩) c9 K h ls HKn.out (HPc.out.below hb3) HLn.out cv al ps ga ca d hby hpr HOk.out HAl.out HPs.out); have HBy := Lib.hid hby; have HPr := Lib.hid hpr; rw [HE.out] at HRd; obtain ⟨H, hH⟩ : ∃ H, headC cv (some ⟨ga, 0, none⟩) al.length ca (some ⟨d, 0, none⟩) ps.length ps.length = H := ⟨_, rfl⟩; rw [hH] at HHo HHz HRd ⊢; clear hH; have hal3 := hb3.trans (((Below.refl w2.heap.size w2).alloc (Nat.le_refl _) (.cells H 31)).mono hb3.size); have HR3 := Lib.hid ((hal3.block _ (Array.getElem?_eq_some_iff.1 HR.out).1).trans HR.out); have HB3 := Lib.hid (HB2.out.trans (hal3.mono HB2.out.size)); have HR2 := Lib.hid ((hb3.block _ (Array.getElem?_eq_some_iff.1 HR.out).1).trans HR.out); have HB22 := Lib.hid (HB2.out.trans (hb3.mono HB2.out.size)); have HGa := Lib.hid hga; have HDd := Lib.hid hd; have HLt1 := Lib.hid (Nat.lt_of_lt_of_le (Array.getElem?_eq_some_iff.1 HR.out).1 (Nat.le_refl _)); clear hb3 hal3 hga hd hby hpr k0)
    | (refine wpList_store_newW rfl 31 (.tmp 6) (.tmp 25) rfl H zeroC 31 rfl rfl rfl (by rw [HHz.out]; exact size_wts) (by rw [HHz.out]; rfl) HHo.out ?_)
    | (go_at_call 33; refine HRd.out.mono ?_; rintro e w4 ⟨rfl, hb4, lb, n2, st, β, v, hlb, hn2, hS, hR, hrw, hck⟩; have HLb := Lib.hid hlb; have HN2 := Lib.hid hn2; have HS4 := Lib.hid hS; have HRs4 := Lib.hid hR; have HRw := Lib.hid hrw; have HCk := Lib.hid hck; have HR4 := Lib.hid ((hb4.block _ (Array.getElem?_eq_some_iff.1 HR2.out).1).trans HR2.out); have HB4 := Lib.hid (HB22.out.trans (hb4.mono HB22.out.size)); have HBy4 := Lib.hid (HBy.out.below hb4); have HPr4 := Lib.hid (HPr.out.below hb4); clear hb4 hlb hn2 hS hR hrw hck)
    | (refine wpList_load_row rfl 31 (.tmp 6) rfl w2.heap.size rfl 31 v.cells (0, 0) _ HRw.out Try.underlying31 rfl size_wts ?_)
    | (go_at_call 34; refine HCk.out.mono ?_; rintro e w5 ⟨rfl, hb5⟩; have HR5 := Lib.hid ((hb5.block _ (Array.getElem?_eq_some_iff.1 HR4.out).1).trans HR4.out); have HB5 := Lib.hid (HB4.out.trans (hb5.mono HB4.out.size)); have HRw5 := Lib.hid ((hb5.block _ (Array.getElem?_eq_some_iff.1 HRw.out).1).trans HRw.out); have HL5 := Lib.hid hb5; clear hb5)
    | (refine wpList_load_row rfl 31 (.tmp 6) rfl w2.heap.size rfl 31 v.cells (0, 0) _ HRw5.out Try.underlying31 rfl size_wts ?_)
    | (refine wpList_store_row rfl 31 (.tmp 2) (.tmp 44) rfl w.heap.size v.cells rfl rfl 31 _ HR5.out size_wts rfl (wv_one v) ?_))
  have hg2 : w.heap.size < w2.heap.size := (Array.getElem?_eq_some_iff.1 HR2.out).1
  have h6 : ∀ j, j ≠ w.heap.size → (w5.setRow w.heap.size v.cells).heap[j]? = w5.heap[j]? := fun j hj => setRow_other _ _ _ _ hj
  have hS6 := ((HS4.out.later HL5.out).over (h6 _ (by omega)) (h6 _ (by have := HLb.out; omega)))
  have hR6 := (HRs4.out.over (W' := w5) (fun j _ hj => HL5.out.block j hj)).over (W' := w5.setRow w.heap.size v.cells) (fun j h1 _ => h6 j (by have := HLb.out; have := HN2.out; omega))
  have hw1 : w.heap.size < w1.heap.size := (Array.getElem?_eq_some_iff.1 HR.out).1
  have hby6 := bytes_setRow (C := v.cells) (HBy4.out.below HL5.out) HR5.out zeroC_no
  have hpr6 := prs_setRow (g := w.heap.size) (C := v.cells) (HPr4.out.below HL5.out) (by have := HDd.out; omega)
  obtain ⟨v6, hM6, hO6, hsa, hsp⟩ := rd_model (hh := ⟨cv, some ⟨ga, 0, none⟩, al.length, ca, some ⟨d, 0, none⟩, ps.length, ps.length⟩) (al := al) (ps := ps) hS6 hR6 HOk.out HN2.out (bytsOf hby6) rfl hpr6 rfl
  have hv6 : v.cells = v6.cells := by
    have e1 := (h6 _ (show w2.heap.size ≠ w.heap.size by omega)).trans HRw5.out
    have e2 := hM6.row
    rw [e1] at e2
    injection e2 with e2
    injection e2
  exact bodyPost_ret (v := .tuple #[.agg v.cells, .int .i64 0]) (results_row_tmp Try.results11 _ _ w.heap.size 31 _ (0, 0) _ _ rfl (setRow_heap _ _ _ _ _ _ HR5.out) Try.underlying31 rfl size_wts rfl) rfl ⟨v6, n2, β, by rw [hv6], hM6.ok, hO6, by have := HLb.out; have := HN2.out; omega, ⟨ga, hsa, by have := HGa.out; omega, fun h0 => by
    obtain ⟨c', o', e, h2⟩ := HBy.out.at_ 0 h0
    cases e
    have := block_lt_of_cell h2
    have := HLb.out
    have := HN2.out
    dsimp only at *
    omega⟩, ⟨d, hsp, by have := HDd.out; omega, fun h0 => by
    obtain ⟨c', o', e, h2⟩ := HPr.out.lies h0
    cases e
    have := block_lt_of_cell (h2 0 h0 0 _ rfl)
    have := HLb.out
    have := HN2.out
    dsimp only at *
    omega⟩, Cd.below_setRow HB5.out (Nat.le_refl _) _⟩
end Go.Proofs.Ytkfkjapkcjidnaa.Wg
namespace Go.Proofs.Ytkfkjapkcjidnaa.Wg
set_option maxRecDepth 100000
open Go.ChangeShapes Go.WideShapes Go.ChangeAt Go.RowKit Go.Shelf Go.Proofs.Ytkfkjapkcjidnaa.Tn
attribute [local go_sem] Oper.semAt_some

/-! ### numbers and their bytes -/
theorem flatMap_same {α β : Type} {l : List α} {f g : α → List β} (h : ∀ x ∈ l, f x = g x) : l.flatMap f = l.flatMap g := by
  induction l with
  | nil => rfl
  | cons x l ih => rw [List.flatMap_cons, List.flatMap_cons, h x (by simp), ih fun y hy => h y (by simp [hy])]
def i64 (l : List Int) : Prop := ∀ x ∈ l, -9223372036854775808 ≤ x ∧ x ≤ 9223372036854775807
theorem num_be (n : Int) (h1 : -9223372036854775808 ≤ n) (h2 : n ≤ 9223372036854775807) : Cd.num (Cd.be 8 n) = n := by
  unfold Cd.num
  rw [Cd.val_be]
  simp [IntKind.wrap, IntKind.bits, IntKind.signed]
  omega
theorem be_num (t : List Int) (h : t.length = 8) (hr : Cd.rng t) : Cd.be 8 (Cd.num t) = t := by
  have hv := Cd.val_bound 8 t h hr
  have e : Cd.num t % 256 ^ 8 = Cd.val t := by
    unfold Cd.num
    simp [IntKind.wrap, IntKind.bits, IntKind.signed]
    simp at hv
    omega
  rw [← Cd.be_mod, e, Cd.be_val 8 t h hr]
theorem num_i64 (t : List Int) : -9223372036854775808 ≤ Cd.num t ∧ Cd.num t ≤ 9223372036854775807 := by
  unfold Cd.num
  simp [IntKind.wrap, IntKind.bits, IntKind.signed]
  omega
theorem ints_i64 (l : List Int) (q : Nat) : i64 (Cd.ints l q) := fun x hx => by
  unfold Cd.ints at hx
  obtain ⟨i, _, rfl⟩ := List.mem_map.1 hx
  exact num_i64 _
theorem nums_ints (b : List Int) (hr : Cd.rng b) : ∀ q, 8 * q ≤ b.length → Cd.nums (Cd.ints b q) = b.take (8 * q)
  | 0, _ => by simp [Cd.ints, Cd.nums]
  | q + 1, h => by
    rw [Cd.ints_succ, Cd.nums_snoc, nums_ints b hr q (by omega), be_num _ (by simp; omega) (Cd.rng_take (Cd.rng_drop hr _) 8), show 8 * (q + 1) = 8 * q + 8 by omega, List.take_add]
theorem nums_ints_all (b : List Int) (hr : Cd.rng b) (q : Nat) (h : b.length = 8 * q) : Cd.nums (Cd.ints b q) = b := by
  rw [nums_ints b hr q (by omega), List.take_of_length_le (by omega)]
theorem nums_append (a b : List Int) : Cd.nums (a ++ b) = Cd.nums a ++ Cd.nums b := by simp [Cd.nums]
theorem ints_nums (m : List Int) (hr : i64 m) : ∀ q, q ≤ m.length → Cd.ints (Cd.nums m) q = m.take q
  | 0, _ => by simp [Cd.ints]
  | q + 1, h => by
    have hq : q < m.length := by omega
    have e : Cd.nums m = Cd.nums (m.take q) ++ (Cd.be 8 m[q] ++ Cd.nums (m.drop (q + 1))) := by
      have : m = m.take q ++ ([m[q]] ++ m.drop (q + 1)) := by simp
      calc Cd.nums m = Cd.nums (m.take q ++ ([m[q]] ++ m.drop (q + 1))) := by rw [← this]
        _ = _ := by rw [nums_append, nums_append]; simp [Cd.nums]
    have e2 : ((Cd.nums m).drop (8 * q)).take 8 = Cd.be 8 m[q] := by
      rw [e, List.drop_left' (by rw [nums_length, List.length_take, Nat.min_eq_left (by omega)]), List.take_left' (Cd.be_length _ _)]
    have hx := hr m[q] (List.getElem_mem hq)
    rw [Cd.ints_succ, ints_nums m hr q (by omega), e2, num_be _ hx.1 hx.2, List.take_succ_eq_append_getElem hq]
theorem ints_nums_all (m : List Int) (hr : i64 m) (q : Nat) (h : m.length = q) : Cd.ints (Cd.nums m) q = m := by
  rw [ints_nums m hr q (by omega), List.take_of_length_le (by omega)]
theorem rng_piece {ls : List (List Int)} (h : Cd.rng (Cd.join ls)) : ∀ l ∈ ls, Cd.rng l := fun l hl x hx => h x (by
  simp only [Cd.join, Cd.pc, List.mem_flatMap, List.mem_append]
  exact ⟨l, hl, Or.inr hx⟩)
/-! ### pairs -/
theorem flatP_prsOf (il : List Int) (P : Nat) (h : il.length = 2 * P) : flatP (prsOf il P) = il := by
  have key : ∀ k, k ≤ P → flatP ((List.range k).map fun k => (il.getD (2 * k) 0, il.getD (2 * k + 1) 0)) = il.take (2 * k) := fun k => by
    induction k with
    | zero => intro _; simp [flatP]
    | succ k ih =>
      intro hk
      have h1 := ih (by omega)
      unfold flatP at h1 ⊢
      have e : il.take (2 * (k + 1)) = il.take (2 * k) ++ [il[2 * k]'(by omega), il[2 * k + 1]'(by omega)] := by
        rw [show 2 * (k + 1) = 2 * k + 1 + 1 by omega, List.take_succ_eq_append_getElem (show 2 * k + 1 < il.length by omega), List.take_succ_eq_append_getElem (show 2 * k < il.length by omega), List.append_assoc]
        rfl
      rw [e, List.range_succ, List.map_append, List.flatMap_append, h1]
      simp [List.getD_eq_getElem?_getD, List.getElem?_eq_getElem (show 2 * k < il.length by omega), List.getElem?_eq_getElem (show 2 * k + 1 < il.length by omega)]
  rw [show prsOf il P = (List.range P).map fun k => (il.getD (2 * k) 0, il.getD (2 * k + 1) 0) from rfl, key P (Nat.le_refl _), List.take_of_length_le (by omega)]
theorem prsOf_flatP (ps : List (Int × Int)) : prsOf (flatP ps) ps.length = ps := by
  have hg : ∀ (ps : List (Int × Int)) k, k < ps.length → (flatP ps).getD (2 * k) 0 = (ps.getD k (0, 0)).1 ∧ (flatP ps).getD (2 * k + 1) 0 = (ps.getD k (0, 0)).2 := fun ps => by
    induction ps with
    | nil => intro k h; cases h
    | cons p ps ih =>
      intro k hk
      have e : flatP (p :: ps) = p.1 :: p.2 :: flatP ps := by simp [flatP]
      rw [e]
      cases k with
      | zero => exact ⟨rfl, rfl⟩
      | succ k =>
        obtain ⟨h1, h2⟩ := ih k (by simpa using hk)
        rw [show 2 * (k + 1) = 2 * k + 1 + 1 by omega]
        exact ⟨h1, h2⟩
  refine List.ext_getElem? fun k => ?_
  unfold prsOf
  rw [List.getElem?_map]
  by_cases hk : k < ps.length
  · obtain ⟨e1, e2⟩ := hg ps k hk
    rw [List.getElem?_range hk, Option.map_some, e1, e2, List.getD_eq_getElem?_getD, List.getElem?_eq_getElem hk]
    rfl
  · rw [List.getElem?_eq_none (by simp; omega), List.getElem?_eq_none (by omega)]
    rfl
theorem flatP_i64 {ps : List (Int × Int)} (h : ∀ p ∈ ps, (-9223372036854775808 ≤ p.1 ∧ p.1 ≤ 9223372036854775807) ∧ (-9223372036854775808 ≤ p.2 ∧ p.2 ≤ 9223372036854775807)) : i64 (flatP ps) := fun x hx => by
  unfold flatP at hx
  obtain ⟨p, hp, hx⟩ := List.mem_flatMap.1 hx
  simp at hx
  obtain ⟨h1, h2⟩ := h p hp
  rcases hx with rfl | rfl
  · exact h1
  · exact h2
/-! ### the first leaf -/
theorem cfgOf_list (c : Cfg) : cfgOf c.list = c := rfl
theorem list_cfgOf (l : List Int) (h : l.length = 6) : (cfgOf l).list = l := by
  match l, h with
  | [a, b, c, d, e, f], _ => rfl
theorem HeadIs.back {h : List Int} {c : Cfg} {al : List Int} {ps : List (Int × Int)} (hr : Cd.rng h) (k : HeadIs h c al ps) : headB c al ps = h := by
  obtain ⟨a, p, P, h1, h2, h3, h4, h5, h6⟩ := k
  have hra := rng_piece (ls := [a, al, p]) (by rw [h2]; exact hr) a (by simp)
  have hrp := rng_piece (ls := [a, al, p]) (by rw [h2]; exact hr) p (by simp)
  unfold headB
  rw [h5, list_cfgOf _ (Cd.ints_length _ _), nums_ints_all a hra 6 (by omega), h6, flatP_prsOf _ _ (Cd.ints_length _ _), nums_ints_all p hrp (2 * P) (by omega)]
  exact h2
theorem HeadIs.of {c : Cfg} {al : List Int} {ps : List (Int × Int)} (hc : i64 c.list) (hp : i64 (flatP ps)) (ha : al.length ≤ 1000000) (hpl : ps.length ≤ 1000000) : HeadIs (headB c al ps) c al ps := by
  refine ⟨Cd.nums c.list, Cd.nums (flatP ps), ps.length, fun l hl => ?_, rfl, by rw [nums_length]; rfl, by rw [nums_length, flatP_length]; omega, ?_, ?_⟩
  · simp only [List.mem_cons, List.not_mem_nil, or_false] at hl
    rcases hl with rfl | rfl | rfl
    · rw [nums_length, show c.list.length = 6 from rfl]; decide
    · omega
    · rw [nums_length, flatP_length]; omega
  · rw [ints_nums_all _ hc 6 rfl, cfgOf_list]
  · rw [ints_nums_all _ hp (2 * ps.length) (flatP_length ps), prsOf_flatP]
/-! ### the leaves of a part -/
theorem numsR_drop (b : Bl) (ls : List (List Int)) (q R : Nat) (hq : q < R) (hl : R ≤ ls.length) : ((numsR b ls R).drop (q * b.c)).take b.c = Cd.ints (ls.getD q []) b.c := by
  have h1 : numsR b ls R = numsR b ls q ++ (Cd.ints (ls.getD q []) b.c ++ (((ls.take R).drop (q + 1)).flatMap fun l => Cd.ints l b.c)) := by
    unfold numsR
    have e : ls.take R = ls.take q ++ ([ls.getD q []] ++ (ls.take R).drop (q + 1)) := by
      have e1 : ls.take R = (ls.take R).take q ++ (ls.take R).drop q := (List.take_append_drop _ _).symm
      rw [List.take_take, Nat.min_eq_left (by omega)] at e1
      have e2 : (ls.take R).drop q = (ls.take R)[q]'(by rw [List.length_take]; omega) :: (ls.take R).drop (q + 1) := List.drop_eq_getElem_cons (by rw [List.length_take]; omega)
      rw [List.getElem_take] at e2
      have e3 : ls.getD q [] = ls[q]'(by omega) := by rw [List.getD_eq_getElem?_getD, List.getElem?_eq_getElem (by omega)]; rfl
      rw [e3]
      rw [e2] at e1
      exact e1
    conv => lhs; rw [e]
    rw [List.flatMap_append, List.flatMap_append]
    simp
  rw [h1, List.drop_left' (numsR_length b ls q (by omega)), List.take_left' (Cd.ints_length _ _)]
theorem leavesB_back (b : Bl) (ls : List (List Int)) (hl : b.r ≤ ls.length) (hf : fitB b ls) (hr : ∀ l ∈ ls, Cd.rng l) : leavesB b (partR b ls) = ls.take b.r := by
  unfold leavesB rowsL partR
  dsimp only
  refine List.ext_getElem (by simp; omega) fun q h1 h2 => ?_
  have hq : q < b.r := by simpa using h1
  rw [List.getElem_map, List.getElem_map, List.getElem_range, numsR_drop b ls q b.r hq hl, List.getElem_take]
  have e : ls.getD q [] = ls[q] := by rw [List.getD_eq_getElem?_getD, List.getElem?_eq_getElem (by omega)]; rfl
  rw [nums_ints_all _ (by rw [e]; exact hr _ (List.getElem_mem _)) b.c (hf q hq), e]
/-- all leaves behind the first one -/
theorem leaves_all (m : Md) (ls : List (List Int)) (hl : ls.length = rowsB m.cfg.blks) (hf : fits m.cfg.blks ls) (hr : ∀ l ∈ ls, Cd.rng l) (hp : ∀ i b, m.cfg.blks[i]? = some b → m.part b.k b.y = partR b (ls.drop (rowsB (m.cfg.blks.take i)))) : (m.cfg.blks.flatMap fun b => leavesB b (m.part b.k b.y)) = ls := by
  have key : ∀ k, k ≤ m.cfg.blks.length → ((m.cfg.blks.take k).flatMap fun b => leavesB b (m.part b.k b.y)) = ls.take (rowsB (m.cfg.blks.take k)) := fun k => by
    induction k with
    | zero => intro _; simp [rowsB]
    | succ k ih =>
      intro hk
      have hb : m.cfg.blks[k]? = some (m.cfg.blks[k]'(by omega)) := List.getElem?_eq_getElem (by omega)
      obtain ⟨b, hbb⟩ : ∃ b, m.cfg.blks[k]'(by omega) = b := ⟨_, rfl⟩
      rw [hbb] at hb
      have hle : rowsB (m.cfg.blks.take k) + b.r ≤ ls.length := by
        rw [← rowsB_split hb, hl]
        exact rowsB_take_le _ _
      rw [List.take_add_one, List.flatMap_append, ih (by omega), hb]
      have e : rowsB (m.cfg.blks.take k ++ (some b).toList) = rowsB (m.cfg.blks.take k) + b.r := by
        rw [show (some b).toList = [b] from rfl, rowsB_snoc]
      rw [e, List.take_add]
      simp only [Option.toList_some, List.flatMap_cons, List.flatMap_nil, List.append_nil]
      rw [hp k b hb, leavesB_back b _ (by rw [List.length_drop]; omega) (hf k b hb) (fun l hl => hr l (List.mem_of_mem_drop hl))]
  have h1 := key m.cfg.blks.length (Nat.le_refl _)
  rw [List.take_length, ← hl, List.take_length] at h1
  exact h1
/-- bytes that are a model are that model's bytes -/
theorem Parsed.back {l : List Int} {m : Md} (hr : Cd.rng l) (h : Parsed l m) : Cd.join (leavesD m) = l := by
  obtain ⟨hd, ls, h1, h2, h3, h4, h5⟩ := h
  have hrp := rng_piece (ls := hd :: ls) (by rw [h2]; exact hr)
  have hO := Cfg.ok_of_chk h4.1
  have e1 := h3.back (hrp hd (by simp))
  have e2 := leaves_all m ls h4.2.1 h4.2.2 (fun l hl => hrp l (by simp [hl])) (fun i b hb => by
    rw [h5] at hb ⊢
    exact mdR_part hO hb)
  unfold leavesD
  rw [e1, e2]
  exact h2
/-- two models of the same sizes, letters, pairs and parts -/
structure MdSame (a b : Md) : Prop where
  cfg : a.cfg = b.cfg
  al : a.al = b.al
  ps : a.ps = b.ps
  n : a.n = b.n
  part : ∀ x ∈ a.cfg.blks, (a.part x.k x.y).l = (b.part x.k x.y).l ∧ (isVec x.k = false → (a.part x.k x.y).r = (b.part x.k x.y).r ∧ (a.part x.k x.y).c = (b.part x.k x.y).c)
theorem MdSame.partE {a b : Md} (h : MdSame a b) {x : Bl} (hx : x ∈ a.cfg.blks) : partE x (a.part x.k x.y) = partE x (b.part x.k x.y) := by
  obtain ⟨h1, h2⟩ := h.part x hx
  unfold Wg.partE szB nmB
  cases hv : isVec x.k with
  | true => rw [h1]; rfl
  | false =>
    obtain ⟨h3, h4⟩ := h2 hv
    rw [h1, h3, h4]
theorem MdSame.chk {a b : Md} (h : MdSame a b) : a.chk = b.chk := by
  have key : ∀ l : List Bl, (∀ x ∈ l, x ∈ a.cfg.blks) → partsE a l = partsE b l := fun l => by
    induction l with
    | nil => intro _; rfl
    | cons x l ih =>
      intro hx
      unfold partsE
      rw [h.partE (hx x (by simp)), ih fun y hy => hx y (by simp [hy])]
  unfold Md.chk Md.headE
  rw [key _ fun _ hx => hx, h.cfg, h.al, h.ps, h.n]
theorem MdSame.leaves {a b : Md} (h : MdSame a b) : leavesD a = leavesD b := by
  unfold leavesD
  rw [h.al, h.ps]
  congr 1
  · rw [h.cfg]
  · rw [← h.cfg]
    refine flatMap_same fun x hx => ?_
    unfold leavesB
    rw [(h.part x hx).1]
/-! ### a model's bytes are read again -/
theorem rowsL_flat (C R : Nat) (l : List Int) (h : l.length = R * C) : (rowsL C R l).flatMap id = l := by
  have key : ∀ k, k ≤ R → (rowsL C k l).flatMap id = l.take (k * C) := fun k => by
    induction k with
    | zero => intro _; simp [rowsL]
    | succ k ih =>
      intro hk
      unfold rowsL at ih ⊢
      rw [List.range_succ, List.map_append, List.flatMap_append, ih (by omega), Nat.add_mul, List.take_add]
      simp
  rw [key R (Nat.le_refl _), List.take_of_length_le (by omega)]
theorem partR_leaves {b : Bl} {p : Mt} (hl : p.l.length = b.r * b.c) (hi : i64 p.l) (rest : List (List Int)) : (partR b (leavesB b p ++ rest)).l = p.l := by
  unfold partR numsR leavesB
  dsimp only
  rw [List.take_left' (by rw [List.length_map, rowsL_length])]
  rw [List.flatMap_map]
  have e : ((rowsL b.c b.r p.l).flatMap fun a => Cd.ints (Cd.nums a) b.c) = (rowsL b.c b.r p.l).flatMap id := by
    refine flatMap_same fun x hx => ?_
    unfold rowsL at hx
    obtain ⟨q, hq, rfl⟩ := List.mem_map.1 hx
    have hq := List.mem_range.1 hq
    have : q * b.c + b.c ≤ b.r * b.c := row_in hq
    exact ints_nums_all _ (fun x hx => hi x (List.mem_of_mem_drop (List.mem_of_mem_take hx))) b.c (by rw [List.length_take, List.length_drop]; omega)
  rw [e, rowsL_flat _ _ _ hl]
end Go.Proofs.Ytkfkjapkcjidnaa.Wg
namespace Go.Proofs.Ytkfkjapkcjidnaa.Wg
set_option maxRecDepth 100000
open Go.ChangeShapes Go.WideShapes Go.ChangeAt Go.RowKit Go.Shelf Go.Proofs.Ytkfkjapkcjidnaa.Tn
attribute [local go_sem] Oper.semAt_some

/-! ### a model that may be is read again out of its bytes -/
theorem nmB_i64 {b : Bl} {p : Mt} (h : nmB b p = 0) : i64 p.l := fun x hx => by
  unfold nmB at h
  cases hv : isVec b.k with
  | true =>
    rw [hv, if_pos rfl] at h
    unfold chkV at h
    split at h
    · cases h
    · split at h
      · rename_i k
        have := k x hx
        unfold Fx.isN at this
        omega
      · cases h
  | false =>
    rw [hv, if_neg (by decide)] at h
    unfold chkM at h
    split at h
    · cases h
    · split at h
      · rename_i k
        have := k x hx
        unfold isW at this
        omega
      · cases h
/-- the leaves behind the first one -/
def leavesT (m : Md) : List (List Int) := m.cfg.blks.flatMap fun b => leavesB b (m.part b.k b.y)
theorem leavesD_eq (m : Md) : leavesD m = headB m.cfg m.al m.ps :: leavesT m := rfl
theorem leavesT_from (m : Md) (i : Nat) {b : Bl} (h : m.cfg.blks[i]? = some b) : ∃ rest, (leavesT m).drop (rowsB (m.cfg.blks.take i)) = leavesB b (m.part b.k b.y) ++ rest := by
  have hlen : ∀ l : List Bl, (l.flatMap fun b => leavesB b (m.part b.k b.y)).length = rowsB l := fun l => by
    induction l with
    | nil => rfl
    | cons b l ih => rw [List.flatMap_cons, List.length_append, ih, leavesB_length]; simp [rowsB]
  have hi := (List.getElem?_eq_some_iff.1 h).1
  refine ⟨(m.cfg.blks.drop (i + 1)).flatMap fun b => leavesB b (m.part b.k b.y), ?_⟩
  unfold leavesT
  conv => lhs; rw [← List.take_append_drop i m.cfg.blks]
  rw [List.flatMap_append, List.take_left' (by rw [List.length_take]; omega), List.drop_left' (hlen _), List.drop_eq_getElem_cons hi, List.flatMap_cons, (List.getElem?_eq_some_iff.1 h).2]
theorem leavesT_length (m : Md) : (leavesT m).length = rowsB m.cfg.blks := by
  unfold leavesT
  induction m.cfg.blks with
  | nil => rfl
  | cons b l ih => rw [List.flatMap_cons, List.length_append, ih, leavesB_length]; simp [rowsB]
theorem leavesB_at {b : Bl} {p : Mt} (hl : p.l.length = b.r * b.c) (q : Nat) (hq : q < b.r) (rest : List (List Int)) : ((leavesB b p ++ rest).getD q []).length = 8 * b.c := by
  have hlt : q < (leavesB b p).length := by rw [leavesB_length]; exact hq
  rw [List.getD_eq_getElem?_getD, List.getElem?_append_left hlt]
  unfold leavesB rowsL
  rw [List.getElem?_map, List.getElem?_map, List.getElem?_range hq]
  simp only [Option.map_some, Option.getD_some]
  rw [nums_length, List.length_take, List.length_drop]
  have : q * b.c + b.c ≤ b.r * b.c := row_in hq
  omega
/-- what is known of the parts of a model that may be -/
theorem parts_of {m : Md} (hE : m.chk = 0) {b : Bl} (hb : b ∈ m.cfg.blks) : szB b (m.part b.k b.y) = 0 ∧ nmB b (m.part b.k b.y) = 0 ∧ (m.part b.k b.y).l.length = b.r * b.c ∧ i64 (m.part b.k b.y).l := by
  obtain ⟨hH, hP⟩ := chk_zero hE
  obtain ⟨h1, h2⟩ := partsE_all hP b hb
  have hv : isVec b.k = true → b.r = 1 := fun hk => by
    unfold Cfg.blks Wg.blks at hb
    simp only [List.mem_cons, List.mem_append, List.not_mem_nil, or_false] at hb
    rcases hb with rfl | hb | rfl | rfl
    · cases hk
    · generalize m.cfg.l.toNat = n at hb
      induction n with
      | zero => simp [laysB] at hb
      | succ l ih =>
        rw [laysB, List.mem_append] at hb
        rcases hb with hb | hb
        · exact ih hb
        · simp only [layB, List.mem_cons, List.not_mem_nil, or_false] at hb
          rcases hb with rfl | rfl | rfl | rfl | rfl | rfl | rfl | rfl | rfl <;> first | rfl | cases hk
    · rfl
    · cases hk
  exact ⟨h1, h2, (part_many hv h1 h2).1, nmB_i64 h2⟩
theorem read_back {m : Md} (hE : m.chk = 0) : ReadOK m.cfg (leavesT m) ∧ MdSame m (mdR m.cfg m.al m.ps (leavesT m)) := by
  obtain ⟨hH, hP⟩ := chk_zero hE
  obtain ⟨hck, _, _, hnl⟩ := headE_zero hH
  have hO := Cfg.ok_of_chk hck
  refine ⟨⟨hck, leavesT_length m, fun i b hb q hq => ?_⟩, ⟨rfl, rfl, rfl, ?_, fun b hb => ?_⟩⟩
  · obtain ⟨rest, e⟩ := leavesT_from m i hb
    rw [e]
    exact leavesB_at (parts_of hE (List.mem_of_getElem? hb)).2.2.1 q hq rest
  · show m.n = m.cfg.l.toNat
    have := hO.l
    omega
  · obtain ⟨i, hi⟩ := List.getElem?_of_mem hb
    obtain ⟨rest, e⟩ := leavesT_from m i hi
    obtain ⟨h1, h2, h3, h4⟩ := parts_of hE hb
    rw [mdR_part hO hi, e, partR_leaves h3 h4 rest]
    refine ⟨rfl, fun hv => ?_⟩
    unfold szB at h1
    rw [hv, if_neg (by decide)] at h1
    have hrc : (m.part b.k b.y).r = b.r ∧ (m.part b.k b.y).c = b.c := by
      by_cases h : (m.part b.k b.y).r = b.r ∧ (m.part b.k b.y).c = b.c
      · exact h
      · rw [if_neg h] at h1; cases h1
    unfold partR
    dsimp only
    rw [hv, if_neg (by decide), if_neg (by decide)]
    exact hrc
theorem cfg_i64 {c : Cfg} (hO : c.Ok) : i64 c.list := fun x hx => by
  have h1 := hO.v; have h2 := hO.d; have h3 := hO.h; have h4 := hO.l; have h5 := hO.x; have h6 := hO.i
  unfold Cfg.list at hx
  simp only [List.mem_cons, List.not_mem_nil, or_false] at hx
  rcases hx with rfl | rfl | rfl | rfl | rfl | rfl <;> omega
/-- how great a model is -/
structure FewM (m : Md) : Prop where
  al : m.al.length ≤ 300
  ps : m.ps.length ≤ 60
  part : ∀ b ∈ m.cfg.blks, (m.part b.k b.y).l.length ≤ 2000
theorem join_length (ls : List (List Int)) : (Cd.join ls).length = (ls.map fun l => l.length + 4).sum := by
  induction ls with
  | nil => rfl
  | cons l ls ih => rw [Cd.join_cons, List.length_append, List.length_append, Cd.be_length, ih]; simp; omega
theorem sum_le {α : Type} (l : List α) (f : α → Nat) (B : Nat) (h : ∀ x ∈ l, f x ≤ B) : (l.map f).sum ≤ l.length * B := by
  induction l with
  | nil => simp
  | cons x l ih =>
    have h1 := h x (by simp)
    have h2 := ih fun y hy => h y (by simp [hy])
    rw [List.map_cons, List.sum_cons, List.length_cons, Nat.add_mul]
    omega
theorem few_leaf {m : Md} (hE : m.chk = 0) {l : List Int} (h : l ∈ leavesT m) : l.length ≤ 512 := by
  obtain ⟨hH, hP⟩ := chk_zero hE
  obtain ⟨hck, _⟩ := headE_zero hH
  obtain ⟨V, D, I, e, _, _, _, k1, k2, k3, _⟩ := cfg_blks (Cfg.ok_of_chk hck)
  unfold leavesT at h
  obtain ⟨b, hb, hl⟩ := List.mem_flatMap.1 h
  have hc := (blks_rc k1 k2 k3 (by rw [← e]; exact hb)).2.2.2
  unfold leavesB rowsL at hl
  obtain ⟨r, hr, rfl⟩ := List.mem_map.1 hl
  obtain ⟨q, _, rfl⟩ := List.mem_map.1 hr
  rw [nums_length, List.length_take]
  omega
theorem few_head {m : Md} (hF : FewM m) : (headB m.cfg m.al m.ps).length ≤ 1400 := by
  have h1 := hF.al
  have h2 := hF.ps
  unfold headB
  rw [join_length]
  simp [nums_length, flatP_length, show m.cfg.list.length = 6 from rfl]
  omega
theorem few_bytes {m : Md} (hE : m.chk = 0) (hF : FewM m) : (Cd.join (leavesD m)).length ≤ 900000 := by
  obtain ⟨hH, hP⟩ := chk_zero hE
  obtain ⟨hck, _⟩ := headE_zero hH
  obtain ⟨V, D, I, e, _, _, _, k1, k2, k3, k4, k5, _⟩ := cfg_blks (Cfg.ok_of_chk hck)
  have hh := few_head hF
  rw [leavesD_eq, Cd.join_cons, List.length_append, List.length_append, Cd.be_length]
  have hp : ∀ b ∈ m.cfg.blks, (Cd.join (leavesB b (m.part b.k b.y))).length ≤ 18048 := fun b hb => by
    have hr := (blks_rc k1 k2 k3 (by rw [← e]; exact hb)).2.1
    obtain ⟨_, _, h3, _⟩ := parts_of hE hb
    have hl := hF.part b hb
    rw [join_length]
    have h4 : ∀ l ∈ leavesB b (m.part b.k b.y), l.length + 4 ≤ 8 * b.c + 4 := fun l hl => by
      unfold leavesB rowsL at hl
      obtain ⟨r, hr, rfl⟩ := List.mem_map.1 hl
      obtain ⟨q, _, rfl⟩ := List.mem_map.1 hr
      rw [nums_length, List.length_take]
      omega
    have h5 := sum_le (leavesB b (m.part b.k b.y)) (fun l => l.length + 4) (8 * b.c + 4) h4
    rw [leavesB_length] at h5
    have h6 : b.r * (8 * b.c + 4) = 8 * (b.r * b.c) + 4 * b.r := by rw [Nat.mul_add, ← Nat.mul_assoc, Nat.mul_comm b.r 8, Nat.mul_assoc, Nat.mul_comm b.r 4]
    rw [h6, ← h3] at h5
    omega
  have ht : (Cd.join (leavesT m)).length ≤ m.cfg.blks.length * 18048 := by
    unfold leavesT
    have : ∀ L : List Bl, (∀ b ∈ L, (Cd.join (leavesB b (m.part b.k b.y))).length ≤ 18048) → (Cd.join (L.flatMap fun b => leavesB b (m.part b.k b.y))).length ≤ L.length * 18048 := fun L => by
      induction L with
      | nil => intro _; exact Nat.zero_le _
      | cons b L ih =>
        intro h
        rw [List.flatMap_cons, Cd.join_append, List.length_append, List.length_cons, Nat.add_mul]
        have h1 := h b (by simp)
        have h2 := ih fun y hy => h y (by simp [hy])
        omega
    exact this _ hp
  have hn : m.cfg.blks.length ≤ 39 := by rw [e, blks_length]; omega
  have h8 : m.cfg.blks.length * 18048 ≤ 39 * 18048 := Nat.mul_le_mul_right _ hn
  omega
/-- Parse of a model's bytes -/
theorem parse_back (w : World) (sp : Option Addr) (cap m : Nat) (md : Md) (hE : md.chk = 0) (hF : FewM md) (hi : i64 (flatP md.ps)) (hm : (Cd.join (leavesD md)).length = m) (hb : Cd.Bytes w sp cap (Cd.join (leavesD md))) :
    Calls Try.prog 11 #[.slice sp m cap] w (ParseOK w (mdR md.cfg md.al md.ps (leavesT md))) := by
  obtain ⟨hok, hsame⟩ := read_back hE
  have hO := Cfg.ok_of_chk hok.1
  have h1 := hF.al
  have h2 := hF.ps
  have hlf : ∀ p ∈ leavesT md, p.length ≤ 100000 := fun p hp => by have := few_leaf hE hp; omega
  have hh := few_head hF
  refine parse_ok w sp cap m _ hm hb (by have := few_bytes hE hF; omega) (headB md.cfg md.al md.ps) (leavesT md) (fun l hl => ?_) rfl (by omega) md.cfg md.al md.ps (HeadIs.of (cfg_i64 hO) hi (by omega) (by omega)) hlf hok (by omega) (by omega) (by rw [← hsame.chk]; exact hE)
  rcases List.mem_cons.1 hl with rfl | hl
  · omega
  · have := few_leaf hE hl
    omega
end Go.Proofs.Ytkfkjapkcjidnaa.Wg
