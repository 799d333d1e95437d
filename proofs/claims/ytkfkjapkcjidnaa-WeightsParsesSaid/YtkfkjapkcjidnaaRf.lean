import Derived.Test.YtkfkjapkcjidnaaQa
import Derived.Test.YtkfkjapkcjidnaaQt
namespace Go.Proofs.Ytkfkjapkcjidnaa.Wg
set_option maxRecDepth 100000
open Go.ChangeShapes Go.WideShapes Go.ChangeAt Go.RowKit Go.Shelf Go.Proofs.Ytkfkjapkcjidnaa.Tn

/-! ### a model of which one number is another one -/
theorem row_set {l : List Int} {C R k q : Nat} (z : Int) (hk : k < C) (hq : q ≠ R) : ((l.set (R * C + k) z).drop (q * C)).take C = (l.drop (q * C)).take C := by
  refine List.ext_getElem? fun i => ?_
  by_cases hi : i < C
  · rw [List.getElem?_take, List.getElem?_take, if_pos hi, if_pos hi, List.getElem?_drop, List.getElem?_drop, List.getElem?_set_ne]
    rcases Nat.lt_or_gt_of_ne hq with h | h
    · have := Nat.mul_le_mul_right C (show q + 1 ≤ R from h)
      rw [Nat.succ_mul] at this
      omega
    · have := Nat.mul_le_mul_right C (show R + 1 ≤ q from h)
      rw [Nat.succ_mul] at this
      omega
  · rw [List.getElem?_take, List.getElem?_take, if_neg hi, if_neg hi]
theorem row_set_same (l : List Int) (C R k : Nat) (z : Int) : ((l.set (R * C + k) z).drop (R * C)).take C = ((l.drop (R * C)).take C).set k z := by
  rw [List.drop_set, if_neg (by omega), List.take_set, Nat.add_sub_cancel_left]
/-- a model with other numbers in one part -/
def Md.put (m : Md) (K Y : Nat) (l : List Int) : Md :=
  { m with em := if K = 1 then ⟨m.em.r, m.em.c, l⟩ else m.em, nm := if K = 11 then l else m.nm, ou := if K = 12 then ⟨m.ou.r, m.ou.c, l⟩ else m.ou, ly := fun y k => if y = Y ∧ k = K then ⟨(m.ly y k).r, (m.ly y k).c, l⟩ else m.ly y k }
theorem put_part (m : Md) {K Y L : Nat} {b : Bl} (l : List Int) (hK : (K = 1 ∧ Y = 0) ∨ (K = 11 ∧ Y = 0) ∨ (K = 12 ∧ Y = 0) ∨ (Y < m.n ∧ 2 ≤ K ∧ K ≤ 10)) (hb : OkL L b) :
    (m.put K Y l).part b.k b.y = if b.k = K ∧ b.y = Y then ⟨(m.part b.k b.y).r, (m.part b.k b.y).c, l⟩ else m.part b.k b.y := by
  obtain ⟨k, y, r, c⟩ := b
  unfold OkL at hb
  dsimp only at hb ⊢
  unfold Md.put Md.part
  dsimp only
  rcases hb with ⟨rfl, rfl⟩ | ⟨rfl, rfl⟩ | ⟨rfl, rfl⟩ | ⟨h1, h2, h3⟩
  · by_cases e : K = 1
    · obtain rfl : Y = 0 := by omega
      subst e
      simp
    · have e' : ¬ 1 = K := fun h => e h.symm
      simp [e, e']
  · by_cases e : K = 11
    · obtain rfl : Y = 0 := by omega
      subst e
      simp
    · have e' : ¬ 11 = K := fun h => e h.symm
      simp [e, e']
  · by_cases e : K = 12
    · obtain rfl : Y = 0 := by omega
      subst e
      simp
    · have e' : ¬ 12 = K := fun h => e h.symm
      simp [e, e']
  · rw [if_neg (show ¬ k = 1 by omega), if_neg (show ¬ k = 11 by omega), if_neg (show ¬ k = 12 by omega), if_neg (show ¬ k = 1 by omega), if_neg (show ¬ k = 11 by omega), if_neg (show ¬ k = 12 by omega)]
    by_cases e : y = Y ∧ k = K
    · rw [if_pos e, if_pos ⟨e.2, e.1⟩]
    · rw [if_neg e, if_neg (fun h => e ⟨h.2, h.1⟩)]
/-- every place is a row's of a part -/
theorem rows_find : ∀ (bs : List Bl) (j : Nat), j < rowsB bs → ∃ (i : Nat) (b : Bl) (q : Nat), bs[i]? = some b ∧ q < b.r ∧ j = rowsB (bs.take i) + q
  | [], j, h => by simp [rowsB] at h
  | b :: l, j, h => by
    by_cases hj : j < b.r
    · exact ⟨0, b, j, rfl, hj, by simp [rowsB]⟩
    · have hs : rowsB (b :: l) = b.r + rowsB l := by simp [rowsB]
      obtain ⟨i, x, q, h1, h2, h3⟩ := rows_find l (j - b.r) (by omega)
      exact ⟨i + 1, x, q, by simpa using h1, h2, by have : rowsB ((b :: l).take (i + 1)) = b.r + rowsB (l.take i) := by simp [rowsB]
                                                    omega⟩
/-- a model of which one number is another one may be, if that number may -/
theorem put_rows {m : Md} {V D L I : Nat} (hb : m.cfg.blks = blks V D L I) {K Y : Nat} (l : List Int) (hK : (K = 1 ∧ Y = 0) ∨ (K = 11 ∧ Y = 0) ∨ (K = 12 ∧ Y = 0) ∨ (Y < m.n ∧ 2 ≤ K ∧ K ≤ 10)) (hl : l.length = (m.part K Y).l.length) (hn : ∀ x ∈ l, Fx.isN x) (hw : isVec K = false → ∀ x ∈ l, isW x)
    (hP : partsE m m.cfg.blks = 0) : ∀ bs : List Bl, (∀ b ∈ bs, b ∈ m.cfg.blks) → partsE (m.put K Y l) bs = 0
  | [], _ => rfl
  | b :: t, h => by
    have hbm := h b (List.mem_cons_self ..)
    have hpp := put_part m l hK (blks_okL (hb ▸ hbm) : OkL L b)
    obtain ⟨hs, hnm⟩ := partsE_all hP b hbm
    have h0 : partE b ((m.put K Y l).part b.k b.y) = 0 := by
      rw [hpp]
      by_cases e : b.k = K ∧ b.y = Y
      · rw [if_pos e]
        obtain ⟨ek, ey⟩ := e
        rw [← ek, ← ey] at hl
        rw [← ek] at hw
        unfold partE
        have h1 : szB b ⟨(m.part b.k b.y).r, (m.part b.k b.y).c, l⟩ = 0 := by
          unfold szB at hs ⊢
          dsimp only
          rw [hl]
          exact hs
        rw [if_neg (by omega)]
        unfold nmB at hnm ⊢
        dsimp only
        by_cases hv : isVec b.k = true
        · rw [if_pos hv] at hnm ⊢
          unfold chkV at hnm ⊢
          rw [hl, if_pos hn]
          split at hnm
          · omega
          · rename_i h9; rw [if_neg h9]
        · rw [if_neg hv] at hnm ⊢
          unfold chkM at hnm ⊢
          rw [hl, if_pos (hw (by simpa using hv))]
          split at hnm
          · omega
          · rename_i h9; rw [if_neg h9]
      · rw [if_neg e]
        unfold partE
        rw [if_neg (by omega)]
        exact hnm
    unfold partsE
    rw [if_neg (by omega)]
    exact put_rows hb l hK hl hn hw hP t (fun b hb => h b (List.mem_cons_of_mem _ hb))
theorem put_chk {m : Md} (hE : m.chk = 0) {K Y : Nat} (l : List Int) (hK : (K = 1 ∧ Y = 0) ∨ (K = 11 ∧ Y = 0) ∨ (K = 12 ∧ Y = 0) ∨ (Y < m.n ∧ 2 ≤ K ∧ K ≤ 10)) (hl : l.length = (m.part K Y).l.length) (hn : ∀ x ∈ l, Fx.isN x) (hw : isVec K = false → ∀ x ∈ l, isW x) : (m.put K Y l).chk = 0 := by
  obtain ⟨hH, hP⟩ := chk_zero hE
  obtain ⟨hck, _, _, _⟩ := headE_zero hH
  obtain ⟨V, D, I, e, _⟩ := cfg_blks (Cfg.ok_of_chk hck)
  have h0 : (m.put K Y l).headE = 0 := hH
  rw [chk_yes h0]
  exact put_rows e l hK hl hn hw hP _ (fun b hb => hb)
theorem rows_inj : ∀ (bs : List Bl) (i j : Nat) (a b : Bl) (p q : Nat), bs[i]? = some a → bs[j]? = some b → p < a.r → q < b.r → rowsB (bs.take i) + p = rowsB (bs.take j) + q → i = j ∧ p = q
  | [], i, j, a, b, p, q, h, _, _, _, _ => by simp at h
  | c :: l, 0, 0, a, b, p, q, h1, h2, hp, hq, e => ⟨rfl, by simpa [rowsB] using e⟩
  | c :: l, 0, j + 1, a, b, p, q, h1, h2, hp, hq, e => by
    obtain rfl : c = a := by simpa using h1
    have : rowsB ((c :: l).take (j + 1)) = c.r + rowsB (l.take j) := by simp [rowsB]
    have : rowsB ((c :: l).take 0) = 0 := rfl
    omega
  | c :: l, i + 1, 0, a, b, p, q, h1, h2, hp, hq, e => by
    obtain rfl : c = b := by simpa using h2
    have : rowsB ((c :: l).take (i + 1)) = c.r + rowsB (l.take i) := by simp [rowsB]
    have : rowsB ((c :: l).take 0) = 0 := rfl
    omega
  | c :: l, i + 1, j + 1, a, b, p, q, h1, h2, hp, hq, e => by
    have e1 : rowsB ((c :: l).take (i + 1)) = c.r + rowsB (l.take i) := by simp [rowsB]
    have e2 : rowsB ((c :: l).take (j + 1)) = c.r + rowsB (l.take j) := by simp [rowsB]
    obtain ⟨h3, h4⟩ := rows_inj l i j a b p q (by simpa using h1) (by simpa using h2) hp hq (by omega)
    exact ⟨by omega, h4⟩
/-- the leaves of a model of which one number is another one: one is another one, the others are as they were -/
theorem put_leaves {m : Md} (hE : m.chk = 0) {k y r : Int} {K Y R C A s : Nat} (hp : PlcAt m k y r K Y R C A) (hs : s < C) (z : Int) (j : Nat) (hj : j < (leavesD m).length) :
    (leavesD (m.put K Y ((m.part K Y).l.set (R * C + s) z)))[j]? = if j = A then some (Cd.nums ((((m.part K Y).l.drop (R * C)).take C).set s z)) else (leavesD m)[j]? := by
  obtain ⟨hH, _⟩ := chk_zero hE
  obtain ⟨hck, _, _, _⟩ := headE_zero hH
  obtain ⟨V, D, I, e, _⟩ := cfg_blks (Cfg.ok_of_chk hck)
  obtain ⟨i0, b0, h1, rfl, rfl, rfl, h5, h6⟩ := hp.blk
  have hbk : (m.put b0.k b0.y ((m.part b0.k b0.y).l.set (R * b0.c + s) z)).cfg.blks = m.cfg.blks := rfl
  rw [leavesD_len] at hj
  by_cases h0 : j = 0
  · subst h0
    rw [if_neg (by have := hp.one; omega)]
    rfl
  · obtain ⟨i, b, q, g1, g2, g3⟩ := rows_find m.cfg.blks (j - 1) (by omega)
    have ej : j = 1 + (rowsB (m.cfg.blks.take i) + q) := by omega
    have hok : OkL m.cfg.l.toNat b := blks_okL (e ▸ List.mem_of_getElem? g1)
    have hpp := put_part m ((m.part b0.k b0.y).l.set (R * b0.c + s) z) hp.part hok
    have hl1 := leavesD_at (m.put b0.k b0.y ((m.part b0.k b0.y).l.set (R * b0.c + s) z)) (hbk ▸ g1) g2
    rw [hbk] at hl1
    have hl2 := leavesD_at m g1 g2
    rw [ej, hl1, hl2, hpp]
    by_cases hq : i = i0 ∧ q = R
    · obtain ⟨rfl, rfl⟩ := hq
      obtain rfl : b = b0 := Option.some.inj (g1.symm.trans h1)
      rw [if_pos ⟨rfl, rfl⟩, if_pos h6.symm, row_set_same]
    · rw [if_neg (show ¬ 1 + (rowsB (m.cfg.blks.take i) + q) = A from fun he => hq (rows_inj _ _ _ _ _ _ _ g1 h1 g2 h5 (by omega)))]
      by_cases hb : b.k = b0.k ∧ b.y = b0.y
      · obtain rfl : i = i0 := blks_key (e ▸ g1) (e ▸ h1) hb.1 hb.2
        obtain rfl : b = b0 := Option.some.inj (g1.symm.trans h1)
        rw [if_pos ⟨rfl, rfl⟩, row_set z hs (fun hr => hq ⟨rfl, hr⟩)]
      · rw [if_neg hb]
theorem nums_inj {a b : List Int} (ha : i64 a) (hb : i64 b) (hl : a.length = b.length) (h : Cd.nums a = Cd.nums b) : a = b := by
  rw [← ints_nums_all a ha _ rfl, h, hl, ints_nums_all b hb _ rfl]
theorem leaf_set {row : List Int} (hr : i64 row) {s : Nat} (hs : s < row.length) {z : Int} (hz : -9223372036854775808 ≤ z ∧ z ≤ 9223372036854775807) : decide (Cd.nums (row.set s z) = Cd.nums row) = decide (row.getD s 0 = z) := by
  have he : row.getD s 0 = row[s] := by rw [List.getD_eq_getElem?_getD, List.getElem?_eq_getElem hs]; rfl
  rw [he]
  by_cases h : row[s] = z
  · have : row.set s z = row := by rw [← h]; simp
    rw [this]
    simp [h]
  · have : ¬ Cd.nums (row.set s z) = Cd.nums row := fun h9 => by
      have h8 := nums_inj (fun x hx => by
        rcases List.mem_or_eq_of_mem_set hx with h1 | h1
        · exact hr x h1
        · rw [h1]; exact hz) hr (by simp) h9
      have h7 : (row.set s z)[s]? = row[s]? := by rw [h8]
      rw [List.getElem?_set_self hs, List.getElem?_eq_getElem hs] at h7
      exact h (Option.some.inj h7).symm
    simp [h, this]
end Go.Proofs.Ytkfkjapkcjidnaa.Wg
namespace Go.Proofs.Ytkfkjapkcjidnaa.Wg
set_option maxRecDepth 100000
open Go.ChangeShapes Go.WideShapes Go.ChangeAt Go.RowKit Go.Shelf Go.Proofs.Ytkfkjapkcjidnaa.Tn

/-! ### a model of one's own, in whose memory one number is turned -/
theorem owned_later {W W' : World} {v : Wv} {m : Md} {n2 : Nat} {β : Nat → Nat} (h : WvOK W v m) (hO : Owned W n2 v m β) (hck : m.cfg.chk = 0) (hn : m.n = m.cfg.l.toNat) (hb : Below W.heap.size W W') : Owned W' n2 v m β :=
  (owned_same h hO hck hn (fun h0 c o e => by
    obtain ⟨c', o', e', hl⟩ := h.al.sl.lies (by simpa using h0)
    rw [e] at e'
    cases e'
    have := block_lt_of_cell (hl 0 _ (List.getElem?_eq_getElem (by simpa using h0)))
    exact hb.block _ this) (fun h0 c o e => by
    obtain ⟨c', o', e', hl⟩ := h.ps.lies h0
    rw [e] at e'
    cases e'
    have := block_lt_of_cell (hl 0 h0 0 _ rfl)
    exact hb.block _ this) (fun lb' e => by
    obtain ⟨lb2, e2, _, cs, hcs2⟩ := hO.sl
    rw [e] at e2
    cases e2
    exact hb.block _ (Array.getElem?_eq_some_iff.1 hcs2).1) (fun i hi => by
    obtain ⟨_, ⟨cs, hcs2⟩, _⟩ := hO.rows i _ (List.getElem?_eq_getElem hi)
    exact hb.block _ (Array.getElem?_eq_some_iff.1 hcs2).1)).2
theorem owned_ne {W : World} {v : Wv} {m : Md} {n2 : Nat} {β : Nat → Nat} (hO : Owned W n2 v m β) {i j : Nat} (hi : i < m.cfg.blks.length) (hj : j < m.cfg.blks.length) (h : i ≠ j) : β i ≠ β j := by
  rcases Nat.lt_or_gt_of_ne h with h | h
  · have := hO.asc i j h hj; omega
  · have := hO.asc j i h hi; omega
theorem nums_set {W : World} {g c : Nat} {cs : Array Value} {l : List Int} (h : Nums W (some ⟨g, 0, none⟩) c l) (hg : W.heap[g]? = some (.cells cs 3 (0, 0))) (j : Nat) (z : Int) : Nums (W.setCell ⟨g, j, none⟩ (.int .i64 z)) (some ⟨g, 0, none⟩) c (l.set j z) := by
  refine ⟨by simpa using h.le, h.max, h.nul, fun h0 => ⟨g, 0, rfl, fun i u hu => ?_⟩⟩
  obtain ⟨c', o', e, hl⟩ := h.lies (by simpa using h0)
  cases e
  have hi : i < l.length := by
    have := (List.getElem?_eq_some_iff.1 hu).1
    simpa using this
  have h1 := hl i (.int .i64 l[i]) (by simp [hi])
  rw [cell_of_row _ _ _ _ _ _ hg, Nat.zero_add] at h1
  have hlt := (Array.getElem?_eq_some_iff.1 h1).1
  rw [cell_of_row _ _ _ _ _ _ (heap_setCell_row hg), Nat.zero_add]
  by_cases e : j = i
  · subst e
    rw [Array.getElem?_setIfInBounds_self_of_lt hlt]
    rw [List.getElem?_map, List.getElem?_set_self hi] at hu
    simpa using hu
  · rw [Array.getElem?_setIfInBounds_ne e, h1]
    rw [List.getElem?_map, List.getElem?_set_ne e, List.getElem?_eq_getElem hi] at hu
    simpa using hu
theorem owned_set {W : World} {v : Wv} {m : Md} {n2 : Nat} {β : Nat → Nat} (h : WvOK W v m) (hO : Owned W n2 v m β) (hck : m.cfg.chk = 0) (hn : m.n = m.cfg.l.toNat) {i0 : Nat} {b0 : Bl} (hb0 : m.cfg.blks[i0]? = some b0)
    (ha : 0 < m.al.length → ∀ c o, v.sa = some ⟨c, o, none⟩ → c < n2) (hp : 0 < m.ps.length → ∀ c o, v.sp = some ⟨c, o, none⟩ → c < n2) (j : Nat) (z : Int) :
    WvOK (W.setCell ⟨β i0, j, none⟩ (.int .i64 z)) v (m.put b0.k b0.y ((m.part b0.k b0.y).l.set j z)) := by
  obtain ⟨V, D, I, e, _⟩ := cfg_blks (Cfg.ok_of_chk hck)
  have hm0 := List.mem_of_getElem? hb0
  have hK : (b0.k = 1 ∧ b0.y = 0) ∨ (b0.k = 11 ∧ b0.y = 0) ∨ (b0.k = 12 ∧ b0.y = 0) ∨ (b0.y < m.n ∧ 2 ≤ b0.k ∧ b0.k ≤ 10) := by
    have := (blks_okL (e ▸ hm0) : OkL m.cfg.l.toNat b0)
    unfold OkL at this
    rw [hn]
    exact this
  obtain ⟨hn2, ⟨cs0, hcs0⟩, _⟩ := hO.rows i0 b0 hb0
  have hpt : ∀ b ∈ m.cfg.blks, (m.put b0.k b0.y ((m.part b0.k b0.y).l.set j z)).part b.k b.y = if b.k = b0.k ∧ b.y = b0.y then ⟨(m.part b.k b.y).r, (m.part b.k b.y).c, (m.part b0.k b0.y).l.set j z⟩ else m.part b.k b.y := fun b hb => put_part m _ hK (blks_okL (e ▸ hb) : OkL m.cfg.l.toNat b)
  refine (owned_upd (m' := m.put b0.k b0.y ((m.part b0.k b0.y).l.set j z)) (W' := W.setCell ⟨β i0, j, none⟩ (.int .i64 z)) h hO hck hn ⟨rfl, rfl, rfl, rfl⟩ (fun b hb => ?_) (fun h0 c o e => heap_setCell_far (show c ≠ β i0 by have := ha h0 c o e; omega)) (fun h0 c o e => heap_setCell_far (show c ≠ β i0 by have := hp h0 c o e; omega)) (fun lb e => heap_setCell_far (show lb ≠ β i0 by
    obtain ⟨lb2, e2, hlt, _⟩ := hO.sl
    rw [e] at e2
    cases e2
    omega)) (fun i b c hb hN => ?_) (fun i hi => ?_)).1
  · rw [hpt b hb]
    split
    · rename_i hh
      rw [hh.1, hh.2]
      exact ⟨by simp, rfl, rfl⟩
    · exact ⟨rfl, rfl, rfl⟩
  · rw [hpt b (List.mem_of_getElem? hb)]
    by_cases hh : b.k = b0.k ∧ b.y = b0.y
    · obtain rfl : i = i0 := blks_key (e ▸ hb) (e ▸ hb0) hh.1 hh.2
      rw [if_pos hh]
      rw [hh.1, hh.2] at hN
      exact nums_set hN hcs0 j z
    · rw [if_neg hh]
      have hne : i ≠ i0 := fun e9 => by
        subst e9
        obtain rfl : b = b0 := Option.some.inj (hb.symm.trans hb0)
        exact hh ⟨rfl, rfl⟩
      exact sl_same hN fun _ c' o' e9 => by
        cases e9
        exact heap_setCell_far (owned_ne hO (List.getElem?_eq_some_iff.1 hb).1 (List.getElem?_eq_some_iff.1 hb0).1 hne)
  · by_cases hh : i = i0
    · subst hh
      exact ⟨_, heap_setCell_row hcs0⟩
    · obtain ⟨_, ⟨cs, hcs⟩, _⟩ := hO.rows i _ (List.getElem?_eq_getElem hi)
      exact ⟨cs, (heap_setCell_far (owned_ne hO hi (List.getElem?_eq_some_iff.1 hb0).1 hh)).trans hcs⟩
theorem wrapQ {z : Int} (h : -9223372036854775808 ≤ z ∧ z ≤ 9223372036854775807) : wrap64 z = z := by
  unfold wrap64
  omega
theorem turn_mod (a : Int) {C : Nat} (h1 : 1 ≤ C) (h2 : C ≤ 64) : ∃ s : Nat, s < C ∧ (wrap64 (a.tmod C + C)).tmod C = s := by
  have h3 := Int.tmod_lt_of_pos a (show 0 < (C : Int) by omega)
  have h4 := Int.lt_tmod_of_pos a (show 0 < (C : Int) by omega)
  rw [wrapQ (by omega)]
  have h6 := Int.tmod_lt_of_pos (a.tmod C + C) (show 0 < (C : Int) by omega)
  have h7 := Int.tmod_nonneg (C : Int) (show 0 ≤ a.tmod C + C by omega)
  exact ⟨((a.tmod C + C).tmod C).toNat, by omega, by omega⟩
end Go.Proofs.Ytkfkjapkcjidnaa.Wg
namespace Go.Proofs.Ytkfkjapkcjidnaa.Wg
set_option maxRecDepth 100000
open Go.ChangeShapes Go.WideShapes Go.ChangeAt Go.RowKit Go.Shelf Go.Proofs.Ytkfkjapkcjidnaa.Tn

/-! ### a number of a model of one's own: what is known of its part -/
theorem PlcAt.same {m M : Md} {k y r : Int} {K Y R C A : Nat} (hp : PlcAt m k y r K Y R C A) (hT : Twin m M) (hl : leavesD M = leavesD m) : PlcAt M k y r K Y R C A := by
  have h1 := (hT.part K Y hp.part).1
  refine ⟨hp.ek, hp.ey, hp.er, by rw [← hT.n]; exact hp.part, by rw [← h1]; exact hp.lt, hp.pos, hp.le, by rw [← hT.cfg]; exact hp.at_, hp.one, by rw [hl]; exact hp.alt, by rw [hl, ← h1]; exact hp.leaf, by rw [← hT.cfg]; exact hp.down, by rw [← hT.cfg]; exact hp.other, by rw [← h1]; exact hp.row, by rw [← h1]; exact hp.int, by rw [← hT.cfg]; exact hp.blk⟩
theorem part_nums {m : Md} (hE : m.chk = 0) {k y r : Int} {K Y R C A : Nat} (hp : PlcAt m k y r K Y R C A) : (∀ x ∈ (m.part K Y).l, Fx.isN x) ∧ (isVec K = false → ∀ x ∈ (m.part K Y).l, isW x) := by
  obtain ⟨i, b, h1, h2, h3, _⟩ := hp.blk
  obtain ⟨_, hn, _⟩ := parts_of hE (List.mem_of_getElem? h1)
  rw [h2, h3] at hn
  unfold nmB at hn
  rw [h2] at hn
  cases hv : isVec K with
  | true =>
    rw [hv, if_pos rfl] at hn
    unfold chkV at hn
    split at hn
    · cases hn
    · split at hn
      · rename_i h9; exact ⟨h9, fun h => by cases h⟩
      · cases hn
  | false =>
    rw [hv, if_neg (by decide)] at hn
    unfold chkM at hn
    split at hn
    · cases hn
    · split at hn
      · rename_i h9
        exact ⟨fun x hx => by have := h9 x hx; unfold isW at this; unfold Fx.isN; omega, fun _ => h9⟩
      · cases hn
theorem put_ok {m : Md} (hE : m.chk = 0) {k y r : Int} {K Y R C A : Nat} (hp : PlcAt m k y r K Y R C A) (j : Nat) {z : Int} (hz : -16777216 ≤ z ∧ z ≤ 16777216) : (m.put K Y ((m.part K Y).l.set j z)).chk = 0 := by
  obtain ⟨h1, h2⟩ := part_nums hE hp
  refine put_chk hE _ hp.part (by simp) (fun x hx => ?_) (fun hv x hx => ?_)
  · rcases List.mem_or_eq_of_mem_set hx with h | h
    · exact h1 x h
    · rw [h]; unfold Fx.isN; omega
  · rcases List.mem_or_eq_of_mem_set hx with h | h
    · exact h2 hv x h
    · rw [h]; exact hz
/-- whether the j-th leaf is as it was -/
theorem put_same {m : Md} (hE : m.chk = 0) {k y r : Int} {K Y R C A s : Nat} (hp : PlcAt m k y r K Y R C A) (hs : s < C) {z : Int} (hz : -16777216 ≤ z ∧ z ≤ 16777216) (j : Nat) (hj : j < (leavesD m).length) :
    ∃ a b, (leavesD (m.put K Y ((m.part K Y).l.set (R * C + s) z)))[j]? = some a ∧ (leavesD m)[j]? = some b ∧ decide (a = b) = (if j = A then decide ((m.part K Y).l.getD (R * C + s) 0 = z) else true) := by
  have h := put_leaves hE hp hs z j hj
  obtain ⟨b, hb⟩ : ∃ b, (leavesD m)[j]? = some b := ⟨_, List.getElem?_eq_getElem hj⟩
  by_cases e : j = A
  · rw [if_pos e] at h
    rw [e, hp.leaf] at hb
    have hb' := Option.some.inj hb
    refine ⟨_, b, h, by rw [e, hp.leaf, hb'], ?_⟩
    have hlt := hp.lt
    rw [if_pos e, ← hb', leaf_set (fun x hx => hp.int x hx) (by rw [List.length_take, List.length_drop]; omega) (by omega)]
    congr 2
    rw [List.getD_eq_getElem?_getD, List.getD_eq_getElem?_getD, List.getElem?_take, if_pos hs, List.getElem?_drop]
  · rw [if_neg e] at h
    exact ⟨b, b, h.trans hb, hb, by rw [if_neg e]; simp⟩
theorem put_len {m : Md} (K Y : Nat) (l : List Int) : (leavesD (m.put K Y l)).length = (leavesD m).length := by
  rw [leavesD_len, leavesD_len]
  rfl
/-- an operation that is not wanted -/
theorem q_skip {P : Program} {ops : Array Oper} {C : World → Prop} {Q : Act → Prop} {a : Act} {o : Oper} {rest : List Oper} (hw : Region.wanted o (yielded ops a.tmps) = false) (hn : wpQuiet P ops C Q rest (a.put o.dst undef)) : wpQuiet P ops C Q (o :: rest) a :=
  wpQuiet_step fun K hK => by
    rw [if_neg (by rw [hw]; decide)]
    exact hK _ hn
end Go.Proofs.Ytkfkjapkcjidnaa.Wg
namespace Go.Proofs.Ytkfkjapkcjidnaa.Wg
set_option maxRecDepth 100000
open Go.ChangeShapes Go.WideShapes Go.ChangeAt Go.RowKit Go.Shelf Go.Proofs.Ytkfkjapkcjidnaa.Tn

/-! ### a model of which one row is another one: its leaves, what is wrong with it, and what its bytes are read as -/
/-- a model whose parts have the numbers that they should, whichever these are -/
structure Fit (m : Md) : Prop where
  ck : m.cfg.chk = 0
  n : (m.n : Int) = m.cfg.l
  parts : ∀ b ∈ m.cfg.blks, szB b (m.part b.k b.y) = 0 ∧ (m.part b.k b.y).l.length = b.r * b.c ∧ i64 (m.part b.k b.y).l
theorem read_fit {m : Md} (h : Fit m) : ReadOK m.cfg (leavesT m) ∧ MdSame m (mdR m.cfg m.al m.ps (leavesT m)) := by
  have hck := h.ck
  have hnl := h.n
  have hO := Cfg.ok_of_chk hck
  refine ⟨⟨hck, leavesT_length m, fun i b hb q hq => ?_⟩, ⟨rfl, rfl, rfl, ?_, fun b hb => ?_⟩⟩
  · obtain ⟨rest, e⟩ := leavesT_from m i hb
    rw [e]
    exact leavesB_at (h.parts b (List.mem_of_getElem? hb)).2.1 q hq rest
  · show m.n = m.cfg.l.toNat
    have := hO.l
    omega
  · obtain ⟨i, hi⟩ := List.getElem?_of_mem hb
    obtain ⟨rest, e⟩ := leavesT_from m i hi
    obtain ⟨h1, h3, h4⟩ := h.parts b hb
    rw [mdR_part hO hi, e, partR_leaves h3 h4 rest]
    refine ⟨rfl, fun hv => ?_⟩
    unfold szB at h1
    rw [hv, if_neg (by decide)] at h1
    have hrc : (m.part b.k b.y).r = b.r ∧ (m.part b.k b.y).c = b.c := by
      by_cases h : (m.part b.k b.y).r = b.r ∧ (m.part b.k b.y).c = b.c
      · exact h
      · rw [if_neg h] at h1; cases h1
    unfold partR
    dsimp only
    rw [hv, if_neg (by decide), if_neg (by decide)]
    exact hrc
theorem put_fit {m : Md} (hE : m.chk = 0) {k y r : Int} {K Y R C A : Nat} (hp : PlcAt m k y r K Y R C A) (l : List Int) (hl : l.length = (m.part K Y).l.length) (hi : i64 l) : Fit (m.put K Y l) := by
  obtain ⟨hH, hP⟩ := chk_zero hE
  obtain ⟨hck, _, _, hnl⟩ := headE_zero hH
  obtain ⟨V, D, I, e, _⟩ := cfg_blks (Cfg.ok_of_chk hck)
  refine ⟨hck, hnl, fun b hb => ?_⟩
  have hb' : b ∈ m.cfg.blks := hb
  obtain ⟨h1, h2, h3, h4⟩ := parts_of hE hb'
  rw [put_part m l hp.part (blks_okL (e ▸ hb') : OkL m.cfg.l.toNat b)]
  by_cases hh : b.k = K ∧ b.y = Y
  · rw [if_pos hh]
    have hl' : l.length = (m.part b.k b.y).l.length := by rw [hl, hh.1, hh.2]
    refine ⟨?_, by dsimp only; rw [hl', h3], hi⟩
    unfold szB at h1 ⊢
    dsimp only
    rw [hl']
    exact h1
  · rw [if_neg hh]
    exact ⟨h1, h3, h4⟩
/-- numbers of which one row is another one -/
def rowPut (old : List Int) (R C : Nat) (l : List Int) : List Int := (List.range old.length).map fun j => if R * C ≤ j ∧ j < R * C + C then l.getD (j - R * C) 0 else old.getD j 0
theorem rowPut_length (old : List Int) (R C : Nat) (l : List Int) : (rowPut old R C l).length = old.length := by simp [rowPut]
theorem rowPut_get {old : List Int} {R C : Nat} {l : List Int} {j : Nat} (h : j < old.length) : (rowPut old R C l)[j]? = some (if R * C ≤ j ∧ j < R * C + C then l.getD (j - R * C) 0 else old.getD j 0) := by
  simp [rowPut, h]
theorem rowPut_row {old : List Int} {R C : Nat} {l : List Int} (hl : l.length = C) (hR : R * C + C ≤ old.length) (q : Nat) (hq : q * C + C ≤ old.length) : ((rowPut old R C l).drop (q * C)).take C = if q = R then l else (old.drop (q * C)).take C := by
  refine List.ext_getElem? fun i => ?_
  by_cases hi : i < C
  · rw [List.getElem?_take, if_pos hi, List.getElem?_drop, rowPut_get (by omega)]
    by_cases e : q = R
    · subst e
      rw [if_pos rfl, if_pos (by omega), Nat.add_sub_cancel_left, List.getD_eq_getElem?_getD, List.getElem?_eq_getElem (by omega)]
      rfl
    · rw [if_neg e, if_neg ?_, List.getElem?_take, if_pos hi, List.getElem?_drop, List.getD_eq_getElem?_getD, List.getElem?_eq_getElem (by omega)]
      · rfl
      · rcases Nat.lt_or_gt_of_ne e with h | h
        · have := Nat.mul_le_mul_right C (show q + 1 ≤ R from h)
          rw [Nat.succ_mul] at this
          omega
        · have := Nat.mul_le_mul_right C (show R + 1 ≤ q from h)
          rw [Nat.succ_mul] at this
          omega
  · have h1 : (((rowPut old R C l).drop (q * C)).take C)[i]? = none := by rw [List.getElem?_take, if_neg hi]
    have h2 : (if q = R then l else (old.drop (q * C)).take C)[i]? = none := by
      split
      · exact List.getElem?_eq_none (by omega)
      · rw [List.getElem?_take, if_neg hi]
    rw [h1, h2]
theorem rowPut_mem {old : List Int} {R C : Nat} {l : List Int} (hl : l.length = C) (hR : R * C + C ≤ old.length) {p : Int → Prop} (ho : ∀ x ∈ old, p x) : (∀ x ∈ rowPut old R C l, p x) ↔ ∀ x ∈ l, p x := by
  constructor
  · intro h x hx
    obtain ⟨i, hi, rfl⟩ := List.mem_iff_getElem.1 hx
    refine h _ (List.mem_of_getElem? (i := R * C + i) ?_)
    rw [rowPut_get (by omega), if_pos (by omega), Nat.add_sub_cancel_left, List.getD_eq_getElem?_getD, List.getElem?_eq_getElem hi]
    rfl
  · intro h x hx
    unfold rowPut at hx
    obtain ⟨j, hj, rfl⟩ := List.mem_map.1 hx
    have hj := List.mem_range.1 hj
    split
    · rw [List.getD_eq_getElem?_getD, List.getElem?_eq_getElem (by omega)]
      exact h _ (List.getElem_mem _)
    · rw [List.getD_eq_getElem?_getD, List.getElem?_eq_getElem hj]
      exact ho _ (List.getElem_mem _)
theorem row_leaves {m : Md} (hE : m.chk = 0) {k y r : Int} {K Y R C A : Nat} (hp : PlcAt m k y r K Y R C A) (l : List Int) (hl : l.length = C) : leavesD (m.put K Y (rowPut (m.part K Y).l R C l)) = (leavesD m).set A (Cd.nums l) := by
  obtain ⟨hH, _⟩ := chk_zero hE
  obtain ⟨hck, _, _, _⟩ := headE_zero hH
  obtain ⟨V, D, I, e, _⟩ := cfg_blks (Cfg.ok_of_chk hck)
  obtain ⟨i0, b0, h1, h2, h3, h4, h5, h6⟩ := hp.blk
  subst h2 h3 h4
  have hbk : (m.put b0.k b0.y (rowPut (m.part b0.k b0.y).l R b0.c l)).cfg.blks = m.cfg.blks := rfl
  refine List.ext_getElem? fun j => ?_
  by_cases hj : j < (leavesD m).length
  · rw [List.getElem?_set]
    rw [leavesD_len] at hj
    by_cases h0 : j = 0
    · subst h0
      rw [if_neg (by have := hp.one; omega)]
      rfl
    · obtain ⟨i, b, q, g1, g2, g3⟩ := rows_find m.cfg.blks (j - 1) (by omega)
      have ej : j = 1 + (rowsB (m.cfg.blks.take i) + q) := by omega
      have hmem := List.mem_of_getElem? g1
      have hok : OkL m.cfg.l.toNat b := blks_okL (e ▸ hmem)
      have hpp := put_part m (rowPut (m.part b0.k b0.y).l R b0.c l) hp.part hok
      have hl1 := leavesD_at (m.put b0.k b0.y (rowPut (m.part b0.k b0.y).l R b0.c l)) (hbk ▸ g1) g2
      rw [hbk] at hl1
      have hl2 := leavesD_at m g1 g2
      have hq : q * b.c + b.c ≤ (m.part b.k b.y).l.length := by
        obtain ⟨_, _, h9, _⟩ := parts_of hE hmem
        rw [h9]
        have := Nat.mul_le_mul_right b.c (show q + 1 ≤ b.r from g2)
        rw [Nat.succ_mul] at this
        exact this
      have hlen : j < (leavesD m).length := by rw [leavesD_len]; omega
      rw [ej] at hlen ⊢
      rw [hl1, hl2, hpp]
      by_cases hb : b.k = b0.k ∧ b.y = b0.y
      · obtain rfl : i = i0 := blks_key (e ▸ g1) (e ▸ h1) hb.1 hb.2
        obtain rfl : b = b0 := Option.some.inj (g1.symm.trans h1)
        rw [if_pos hb]
        dsimp only
        rw [rowPut_row hl hp.lt q hq]
        by_cases hr : q = R
        · rw [if_pos hr, if_pos (by omega), if_pos (by rw [h6, ← hr]; exact hlen)]
        · rw [if_neg hr, if_neg (by omega)]
      · rw [if_neg hb, if_neg (fun he => hb ?_)]
        obtain ⟨hi, _⟩ := rows_inj _ _ _ _ _ _ _ g1 h1 g2 h5 (by omega)
        subst hi
        obtain rfl : b = b0 := Option.some.inj (g1.symm.trans h1)
        exact ⟨rfl, rfl⟩
  · rw [List.getElem?_eq_none (by rw [put_len]; omega), List.getElem?_eq_none (by rw [List.length_set]; omega)]
theorem row_leavesT {m : Md} (hE : m.chk = 0) {k y r : Int} {K Y R C A : Nat} (hp : PlcAt m k y r K Y R C A) (l : List Int) (hl : l.length = C) : leavesT (m.put K Y (rowPut (m.part K Y).l R C l)) = (leavesT m).set (A - 1) (Cd.nums l) := by
  have h := row_leaves hE hp l hl
  rw [leavesD_eq, leavesD_eq] at h
  have hA := hp.one
  rw [show A = (A - 1) + 1 by omega, List.set_cons_succ] at h
  injection h with _ h2
/-- what is wrong with a row of a part: numbers that may not be -/
def badE (K : Nat) (l : List Int) : Int := if ∀ x ∈ l, (if isVec K then Fx.isN x else isW x) then 0 else 10
theorem part_bad {b : Bl} {r c : Int} {l l' : List Int} (h : nmB b ⟨r, c, l⟩ = 0) (hl : l'.length = l.length) : nmB b ⟨r, c, l'⟩ = badE b.k l' := by
  unfold nmB badE at *
  dsimp only at *
  cases hv : isVec b.k with
  | true =>
    rw [hv, if_pos rfl] at h
    simp only [if_true]
    unfold chkV at h ⊢
    split at h
    · cases h
    · rw [if_neg (by omega)]
  | false =>
    rw [hv, if_neg (by decide)] at h
    simp only [Bool.false_eq_true, if_false]
    unfold chkM at h ⊢
    rw [hl]
    split at h
    · cases h
    · rename_i h9
      rw [if_neg h9]
theorem put_partsE {m : Md} (hE : m.chk = 0) {K Y : Nat} (hK : (K = 1 ∧ Y = 0) ∨ (K = 11 ∧ Y = 0) ∨ (K = 12 ∧ Y = 0) ∨ (Y < m.n ∧ 2 ≤ K ∧ K ≤ 10)) (l : List Int) (hl : l.length = (m.part K Y).l.length) :
    ∀ bs : List Bl, (∀ b ∈ bs, b ∈ m.cfg.blks) → partsE (m.put K Y l) bs = if ∃ b ∈ bs, b.k = K ∧ b.y = Y then badE K l else 0
  | [], _ => by simp [partsE]
  | b :: t, h => by
    obtain ⟨hH, hP⟩ := chk_zero hE
    obtain ⟨hck, _, _, _⟩ := headE_zero hH
    obtain ⟨V, D, I, e, _⟩ := cfg_blks (Cfg.ok_of_chk hck)
    have hbm := h b (List.mem_cons_self ..)
    have hpp := put_part m l hK (blks_okL (e ▸ hbm) : OkL m.cfg.l.toNat b)
    obtain ⟨hs, hnm⟩ := partsE_all hP b hbm
    have ih := put_partsE hE hK l hl t (fun b hb => h b (List.mem_cons_of_mem _ hb))
    have h0 : partE b ((m.put K Y l).part b.k b.y) = if b.k = K ∧ b.y = Y then badE K l else 0 := by
      rw [hpp]
      by_cases hh : b.k = K ∧ b.y = Y
      · rw [if_pos hh, if_pos hh]
        obtain ⟨ek, ey⟩ := hh
        rw [← ek, ← ey] at hl
        rw [← ek]
        unfold partE
        have h1 : szB b ⟨(m.part b.k b.y).r, (m.part b.k b.y).c, l⟩ = 0 := by
          unfold szB at hs ⊢
          dsimp only
          rw [hl]
          exact hs
        rw [if_neg (by omega)]
        exact part_bad (l := (m.part b.k b.y).l) hnm hl
      · rw [if_neg hh, if_neg hh]
        unfold partE
        rw [if_neg (by omega)]
        exact hnm
    unfold partsE
    rw [h0, ih]
    by_cases hh : b.k = K ∧ b.y = Y
    · rw [if_pos hh, if_pos (⟨b, List.mem_cons_self .., hh⟩ : ∃ c ∈ b :: t, c.k = K ∧ c.y = Y)]
      by_cases hz : badE K l = 0
      · rw [if_neg (by omega)]
        split <;> omega
      · rw [if_pos hz]
    · rw [if_neg hh, if_neg (by decide)]
      by_cases ht : ∃ c ∈ t, c.k = K ∧ c.y = Y
      · rw [if_pos ht, if_pos]
        obtain ⟨c, hc, hc2⟩ := ht
        exact ⟨c, List.mem_cons_of_mem _ hc, hc2⟩
      · rw [if_neg ht, if_neg]
        rintro ⟨c, hc, hc2⟩
        rcases List.mem_cons.1 hc with rfl | hc
        · exact hh hc2
        · exact ht ⟨c, hc, hc2⟩
theorem row_chk {m : Md} (hE : m.chk = 0) {k y r : Int} {K Y R C A : Nat} (hp : PlcAt m k y r K Y R C A) (l : List Int) (hl : l.length = C) : (m.put K Y (rowPut (m.part K Y).l R C l)).chk = badE K l := by
  obtain ⟨hH, hP⟩ := chk_zero hE
  have h0 : (m.put K Y (rowPut (m.part K Y).l R C l)).headE = 0 := hH
  obtain ⟨i0, b0, h1, h2, h3, _⟩ := hp.blk
  rw [chk_yes h0]
  have h9 := put_partsE hE hp.part (rowPut (m.part K Y).l R C l) (rowPut_length ..) m.cfg.blks (fun b hb => hb)
  rw [if_pos ⟨b0, List.mem_of_getElem? h1, h2, h3⟩] at h9
  refine h9.trans ?_
  obtain ⟨g1, g2⟩ := part_nums hE hp
  unfold badE
  have hg : ∀ x ∈ (m.part K Y).l, (if isVec K then Fx.isN x else isW x) := fun x hx => by
    split
    · exact g1 x hx
    · rename_i hv; exact g2 (by simpa using hv) x hx
  have := rowPut_mem (p := fun x => if isVec K then Fx.isN x else isW x) hl hp.lt hg
  by_cases h : ∀ x ∈ l, (if isVec K then Fx.isN x else isW x)
  · rw [if_pos (this.2 h), if_pos h]
  · rw [if_neg (fun h2 => h (this.1 h2)), if_neg h]
theorem join_set (ls : List (List Int)) (j : Nat) (x : List Int) : (Cd.join (ls.set j x)).length ≤ (Cd.join ls).length + x.length + 4 := by
  induction ls generalizing j with
  | nil => rw [List.set_nil]; omega
  | cons l ls ih =>
    cases j with
    | zero => rw [List.set_cons_zero, Cd.join_cons, Cd.join_cons]; simp only [List.length_append, Cd.be_length]; omega
    | succ j => rw [List.set_cons_succ, Cd.join_cons, Cd.join_cons]; simp only [List.length_append, Cd.be_length]; have := ih j; omega
def zeroW : Wv := ⟨⟨0, 0, 0, 0, 0, 0⟩, none, 0, 0, none, 0, 0, 0, 0, none, 0, 0, none, 0, 0, none, 0, 0, 0, 0, none, 0, 0⟩
theorem zeroW_cells : zeroW.cells = zeroC := rfl
/-- what Parse says of a model's bytes of which one leaf is another one -/
theorem parse_row (w : World) (sp : Option Addr) (cap n : Nat) {m : Md} (hE : m.chk = 0) (hF : FewM m) (hi : i64 (flatP m.ps)) {k y r : Int} {K Y R C A : Nat} (hp : PlcAt m k y r K Y R C A) (l : List Int) (hl80 : l.length ≤ 80) (hli : i64 l)
    (hn : (Cd.join ((leavesD m).set A (Cd.nums l))).length = n) (hb : Cd.Bytes w sp cap (Cd.join ((leavesD m).set A (Cd.nums l)))) :
    Calls Try.prog 11 #[.slice sp n cap] w fun e w' => ∃ u : Wv, e = .returned (.tuple #[.agg u.cells, .int .i64 (if l.length = C then badE K l else 11)]) ∧ Below w.heap.size w w' := by
  obtain ⟨hH, hP⟩ := chk_zero hE
  obtain ⟨hck, _, _, hnl⟩ := headE_zero hH
  have hO := Cfg.ok_of_chk hck
  have h1 := hF.al
  have h2 := hF.ps
  have hA := hp.one
  have hset : (leavesD m).set A (Cd.nums l) = headB m.cfg m.al m.ps :: (leavesT m).set (A - 1) (Cd.nums l) := by
    rw [leavesD_eq, show A = (A - 1) + 1 by omega, List.set_cons_succ]
    simp
  have hnl8 : (Cd.nums l).length = 8 * l.length := numsQ_length l
  have hn9 : n ≤ 1000000 := by
    have h8 := join_set (leavesD m) A (Cd.nums l)
    have h7 := few_bytes hE hF
    omega
  rw [hset] at hn hb
  have hlf : ∀ p ∈ (leavesT m).set (A - 1) (Cd.nums l), p.length ≤ 100000 := fun p hp => by
    rcases List.mem_or_eq_of_mem_set hp with h | h
    · have := few_leaf hE h; omega
    · rw [h]; omega
  have hh := few_head hF
  have hsm : Cd.small (headB m.cfg m.al m.ps :: (leavesT m).set (A - 1) (Cd.nums l)) := fun p hp => by
    rcases List.mem_cons.1 hp with rfl | hp
    · omega
    · have := hlf p hp; omega
  have hhd := HeadIs.of (cfg_i64 hO) hi (show m.al.length ≤ 1000000 by omega) (show m.ps.length ≤ 1000000 by omega)
  by_cases hC : l.length = C
  · rw [if_pos hC]
    have hT := row_leavesT hE hp l hC
    have hck2 := row_chk hE hp l hC
    have hfit := put_fit hE hp (rowPut (m.part K Y).l R C l) (rowPut_length ..) (by
      have hold : i64 (m.part K Y).l := by
        obtain ⟨i0, b0, g1, g2, g3, _⟩ := hp.blk
        have := (parts_of hE (List.mem_of_getElem? g1)).2.2.2
        rw [g2, g3] at this
        exact this
      exact (rowPut_mem hC hp.lt hold).2 hli)
    obtain ⟨hok, hsame⟩ := read_fit hfit
    rw [← hT] at hn hb hsm hlf
    have hchk : (mdR m.cfg m.al m.ps (leavesT (m.put K Y (rowPut (m.part K Y).l R C l)))).chk = badE K l := hsame.chk.symm.trans hck2
    by_cases hz0 : badE K l = 0
    · rw [hz0] at hchk ⊢
      refine (parse_ok w sp cap n _ hn hb hn9 _ _ hsm rfl (by omega) m.cfg m.al m.ps hhd hlf hok (by omega) (by omega) hchk).mono fun e w' ⟨u, n2, β, h, _, _, _, _, _, hb⟩ => ⟨u, h, hb⟩
    · refine (parse_chk w sp cap n _ hn hb hn9 _ _ hsm rfl (by omega) m.cfg m.al m.ps hhd hlf hok (by omega) (by omega) _ hchk hz0).mono fun e w' ⟨h, hb⟩ => ⟨zeroW, by rw [zeroW_cells]; exact h, hb⟩
  · rw [if_neg hC]
    refine (parse_noR w sp cap n _ hn hb hn9 _ _ hsm rfl (by omega) m.cfg m.al m.ps hhd hlf (fun hok => hC ?_)).mono fun e w' ⟨h, hb⟩ => ⟨zeroW, by rw [zeroW_cells]; exact h, hb⟩
    obtain ⟨i0, b0, g1, g2, g3, g4, g5, g6⟩ := hp.blk
    have hf := hok.2.2 i0 b0 g1 R g5
    rw [List.getD_eq_getElem?_getD, List.getElem?_drop, List.getElem?_set, if_pos (by omega), if_pos (by have := hp.alt; rw [leavesD_eq, List.length_cons] at this; omega)] at hf
    simp only [Option.getD_some] at hf
    omega
end Go.Proofs.Ytkfkjapkcjidnaa.Wg
