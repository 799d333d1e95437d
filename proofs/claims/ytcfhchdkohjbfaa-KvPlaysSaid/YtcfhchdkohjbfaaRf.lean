/- Pools of rows in pages: the document's pool of the law's: a row more. -/
import Derived.Test.YtcfhchdkohjbfaaRe
import Derived.Maps.AppendAt
namespace Go.Proofs.Ytcfhchdkohjbfaa.Kv
set_option maxRecDepth 100000
open Go.ChangeShapes Go.WideShapes Go.ChangeAt Go.RowKit Go.Proofs.Ytcfhchdkohjbfaa.Tn
theorem rowCells_snoc (f g : Nat → Value) (x y : Value) (q : List Int × List Nat) : ∀ (j : Nat) (l : List (Option (List Int × List Nat))), rowCells (upd f (j + l.length) x) (upd g (j + l.length) y) j (l ++ [some q]) = rowCells f g j l ++ [x, y, .bool true]
  | j, [] => by
    show [upd f (j + 0) x j, upd g (j + 0) y j, Value.bool true] = _
    rw [Nat.add_zero, upd_same, upd_same]; rfl
  | j, none :: l => by
    have ih := rowCells_snoc f g x y q (j + 1) l
    rw [show j + 1 + l.length = j + (l.length + 1) by omega] at ih
    simp only [List.cons_append, rowCells, List.length_cons]
    rw [ih]
  | j, some p :: l => by
    have ih := rowCells_snoc f g x y q (j + 1) l
    rw [show j + 1 + l.length = j + (l.length + 1) by omega] at ih
    simp only [List.cons_append, rowCells, List.length_cons]
    rw [ih, upd_other _ _ (by omega), upd_other _ _ (by omega)]
section
variable {w : World} {τ : Tags} {r : Nat} {ly : RLay} {D : Doc Int}
theorem RefAt.owns (h : RefAt w τ r ly D) : w.ownsRow 0 73 3 ly.v D.rows.length (rowCells ly.lv ly.pv 0 D.rows) := by
  refine ⟨rowCells_length _ _ _ _, ?_⟩
  rcases h.rows with ⟨h0, h1⟩ | ⟨cap, cur, h1, h2, h3, h4, h5, h6, _⟩
  · exact Or.inl ⟨h1, by rw [h0]; rfl⟩
  · exact Or.inr ⟨ly.b, cap, cur, h1, Nat.zero_le _, h2, h3, h4, h5, h6⟩
theorem RefAt.own_tag (h : RefAt w τ r ly D) {c : Nat} (hc : ly.v.ownBlock = some c) : c = ly.b ∧ τ c = some .rrows := by
  rcases h.rows with ⟨_, h1⟩ | ⟨cap, cur, h1, _, _, _, _, _, h7⟩
  · rw [h1] at hc; cases hc
  · rw [h1] at hc
    have : some ly.b = some c := hc
    cases this
    exact ⟨rfl, h7⟩
theorem RefAt.own_ne (h : RefAt w τ r ly D) : some r ≠ ly.v.ownBlock := fun e => by
  have := (h.own_tag e.symm).2
  rw [h.tr] at this
  cases this
/-- a row more, in the block that it has grown into -/
theorem RefAt.push (h : RefAt w τ r ly D) {w1 : World} {v' lv pv : Value} (hg : w.grownBy w1 ly.v.ownBlock) (ho : w1.ownsRow 0 73 3 v' (D.rows.length + 1) (rowCells ly.lv ly.pv 0 D.rows ++ [lv, pv, .bool true]))
    (hb : v'.ownBlock = ly.v.ownBlock ∨ ∃ q, v'.ownBlock = some q ∧ w.heap.size ≤ q) {L : List Int} {P : List Nat} {lb pb : Option Nat} (hL : Row w 3 lv lb (L.map (Value.int .i64))) (hlb : ∀ c, lb = some c → τ c = some (.rl D.rows.length)) (hP : Row w 3 pv pb (P.map natV)) (hpb : ∀ c, pb = some c → τ c = some (.rpg D.rows.length)) :
    ∃ τ' ly', ly'.v = v' ∧ RefAt (w1.setCell ⟨r, 0, none⟩ v') τ' r ly' (addRow D L P) ∧ Step Tag.theirs τ τ' w (w1.setCell ⟨r, 0, none⟩ v') := by
  obtain ⟨_, hz | ⟨g, cap, cur, rfl, _, k2, k3, k4, k5, k6⟩⟩ := ho
  · exact absurd hz.2 (by omega)
  have hbg : some g = ly.v.ownBlock ∨ w.heap.size ≤ g := by
    rcases hb with e | ⟨q, e, hq⟩
    · exact Or.inl e
    · have : some g = some q := e
      cases this
      exact Or.inr hq
  have hrs := (Array.getElem?_eq_some_iff.1 h.hd).1
  have hgr : g ≠ r := fun e => by
    subst e
    rcases hbg with e | e
    · exact h.own_ne e
    · omega
  have hr1 : w1.heap[r]? = w.heap[r]? := hg.block r hrs h.own_ne
  have hst : Step Tag.theirs τ (fun q => if q = g then some .rrows else τ q) w (w1.setCell ⟨r, 0, none⟩ (.slice (some ⟨g, 0, none⟩) (D.rows.length + 1) cap)) := by
    refine ⟨hg.os, hg.tape, hg.output, by rw [set_size]; exact hg.size, fun c hc => ?_, fun c hc ht => ?_⟩
    · show (if c = g then some Tag.rrows else τ c) = τ c
      split
      · next e =>
        subst e
        rcases hbg with e | e
        · exact ((h.own_tag e.symm).2).symm
        · omega
      · rfl
    · have n1 : c ≠ r := fun e => by subst e; have := ht _ h.tr; cases this
      have n2 : some c ≠ ly.v.ownBlock := fun e => by have := ht _ (h.own_tag e.symm).2; cases this
      rw [set_other _ _ _ _ _ n1]
      exact hg.block c hc n2
  have hf : Fits (fun q => if q = g then some .rrows else τ q) (w1.setCell ⟨r, 0, none⟩ (.slice (some ⟨g, 0, none⟩) (D.rows.length + 1) cap)) := fun c t ht => by
    rw [set_size]
    replace ht : (if c = g then some Tag.rrows else τ c) = some t := ht
    split at ht
    · next e => subst e; exact (Array.getElem?_eq_some_iff.1 k2).1
    · exact Nat.lt_of_lt_of_le (h.fits c t ht) hg.size
  have hkeep : ∀ {c : Nat} {t : Tag}, τ c = some t → t ≠ .rrows → t ≠ .rpool → (w1.setCell ⟨r, 0, none⟩ (.slice (some ⟨g, 0, none⟩) (D.rows.length + 1) cap)).heap[c]? = w.heap[c]? ∧ (if c = g then some Tag.rrows else τ c) = some t := fun {c t} ht h1 h2 => by
    have n1 : c ≠ r := fun e => by subst e; rw [h.tr] at ht; cases ht; exact h2 rfl
    have n2 : some c ≠ ly.v.ownBlock := fun e => by have := (h.own_tag e.symm).2; rw [ht] at this; cases this; exact h1 rfl
    refine ⟨?_, (hst.tags c (h.fits c t ht)).trans ht⟩
    rw [set_other _ _ _ _ _ n1]
    exact hg.block c (h.fits c t ht) n2
  have hkr : ∀ {v : Value} {b : Option Nat} {xs : List Value} {t : Tag}, Row w 3 v b xs → (∀ c, b = some c → τ c = some t) → t ≠ .rrows → t ≠ .rpool → Row (w1.setCell ⟨r, 0, none⟩ (.slice (some ⟨g, 0, none⟩) (D.rows.length + 1) cap)) 3 v b xs ∧ ∀ c, b = some c → (if c = g then some Tag.rrows else τ c) = some t := fun {v b xs t} hv ht h1 h2 =>
    ⟨hv.kept fun c hc => (hkeep (ht c hc) h1 h2).1, fun c hc => (hkeep (ht c hc) h1 h2).2⟩
  refine ⟨_, ⟨_, g, upd ly.lv D.rows.length lv, upd ly.lb D.rows.length lb, upd ly.pv D.rows.length pv, upd ly.pb D.rows.length pb⟩, rfl, ⟨?_, ?_, ?_, fun id L' P' hr => ?_, hf⟩, hst⟩
  · rw [set_same w1 r 0 _ _ _ (hr1.trans h.hd)]
    rfl
  · show (if r = g then some Tag.rrows else τ r) = _
    rw [if_neg (Ne.symm hgr)]; exact h.tr
  · refine Or.inr ⟨cap, cur, ?_, (set_other _ _ _ _ _ hgr).trans k2, ?_, k4, k5, ?_, ?_⟩
    · show _ = Value.slice _ (D.rows ++ [some (L, P)]).length cap
      rw [List.length_append]; rfl
    · show (D.rows ++ [some (L, P)]).length ≤ cap
      rw [List.length_append]; exact k3
    · show cur.toList.take ((D.rows ++ [some (L, P)]).length * 3) = rowCells (upd ly.lv D.rows.length lv) (upd ly.pv D.rows.length pv) 0 (D.rows ++ [some (L, P)])
      have hsn := rowCells_snoc ly.lv ly.pv lv pv (L, P) 0 D.rows
      rw [Nat.zero_add] at hsn
      rw [hsn, List.length_append]; exact k6
    · show (if g = g then some Tag.rrows else τ g) = _
      rw [if_pos rfl]
  · replace hr : (D.rows ++ [some (L, P)])[id]? = some (some (L', P')) := hr
    show Row _ 3 (upd ly.lv D.rows.length lv id) (upd ly.lb D.rows.length lb id) _ ∧ (∀ c, upd ly.lb D.rows.length lb id = some c → _) ∧ Row _ 3 (upd ly.pv D.rows.length pv id) (upd ly.pb D.rows.length pb id) _ ∧ ∀ c, upd ly.pb D.rows.length pb id = some c → _
    by_cases hid : id = D.rows.length
    · subst hid
      rw [List.getElem?_append_right (Nat.le_refl _), Nat.sub_self] at hr
      cases hr
      rw [upd_same, upd_same, upd_same, upd_same]
      obtain ⟨a1, a2⟩ := hkr hL hlb (by simp) (by simp)
      obtain ⟨a3, a4⟩ := hkr hP hpb (by simp) (by simp)
      exact ⟨a1, a2, a3, a4⟩
    · have hlt : id < D.rows.length := by
        have := (List.getElem?_eq_some_iff.1 hr).1
        simp at this; omega
      rw [List.getElem?_append_left hlt] at hr
      rw [upd_other _ _ hid, upd_other _ _ hid, upd_other _ _ hid, upd_other _ _ hid]
      obtain ⟨b1, b2, b3, b4⟩ := h.row id L' P' hr
      obtain ⟨a1, a2⟩ := hkr b1 b2 (by simp) (by simp)
      obtain ⟨a3, a4⟩ := hkr b3 b4 (by simp) (by simp)
      exact ⟨a1, a2, a3, a4⟩
end
end Go.Proofs.Ytcfhchdkohjbfaa.Kv
