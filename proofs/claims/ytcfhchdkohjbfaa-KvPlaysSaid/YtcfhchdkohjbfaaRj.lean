/- Pools of rows in pages: the document's pool of the law's: a row's things, and its pages, are others. -/
import Derived.Test.YtcfhchdkohjbfaaRh
namespace Go.Proofs.Ytcfhchdkohjbfaa.Kv
set_option maxRecDepth 100000
open Go.ChangeShapes Go.WideShapes Go.ChangeAt Go.RowKit Go.Proofs.Ytcfhchdkohjbfaa.Tn
theorem rowCells_farL (f g : Nat → Value) (x : Value) (k : Nat) : ∀ (j : Nat) (l : List (Option (List Int × List Nat))), k < j → rowCells (upd f k x) g j l = rowCells f g j l
  | _, [], _ => rfl
  | j, none :: l, h => by simp only [rowCells]; rw [rowCells_farL f g x k (j + 1) l (by omega)]
  | j, some _ :: l, h => by simp only [rowCells]; rw [rowCells_farL f g x k (j + 1) l (by omega), upd_other _ _ (by omega)]
theorem rowCells_farP (f g : Nat → Value) (x : Value) (k : Nat) : ∀ (j : Nat) (l : List (Option (List Int × List Nat))), k < j → rowCells f (upd g k x) j l = rowCells f g j l
  | _, [], _ => rfl
  | j, none :: l, h => by simp only [rowCells]; rw [rowCells_farP f g x k (j + 1) l (by omega)]
  | j, some _ :: l, h => by simp only [rowCells]; rw [rowCells_farP f g x k (j + 1) l (by omega), upd_other _ _ (by omega)]
theorem rowCells_setL (f g : Nat → Value) (v : Value) (q' : List Int × List Nat) : ∀ (j : Nat) (l : List (Option (List Int × List Nat))) (k : Nat) (q : List Int × List Nat), l[k]? = some (some q) → (rowCells f g j l).set (k * 3) v = rowCells (upd f (j + k) v) g j (l.set k (some q'))
  | j, [], k, q, h => by simp at h
  | j, x :: l, 0, q, h => by
    simp only [List.getElem?_cons_zero, Option.some.injEq] at h
    subst h
    show v :: g j :: Value.bool true :: rowCells f g (j + 1) l = upd f j v j :: g j :: Value.bool true :: rowCells (upd f j v) g (j + 1) l
    rw [upd_same, rowCells_farL f g v j (j + 1) l (by omega)]
  | j, x :: l, k + 1, q, h => by
    simp only [List.getElem?_cons_succ] at h
    have ih := rowCells_setL f g v q' (j + 1) l k q h
    rw [show j + 1 + k = j + (k + 1) by omega] at ih
    have a0 : (k + 1) * 3 = k * 3 + 1 + 1 + 1 := by omega
    rw [a0]
    cases x
    · simp only [rowCells, List.set_cons_succ]
      rw [ih]
    · simp only [rowCells, List.set_cons_succ]
      rw [ih, upd_other _ _ (by omega)]
theorem rowCells_setP (f g : Nat → Value) (v : Value) (q' : List Int × List Nat) : ∀ (j : Nat) (l : List (Option (List Int × List Nat))) (k : Nat) (q : List Int × List Nat), l[k]? = some (some q) → (rowCells f g j l).set (k * 3 + 1) v = rowCells f (upd g (j + k) v) j (l.set k (some q'))
  | j, [], k, q, h => by simp at h
  | j, x :: l, 0, q, h => by
    simp only [List.getElem?_cons_zero, Option.some.injEq] at h
    subst h
    show f j :: v :: Value.bool true :: rowCells f g (j + 1) l = f j :: upd g j v j :: Value.bool true :: rowCells f (upd g j v) (j + 1) l
    rw [upd_same, rowCells_farP f g v j (j + 1) l (by omega)]
  | j, x :: l, k + 1, q, h => by
    simp only [List.getElem?_cons_succ] at h
    have ih := rowCells_setP f g v q' (j + 1) l k q h
    rw [show j + 1 + k = j + (k + 1) by omega] at ih
    have a1 : (k + 1) * 3 + 1 = k * 3 + 1 + 1 + 1 + 1 := by omega
    rw [a1]
    cases x
    · simp only [rowCells, List.set_cons_succ]
      rw [ih]
    · simp only [rowCells, List.set_cons_succ]
      rw [ih, upd_other _ _ (by omega)]
/-- a row's things are others, in the block that they have grown into -/
theorem RefAt.setL {w : World} {τ : Tags} {r : Nat} {ly : RLay} {D : Doc Int} (h : RefAt w τ r ly D) {k : Nat} {L : List Int} {P : List Nat} (hq : D.rows[k]? = some (some (L, P))) {w1 : World} {v : Value} {d : Option Nat} {L' : List Int} (hg : w.grownBy w1 (ly.lb k)) (hr : Row w1 3 v d (L'.map (Value.int .i64))) (hd : d = ly.lb k ∨ ∃ q, d = some q ∧ w.heap.size ≤ q) :
    ∃ τ' ly', RefAt (w1.setCell ⟨ly.b, k * 3, none⟩ v) τ' r ly' (putRow D k (some (L', P))) ∧ Step Tag.theirs τ τ' w (w1.setCell ⟨ly.b, k * 3, none⟩ v) := by
  have hkl := (List.getElem?_eq_some_iff.1 hq).1
  rcases h.rows with ⟨h0, _⟩ | ⟨cap, cur, h1, h2, h3, h4, h5, h6, h7⟩
  · rw [h0] at hq; simp at hq
  obtain ⟨r1, r2, r3, r4⟩ := h.row k L P hq
  have htg : ∀ c, ly.lb k = some c → τ c = some (.rl k) := r2
  let τ' : Tags := fun q => if d = some q then some (.rl k) else τ q
  have hτ : ∀ q, q < w.heap.size → τ' q = τ q := fun q hq => by
    show (if d = some q then some (Tag.rl k) else τ q) = τ q
    split
    · next e =>
      rcases hd with e1 | ⟨q', e1, hq'⟩
      · exact (htg q (e1.symm.trans e)).symm
      · rw [e] at e1; cases e1; omega
    · rfl
  have hold : ∀ {c : Nat} {t : Tag}, τ c = some t → t ≠ .rl k → t ≠ .rrows → (w1.setCell ⟨ly.b, k * 3, none⟩ v).heap[c]? = w.heap[c]? ∧ τ' c = some t := fun {c t} ht n1 n2 => by
    have hc := h.fits c t ht
    have hcb : c ≠ ly.b := fun e => by subst e; rw [h7] at ht; cases ht; exact n2 rfl
    have hcl : some c ≠ ly.lb k := fun e => by have := htg c e.symm; rw [ht] at this; cases this; exact n1 rfl
    exact ⟨(set_other _ _ _ _ _ hcb).trans (hg.block c hc hcl), (hτ c hc).trans ht⟩
  have hrow : ∀ {u : Value} {b : Option Nat} {xs : List Value} {t : Tag}, Row w 3 u b xs → (∀ c, b = some c → τ c = some t) → t ≠ .rl k → t ≠ .rrows → Row (w1.setCell ⟨ly.b, k * 3, none⟩ v) 3 u b xs ∧ ∀ c, b = some c → τ' c = some t := fun {u b xs t} hv ht n1 n2 =>
    ⟨hv.kept fun c hc => (hold (ht c hc) n1 n2).1, fun c hc => (hold (ht c hc) n1 n2).2⟩
  have hb1 : w1.heap[ly.b]? = w.heap[ly.b]? := hg.block _ (h.fits _ _ h7) fun e => by have := htg _ e.symm; rw [h7] at this; cases this
  have hdb : ∀ c, d = some c → c ≠ ly.b := fun c hc e => by
    subst e
    rcases hd with e1 | ⟨q', e1, hq'⟩
    · have := htg _ (e1.symm.trans hc); rw [h7] at this; cases this
    · rw [hc] at e1; cases e1
      have := h.fits _ _ h7
      omega
  have hnew : Row (w1.setCell ⟨ly.b, k * 3, none⟩ v) 3 v d (L'.map (Value.int .i64)) := hr.kept fun c hc => set_other _ _ _ _ _ (hdb c hc)
  have hst : Step Tag.theirs τ τ' w (w1.setCell ⟨ly.b, k * 3, none⟩ v) := by
    refine ⟨hg.os, hg.tape, hg.output, by rw [set_size]; exact hg.size, hτ, fun c hc ht => ?_⟩
    have n1 : c ≠ ly.b := fun e => by subst e; have := ht _ h7; cases this
    have n2 : some c ≠ ly.lb k := fun e => by have := ht _ (htg c e.symm); cases this
    exact (set_other _ _ _ _ _ n1).trans (hg.block c hc n2)
  have hf : Fits τ' (w1.setCell ⟨ly.b, k * 3, none⟩ v) := fun c t ht => by
    replace ht : (if d = some c then some (Tag.rl k) else τ c) = some t := ht
    split at ht
    · next e => exact hnew.lt e
    · exact Nat.lt_of_lt_of_le (h.fits c t ht) hst.size
  refine ⟨τ', ⟨ly.v, ly.b, upd ly.lv k v, upd ly.lb k d, ly.pv, ly.pb⟩, ⟨(hold h.tr (by simp) (by simp)).1.trans h.hd, (hold h.tr (by simp) (by simp)).2, Or.inr ⟨cap, cur.setIfInBounds (k * 3) v, ?_, ?_, ?_, h4, by simpa using h5, ?_, (hτ _ (h.fits _ _ h7)).trans h7⟩, fun id L1 P1 hr1 => ?_, hf⟩, hst⟩
  · show _ = Value.slice _ (D.rows.set k _).length cap
    rw [List.length_set]; exact h1
  · exact set_same _ _ _ _ _ _ (hb1.trans h2)
  · show (D.rows.set k _).length ≤ cap
    rw [List.length_set]; exact h3
  · show List.take ((D.rows.set k _).length * 3) _ = rowCells (upd ly.lv k v) ly.pv 0 (D.rows.set k (some (L', P)))
    have hsn := rowCells_setL ly.lv ly.pv v (L', P) 0 D.rows k (L, P) hq
    rw [Nat.zero_add] at hsn
    rw [List.length_set, ← hsn, ← h6]
    simp only [Array.toList_setIfInBounds, List.take_set]
  · replace hr1 : (D.rows.set k (some (L', P)))[id]? = some (some (L1, P1)) := hr1
    by_cases hik : k = id
    · subst hik
      rw [List.getElem?_set_self hkl] at hr1
      cases hr1
      show Row _ 3 (upd ly.lv k v k) (upd ly.lb k d k) _ ∧ (∀ c, upd ly.lb k d k = some c → _) ∧ Row _ 3 (ly.pv k) (ly.pb k) _ ∧ ∀ c, ly.pb k = some c → _
      rw [upd_same, upd_same]
      obtain ⟨a3, a4⟩ := hrow r3 r4 (by simp) (by simp)
      exact ⟨hnew, fun c hc => if_pos hc, a3, a4⟩
    · rw [List.getElem?_set_ne hik] at hr1
      obtain ⟨b1, b2, b3, b4⟩ := h.row id L1 P1 hr1
      obtain ⟨a1, a2⟩ := hrow b1 b2 (by simp [Ne.symm hik]) (by simp)
      obtain ⟨a3, a4⟩ := hrow b3 b4 (by simp) (by simp)
      show Row _ 3 (upd ly.lv k v id) (upd ly.lb k d id) _ ∧ (∀ c, upd ly.lb k d id = some c → _) ∧ Row _ 3 (ly.pv id) (ly.pb id) _ ∧ ∀ c, ly.pb id = some c → _
      rw [upd_other _ _ (Ne.symm hik), upd_other _ _ (Ne.symm hik)]
      exact ⟨a1, a2, a3, a4⟩
/-- a row's pages are others, in the block that they have grown into -/
theorem RefAt.setP {w : World} {τ : Tags} {r : Nat} {ly : RLay} {D : Doc Int} (h : RefAt w τ r ly D) {k : Nat} {L : List Int} {P : List Nat} (hq : D.rows[k]? = some (some (L, P))) {w1 : World} {v : Value} {d : Option Nat} {P' : List Nat} (hg : w.grownBy w1 (ly.pb k)) (hr : Row w1 3 v d (P'.map natV)) (hd : d = ly.pb k ∨ ∃ q, d = some q ∧ w.heap.size ≤ q) :
    ∃ τ' ly', RefAt (w1.setCell ⟨ly.b, k * 3 + 1, none⟩ v) τ' r ly' (putRow D k (some (L, P'))) ∧ Step Tag.theirs τ τ' w (w1.setCell ⟨ly.b, k * 3 + 1, none⟩ v) := by
  have hkl := (List.getElem?_eq_some_iff.1 hq).1
  rcases h.rows with ⟨h0, _⟩ | ⟨cap, cur, h1, h2, h3, h4, h5, h6, h7⟩
  · rw [h0] at hq; simp at hq
  obtain ⟨r1, r2, r3, r4⟩ := h.row k L P hq
  have htg : ∀ c, ly.pb k = some c → τ c = some (.rpg k) := r4
  let τ' : Tags := fun q => if d = some q then some (.rpg k) else τ q
  have hτ : ∀ q, q < w.heap.size → τ' q = τ q := fun q hq => by
    show (if d = some q then some (Tag.rpg k) else τ q) = τ q
    split
    · next e =>
      rcases hd with e1 | ⟨q', e1, hq'⟩
      · exact (htg q (e1.symm.trans e)).symm
      · rw [e] at e1; cases e1; omega
    · rfl
  have hold : ∀ {c : Nat} {t : Tag}, τ c = some t → t ≠ .rpg k → t ≠ .rrows → (w1.setCell ⟨ly.b, k * 3 + 1, none⟩ v).heap[c]? = w.heap[c]? ∧ τ' c = some t := fun {c t} ht n1 n2 => by
    have hc := h.fits c t ht
    have hcb : c ≠ ly.b := fun e => by subst e; rw [h7] at ht; cases ht; exact n2 rfl
    have hcl : some c ≠ ly.pb k := fun e => by have := htg c e.symm; rw [ht] at this; cases this; exact n1 rfl
    exact ⟨(set_other _ _ _ _ _ hcb).trans (hg.block c hc hcl), (hτ c hc).trans ht⟩
  have hrow : ∀ {u : Value} {b : Option Nat} {xs : List Value} {t : Tag}, Row w 3 u b xs → (∀ c, b = some c → τ c = some t) → t ≠ .rpg k → t ≠ .rrows → Row (w1.setCell ⟨ly.b, k * 3 + 1, none⟩ v) 3 u b xs ∧ ∀ c, b = some c → τ' c = some t := fun {u b xs t} hv ht n1 n2 =>
    ⟨hv.kept fun c hc => (hold (ht c hc) n1 n2).1, fun c hc => (hold (ht c hc) n1 n2).2⟩
  have hb1 : w1.heap[ly.b]? = w.heap[ly.b]? := hg.block _ (h.fits _ _ h7) fun e => by have := htg _ e.symm; rw [h7] at this; cases this
  have hdb : ∀ c, d = some c → c ≠ ly.b := fun c hc e => by
    subst e
    rcases hd with e1 | ⟨q', e1, hq'⟩
    · have := htg _ (e1.symm.trans hc); rw [h7] at this; cases this
    · rw [hc] at e1; cases e1
      have := h.fits _ _ h7
      omega
  have hnew : Row (w1.setCell ⟨ly.b, k * 3 + 1, none⟩ v) 3 v d (P'.map natV) := hr.kept fun c hc => set_other _ _ _ _ _ (hdb c hc)
  have hst : Step Tag.theirs τ τ' w (w1.setCell ⟨ly.b, k * 3 + 1, none⟩ v) := by
    refine ⟨hg.os, hg.tape, hg.output, by rw [set_size]; exact hg.size, hτ, fun c hc ht => ?_⟩
    have n1 : c ≠ ly.b := fun e => by subst e; have := ht _ h7; cases this
    have n2 : some c ≠ ly.pb k := fun e => by have := ht _ (htg c e.symm); cases this
    exact (set_other _ _ _ _ _ n1).trans (hg.block c hc n2)
  have hf : Fits τ' (w1.setCell ⟨ly.b, k * 3 + 1, none⟩ v) := fun c t ht => by
    replace ht : (if d = some c then some (Tag.rpg k) else τ c) = some t := ht
    split at ht
    · next e => exact hnew.lt e
    · exact Nat.lt_of_lt_of_le (h.fits c t ht) hst.size
  refine ⟨τ', ⟨ly.v, ly.b, ly.lv, ly.lb, upd ly.pv k v, upd ly.pb k d⟩, ⟨(hold h.tr (by simp) (by simp)).1.trans h.hd, (hold h.tr (by simp) (by simp)).2, Or.inr ⟨cap, cur.setIfInBounds (k * 3 + 1) v, ?_, ?_, ?_, h4, by simpa using h5, ?_, (hτ _ (h.fits _ _ h7)).trans h7⟩, fun id L1 P1 hr1 => ?_, hf⟩, hst⟩
  · show _ = Value.slice _ (D.rows.set k _).length cap
    rw [List.length_set]; exact h1
  · exact set_same _ _ _ _ _ _ (hb1.trans h2)
  · show (D.rows.set k _).length ≤ cap
    rw [List.length_set]; exact h3
  · show List.take ((D.rows.set k _).length * 3) _ = rowCells ly.lv (upd ly.pv k v) 0 (D.rows.set k (some (L, P')))
    have hsn := rowCells_setP ly.lv ly.pv v (L, P') 0 D.rows k (L, P) hq
    rw [Nat.zero_add] at hsn
    rw [List.length_set, ← hsn, ← h6]
    simp only [Array.toList_setIfInBounds, List.take_set]
  · replace hr1 : (D.rows.set k (some (L, P')))[id]? = some (some (L1, P1)) := hr1
    by_cases hik : k = id
    · subst hik
      rw [List.getElem?_set_self hkl] at hr1
      cases hr1
      show Row _ 3 (ly.lv k) (ly.lb k) _ ∧ (∀ c, ly.lb k = some c → _) ∧ Row _ 3 (upd ly.pv k v k) (upd ly.pb k d k) _ ∧ ∀ c, upd ly.pb k d k = some c → _
      rw [upd_same, upd_same]
      obtain ⟨a1, a2⟩ := hrow r1 r2 (by simp) (by simp)
      exact ⟨a1, a2, hnew, fun c hc => if_pos hc⟩
    · rw [List.getElem?_set_ne hik] at hr1
      obtain ⟨b1, b2, b3, b4⟩ := h.row id L1 P1 hr1
      obtain ⟨a1, a2⟩ := hrow b1 b2 (by simp) (by simp)
      obtain ⟨a3, a4⟩ := hrow b3 b4 (by simp [Ne.symm hik]) (by simp)
      show Row _ 3 (ly.lv id) (ly.lb id) _ ∧ (∀ c, ly.lb id = some c → _) ∧ Row _ 3 (upd ly.pv k v id) (upd ly.pb k d id) _ ∧ ∀ c, upd ly.pb k d id = some c → _
      rw [upd_other _ _ (Ne.symm hik), upd_other _ _ (Ne.symm hik)]
      exact ⟨a1, a2, a3, a4⟩
end Go.Proofs.Ytcfhchdkohjbfaa.Kv
