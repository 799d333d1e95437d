import Derived.Test.YtmolkbmdfkeniaaDoorFz
import Derived.Laws.CopyOwn
import Derived.Laws.AppendOwnNone
import Derived.Laws.MakeOwn
import Derived.Laws.OwnMore
import Derived.Deep.MidRow
import Derived.StillTail
import Derived.StillTailTactics
import Derived.Deep.Quiet
import Derived.OrdersHeld
import Derived.OrdersIn
import Derived.RangeFuncNested
import Derived.Scope
-- from Ga
namespace Go.Proofs.YtmolkbmdfkeniaaDoor.Tn
open Go.Proofs.YtmolkbmdfkeniaaDoor.Fx
/-- what is wrong with a vector, with a matrix -/
def chkV (l : List Int) : Int := if l.length < 1 ∨ 512 < l.length then 13 else if ∀ x ∈ l, isN x then 0 else 10
/-- a number that is none -/
def over (v : Int) : Int := if isN v then 0 else 17
theorem take_snoc (l : List Int) (k : Nat) (h : k < l.length) : l.take (k + 1) = l.take k ++ [l.getD k 0] := by
  have e : l.getD k 0 = l[k] := by simp [h]
  rw [e, List.take_succ_eq_append_getElem h]
theorem in_of {p : Int → Prop} {l : List Int} (h : ∀ x ∈ l, p x) (i : Nat) (hi : i < l.length) : p (l.getD i 0) := by
  rw [List.getD_eq_getElem?_getD, List.getElem?_eq_getElem hi]
  exact h _ (List.getElem_mem _)
theorem not_in {p : Int → Prop} [DecidablePred p] {l : List Int} (h : ¬ ∀ x ∈ l, p x) : ∃ j, j < l.length ∧ ¬ p (l.getD j 0) ∧ ∀ i, i < j → p (l.getD i 0) := by
  induction l with
  | nil => exact absurd (fun x hx => by cases hx) h
  | cons a l ih =>
    by_cases ha : p a
    · obtain ⟨j, h1, h2, h3⟩ := ih (fun hl => h fun x hx => by
        rcases List.mem_cons.1 hx with rfl | hx
        · exact ha
        · exact hl x hx)
      refine ⟨j + 1, by simpa using h1, by simpa using h2, fun i hi => ?_⟩
      rcases i with _ | i
      · simpa using ha
      · simpa using h3 i (by omega)
    · exact ⟨0, by simp, by simpa using ha, fun i hi => by omega⟩
/-! #### shares -/
def mostL (l : List Int) : Int := l.foldl max (l.getD 0 0)
theorem fold_max : ∀ (l : List Int) (a : Int), a ≤ l.foldl max a ∧ (∀ x ∈ l, x ≤ l.foldl max a) ∧ (l.foldl max a = a ∨ l.foldl max a ∈ l)
  | [], a => ⟨Int.le_refl _, (fun x hx => by cases hx), Or.inl rfl⟩
  | b :: l, a => by
    obtain ⟨h1, h2, h3⟩ := fold_max l (max a b)
    rw [List.foldl_cons]
    refine ⟨by omega, fun x hx => ?_, ?_⟩
    · rcases List.mem_cons.1 hx with rfl | hx
      · omega
      · exact h2 x hx
    · rcases h3 with h3 | h3
      · rw [h3]
        by_cases h : a ≤ b
        · right; rw [Int.max_eq_right h]; exact List.mem_cons_self ..
        · left; exact Int.max_eq_left (by omega)
      · right; exact List.mem_cons_of_mem _ h3
theorem most_le (l : List Int) : ∀ x ∈ l, x ≤ mostL l := (fold_max l _).2.1
theorem most_mem {l : List Int} (h : 0 < l.length) : mostL l ∈ l := by
  rcases (fold_max l (l.getD 0 0)).2.2 with h1 | h1
  · rw [mostL, h1, List.getD_eq_getElem?_getD, List.getElem?_eq_getElem h]
    exact List.getElem_mem _
  · exact h1
def exs (l : List Int) : List Int := l.map fun x => ex (x - mostL l)
def smx (l : List Int) : List Int := (exs l).map fun e => e * 65536 / (exs l).sum
theorem ex_zero : ex 0 = 65536 := by decide
theorem exs_in {l : List Int} : ∀ e ∈ exs l, 0 ≤ e ∧ e ≤ 65536 := fun e he => by
  obtain ⟨x, _, rfl⟩ := List.mem_map.1 he
  exact ex_le _
theorem sum_in {A : Int} : ∀ (l : List Int), (∀ e ∈ l, 0 ≤ e ∧ e ≤ A) → 0 ≤ l.sum ∧ l.sum ≤ l.length * A
  | [], _ => by simp
  | x :: l, h => by
    have h1 := h x (List.mem_cons_self ..)
    have h2 := sum_in l (fun e he => h e (List.mem_cons_of_mem _ he))
    rw [List.sum_cons, List.length_cons, Int.natCast_add, Int.add_mul]
    omega
theorem le_sum : ∀ (l : List Int), (∀ e ∈ l, 0 ≤ e) → ∀ x ∈ l, x ≤ l.sum
  | [], _, x, hx => by cases hx
  | y :: l, h, x, hx => by
    have h1 := h y (List.mem_cons_self ..)
    have h2 : 0 ≤ l.sum := by
      have : ∀ (l : List Int), (∀ e ∈ l, 0 ≤ e) → 0 ≤ l.sum := fun l h => by
        induction l with
        | nil => simp
        | cons a l ih =>
          have h1 := h a (List.mem_cons_self ..)
          have h2 := ih (fun e he => h e (List.mem_cons_of_mem _ he))
          rw [List.sum_cons]
          omega
      exact this l fun e he => h e (List.mem_cons_of_mem _ he)
    rw [List.sum_cons]
    rcases List.mem_cons.1 hx with rfl | hx
    · omega
    · have := le_sum l (fun e he => h e (List.mem_cons_of_mem _ he)) x hx
      omega
theorem exs_sum {l : List Int} (h0 : 0 < l.length) (h : l.length ≤ 512) : 65536 ≤ (exs l).sum ∧ (exs l).sum ≤ 33554432 := by
  have h1 := sum_in (A := 65536) (exs l) exs_in
  have h2 : (65536 : Int) ∈ exs l := List.mem_map.2 ⟨mostL l, most_mem h0, by rw [Int.sub_self]; exact ex_zero⟩
  have h3 := le_sum (exs l) (fun e he => (exs_in e he).1) _ h2
  have h4 : ((exs l).length : Int) ≤ 512 := by unfold exs; rw [List.length_map]; omega
  have h5 : ((exs l).length : Int) * 65536 ≤ 512 * 65536 := Int.mul_le_mul_of_nonneg_right h4 (by omega)
  omega
theorem smx_length (l : List Int) : (smx l).length = l.length := by simp [smx, exs]
theorem smx_get {l : List Int} (i : Nat) (hi : i < l.length) : (smx l).getD i 0 = ex (l.getD i 0 - mostL l) * 65536 / (exs l).sum := by
  simp [smx, exs, hi]
end Go.Proofs.YtmolkbmdfkeniaaDoor.Tn
-- from Gb
namespace Go.Proofs.YtmolkbmdfkeniaaDoor.Tn
open Go.Proofs.YtmolkbmdfkeniaaDoor.Fx
end Go.Proofs.YtmolkbmdfkeniaaDoor.Tn
-- from Gt
namespace Go.Proofs.YtmolkbmdfkeniaaDoor.Tn
open Go.Proofs.YtmolkbmdfkeniaaDoor.Fx
/-! ### the greatest ones, in order (mathematics) -/
/-- of the first k that are not in out, the first one of the greatest; -1: there is none -/
def pk (l : List Int) (out : List Nat) : Nat → Int
  | 0 => -1
  | k + 1 => if k ∉ out ∧ (pk l out k < 0 ∨ l.getD (pk l out k).toNat 0 < l.getD k 0) then (k : Int) else pk l out k
/-- p comes ahead of q -/
def ahead (l : List Int) (p q : Nat) : Prop := l.getD q 0 < l.getD p 0 ∨ (l.getD p 0 = l.getD q 0 ∧ p < q)
theorem pk_spec (l : List Int) (out : List Nat) : ∀ k, (pk l out k = -1 ∧ ∀ i, i < k → i ∈ out) ∨ ∃ p : Nat, pk l out k = p ∧ p < k ∧ p ∉ out ∧ ∀ i, i < k → i ∉ out → i = p ∨ ahead l p i
  | 0 => Or.inl ⟨rfl, fun i hi => by omega⟩
  | k + 1 => by
    rw [pk]
    rcases pk_spec l out k with ⟨h1, h2⟩ | ⟨p, h1, h2, h3, h4⟩
    · rw [h1]
      by_cases hk : k ∈ out
      · left
        rw [if_neg (fun h => h.1 hk)]
        refine ⟨rfl, fun i hi => ?_⟩
        by_cases e : i = k
        · rw [e]; exact hk
        · exact h2 i (by omega)
      · right
        rw [if_pos ⟨hk, Or.inl (by omega)⟩]
        refine ⟨k, rfl, by omega, hk, fun i hi hn => ?_⟩
        by_cases e : i = k
        · exact Or.inl e
        · exact absurd (h2 i (by omega)) hn
    · right
      rw [h1]
      by_cases hk : k ∉ out ∧ ((p : Int) < 0 ∨ l.getD (p : Int).toNat 0 < l.getD k 0)
      · rw [if_pos hk]
        have hlt : l.getD p 0 < l.getD k 0 := by
          rcases hk.2 with h | h
          · omega
          · simpa using h
        refine ⟨k, rfl, by omega, hk.1, fun i hi hn => ?_⟩
        by_cases e : i = k
        · exact Or.inl e
        · right
          rcases h4 i (by omega) hn with rfl | h
          · exact Or.inl hlt
          · rcases h with h | h
            · exact Or.inl (by omega)
            · exact Or.inl (by omega)
      · rw [if_neg hk]
        refine ⟨p, rfl, by omega, h3, fun i hi hn => ?_⟩
        by_cases e : i = k
        · right
          subst e
          have h5 : ¬ l.getD p 0 < l.getD i 0 := fun h => hk ⟨hn, Or.inr (by simpa using h)⟩
          by_cases h6 : l.getD i 0 < l.getD p 0
          · exact Or.inl h6
          · exact Or.inr ⟨by omega, h2⟩
        · exact h4 i (by omega) hn
theorem ahead_irrefl {l : List Int} {p : Nat} : ¬ ahead l p p := fun h => by rcases h with h | h <;> omega
theorem ahead_asymm {l : List Int} {p q : Nat} (h : ahead l p q) : ¬ ahead l q p := fun h2 => by
  rcases h with h | h <;> rcases h2 with h2 | h2 <;> omega
theorem ahead_trans {l : List Int} {p q r : Nat} (h : ahead l p q) (h2 : ahead l q r) : ahead l p r := by
  rcases h with h | ⟨h, h'⟩ <;> rcases h2 with h2 | ⟨h2, h2'⟩
  · exact Or.inl (by omega)
  · exact Or.inl (by omega)
  · exact Or.inl (by omega)
  · exact Or.inr ⟨by omega, by omega⟩
/-- the next one -/
def nextT (l : List Int) (out : List Nat) : Nat := (pk l out l.length).toNat
def topN (l : List Int) : Nat → List Nat
  | 0 => []
  | m + 1 => topN l m ++ [nextT l (topN l m)]
theorem topN_length (l : List Int) : ∀ m, (topN l m).length = m
  | 0 => rfl
  | m + 1 => by rw [topN, List.length_append, topN_length l m]; rfl
/-- the m greatest ones, in order -/
structure TopIs (l : List Int) (m : Nat) (out : List Nat) : Prop where
  len : out.length = m
  lt : ∀ p ∈ out, p < l.length
  nodup : out.Nodup
  rest : ∀ (i : Nat) p, out[i]? = some p → ∀ q, q < l.length → q ∉ out.take (i + 1) → ahead l p q
theorem all_in : ∀ (N : Nat) (out : List Nat), (∀ i, i < N → i ∈ out) → N ≤ out.length
  | 0, _, _ => Nat.zero_le _
  | N + 1, out, h => by
    have h1 := h N (by omega)
    have h2 := all_in N (out.erase N) (fun i hi => (List.mem_erase_of_ne (by omega)).2 (h i (by omega)))
    have h3 := List.length_erase_of_mem h1
    have h4 : 0 < out.length := List.length_pos_of_mem h1
    omega
/-- fewer than all: there is another one -/
theorem some_left {N : Nat} {out : List Nat} (h : out.length < N) : ∃ i, i < N ∧ i ∉ out := by
  refine Classical.byContradiction fun hc => ?_
  have h1 := all_in N out (fun i hi => Classical.byContradiction fun h2 => hc ⟨i, hi, h2⟩)
  omega
theorem nextT_spec {l : List Int} {out : List Nat} (_hd : out.Nodup) (_hl : ∀ p ∈ out, p < l.length) (h : out.length < l.length) : pk l out l.length = (nextT l out : Int) ∧ nextT l out < l.length ∧ nextT l out ∉ out ∧ ∀ i, i < l.length → i ∉ out → i = nextT l out ∨ ahead l (nextT l out) i := by
  obtain ⟨i, hi, hn⟩ := some_left h
  unfold nextT
  rcases pk_spec l out l.length with ⟨_, h2⟩ | ⟨p, h1, h2, h3, h4⟩
  · exact absurd (h2 i hi) hn
  · rw [h1]
    exact ⟨rfl, h2, h3, h4⟩
theorem TopIs.next {l : List Int} {m : Nat} {out : List Nat} (h : TopIs l m out) (hm : m < l.length) : TopIs l (m + 1) (out ++ [nextT l out]) := by
  obtain ⟨_, h2, h3, h4⟩ := nextT_spec h.nodup h.lt (by rw [h.len]; exact hm)
  refine ⟨by rw [List.length_append, h.len]; rfl, fun p hp => ?_, ?_, fun i p hp q hq hn => ?_⟩
  · rcases List.mem_append.1 hp with hp | hp
    · exact h.lt p hp
    · obtain rfl := List.mem_singleton.1 hp
      exact h2
  · rw [List.nodup_append]
    refine ⟨h.nodup, by simp, fun a ha b hb => ?_⟩
    obtain rfl := List.mem_singleton.1 hb
    exact fun e => h3 (e ▸ ha)
  · by_cases hi : i < out.length
    · rw [List.getElem?_append_left hi] at hp
      refine h.rest i p hp q hq fun hc => hn ?_
      rw [List.take_append_of_le_length (by omega)]
      exact hc
    · rw [List.getElem?_append_right (by omega)] at hp
      have hi2 : i - out.length = 0 := by
        rcases hh : i - out.length with _ | k
        · rfl
        · rw [hh] at hp; simp at hp
      rw [hi2] at hp
      obtain rfl : nextT l out = p := by simpa using hp
      rw [List.take_of_length_le (by simp; omega)] at hn
      rcases h4 q hq (fun hc => hn (List.mem_append_left _ hc)) with rfl | h5
      · exact absurd (List.mem_append_right _ (List.mem_singleton.2 rfl)) hn
      · exact h5
theorem topN_is (l : List Int) : ∀ m, m ≤ l.length → TopIs l m (topN l m)
  | 0, _ => ⟨rfl, (fun p hp => by cases hp), List.nodup_nil, fun i p hp => by simp [topN] at hp⟩
  | m + 1, h => (topN_is l m (by omega)).next (by omega)
theorem TopIs.first {l : List Int} {m : Nat} {out : List Nat} {x : Nat} (h : TopIs l (m + 1) (out ++ [x])) : TopIs l m out := by
  have hl : out.length = m := by have := h.len; simp at this; exact this
  refine ⟨hl, fun p hp => h.lt p (List.mem_append_left _ hp), (List.nodup_append.1 h.nodup).1, fun i p hp q hq hn => ?_⟩
  have hi : i < out.length := (List.getElem?_eq_some_iff.1 hp).1
  refine h.rest i p (by rw [List.getElem?_append_left hi]; exact hp) q hq ?_
  rw [List.take_append_of_le_length (by omega)]
  exact hn
theorem TopIs.unique {l : List Int} : ∀ {m : Nat} {out : List Nat}, m ≤ l.length → TopIs l m out → out = topN l m
  | 0, out, _, h => List.eq_nil_of_length_eq_zero h.len
  | m + 1, out, hm, h => by
    have hne : out ≠ [] := fun e => by have := h.len; rw [e] at this; simp at this
    obtain ⟨a, x, rfl⟩ : ∃ a x, out = a ++ [x] := ⟨out.dropLast, out.getLast hne, (List.dropLast_concat_getLast hne).symm⟩
    have ha := TopIs.unique (by omega) h.first
    have hal := h.first.len
    rw [topN, ← ha]
    congr 2
    obtain ⟨_, h2, h3, h4⟩ := nextT_spec h.first.nodup h.first.lt (by rw [hal]; omega)
    have hxl : x < l.length := h.lt x (List.mem_append_right _ (List.mem_singleton.2 rfl))
    have hxn : x ∉ a := fun hc => by
      have := (List.nodup_append.1 h.nodup).2.2 x hc x (List.mem_singleton.2 rfl)
      exact this rfl
    rcases h4 x hxl hxn with e | e
    · exact e
    · by_cases e2 : nextT l a = x
      · exact e2.symm
      · have h5 := h.rest a.length x (by simp) (nextT l a) h2 (by
          rw [List.take_of_length_le (by simp)]
          intro hc
          rcases List.mem_append.1 hc with hc | hc
          · exact h3 hc
          · exact e2 (List.mem_singleton.1 hc))
        exact absurd h5 (ahead_asymm e)
end Go.Proofs.YtmolkbmdfkeniaaDoor.Tn
-- from Gm
namespace Go.Proofs.YtmolkbmdfkeniaaDoor.Tn
open Go.ChangeShapes Go.WideShapes Go.ChangeAt Go.RowKit Go.Proofs.YtmolkbmdfkeniaaDoor.Fx Go.Proofs.YtmolkbmdfkeniaaDoor.Rf
/-- the values of xs lie at c from o on -/
def Lies (w : World) (c o : Nat) (xs : List Value) : Prop := ∀ i v, xs[i]? = some v → w.cell? ⟨c, o + i, none⟩ = some v
theorem add_plain (c o i : Nat) : (⟨c, o, none⟩ : Addr).add i = ⟨c, o + i, none⟩ := by unfold Addr.add; split <;> simp_all
theorem Lies.drop {w : World} {c o : Nat} {l : List Value} (h : Lies w c o l) (k : Nat) : Lies w c (o + k) (l.drop k) := by
  intro i v hv
  rw [List.getElem?_drop] at hv
  have := h _ v hv
  rwa [← Nat.add_assoc] at this
theorem Lies.take {w : World} {c o : Nat} {l : List Value} (h : Lies w c o l) (k : Nat) : Lies w c o (l.take k) := by
  intro i v hv
  rw [List.getElem?_take] at hv
  split at hv
  · exact h i v hv
  · cases hv
theorem Lies.lt {w : World} {c o : Nat} {l : List Value} (h : Lies w c o l) (h0 : 0 < l.length) : c < w.heap.size :=
  block_lt_of_cell (h 0 _ (List.getElem?_eq_getElem h0))
theorem Lies.src {w : World} {c o : Nat} {l : List Value} (h : Lies w c o l) : ∀ j v, l[j]? = some v → w.cell? ((⟨c, o, none⟩ : Addr).add j) = some v := by
  intro j v hv
  rw [add_plain]
  exact h j v hv

/-- a slice that reads as the values xs (nil: none) -/
structure Sl (w : World) (sp : Option Addr) (cap : Nat) (xs : List Value) : Prop where
  le : xs.length ≤ cap
  max : cap ≤ maxLen
  nul : sp = none → cap = 0
  lies : 0 < xs.length → ∃ c o, sp = some ⟨c, o, none⟩ ∧ Lies w c o xs
section
variable {w w' : World} {sp : Option Addr} {cap : Nat} {xs : List Value}
theorem Sl.nil (w : World) : Sl w none 0 [] := ⟨Nat.le_refl _, by unfold maxLen; omega, fun _ => rfl, fun h => absurd h (by simp)⟩
theorem Sl.kept (h : Sl w sp cap xs) (hk : ∀ a v, w.cell? a = some v → w'.cell? a = some v) : Sl w' sp cap xs :=
  ⟨h.le, h.max, h.nul, fun h0 => by
    obtain ⟨c, o, e, hl⟩ := h.lies h0
    exact ⟨c, o, e, fun i v hv => hk _ _ (hl i v hv)⟩⟩
theorem Sl.below (h : Sl w sp cap xs) {B : Nat} (hB : w.heap.size ≤ B) (hb : Below B w w') : Sl w' sp cap xs :=
  h.kept fun _ _ hc => (hb.cell (Nat.lt_of_lt_of_le (block_lt_of_cell hc) hB)).trans hc
theorem Sl.drewN (h : Sl w sp cap xs) (n : Nat) : Sl (w.drewN n) sp cap xs := h.kept fun _ _ hc => hc
theorem Sl.drew (h : Sl w sp cap xs) : Sl w.drew sp cap xs := h.kept fun _ _ hc => hc
theorem Sl.len (h : Sl w sp cap xs) : xs.length ≤ 9223372036854775807 := by have h1 := h.le; have h2 := h.max; unfold maxLen at h2; omega
end
/-- a slice that reads as numbers -/
def Nums (w : World) (sp : Option Addr) (cap : Nat) (l : List Int) : Prop := Sl w sp cap (l.map (Value.int .i64))
theorem Nums.at_ {w : World} {sp : Option Addr} {cap : Nat} {l : List Int} (h : Nums w sp cap l) (k : Nat) (hk : k < l.length) : ∃ c o, sp = some ⟨c, o, none⟩ ∧ w.cell? ⟨c, o + k, none⟩ = some (.int .i64 (l.getD k 0)) := by
  obtain ⟨c, o, rfl, hl⟩ := h.lies (by simp; omega)
  exact ⟨c, o, rfl, hl k _ (by simp [hk])⟩
theorem below_drewN {B : Nat} {a w : World} (h : Below B a w) (n : Nat) : Below B a (w.drewN n) := ⟨h.os, h.tape, h.output, h.size, h.block⟩
theorem Below.ofGrown {B : Nat} {w w' : World} {row : Option Nat} (hg : w.grownBy w' row) (hB : B ≤ w.heap.size) (hr : ∀ k, row = some k → B ≤ k) : Below B w w' :=
  ⟨hg.os, hg.tape, hg.output, hg.size, fun k hk => hg.block k (by omega) (fun e => by have := hr _ e.symm; omega)⟩
theorem info3 : (Tryd.prog.info? 3).map (fun i => (i.zero, i.size, i.bytes)) = some (some (.int .i64 0), 1, 8) := by kernel_rfl
theorem size3 : (Tryd.prog.info? 3).map (·.size) = some 1 := by kernel_rfl
theorem Sl.all1 {w : World} {base e n : Nat} {v : Value} {xs : List Value} (h : w.ownsRow base e 1 v n xs) : ∃ sp cap, v = .slice sp n cap ∧ xs.length = n ∧ Sl w sp cap xs ∧ (∀ c o, sp = some ⟨c, o, none⟩ → base ≤ c) := by
  have hl : xs.length = n := by have := h.1; simpa using this
  rcases h.2 with ⟨rfl, rfl⟩ | ⟨g, cap, cur, rfl, hbg, hg, hnc, hcm, _, htake⟩
  · obtain rfl : xs = [] := List.eq_nil_of_length_eq_zero hl
    exact ⟨none, 0, rfl, rfl, Sl.nil w, fun _ _ h => by cases h⟩
  · refine ⟨_, cap, rfl, hl, ⟨by omega, hcm, (fun h => by cases h), fun _ => ⟨g, 0, rfl, fun i v hv => ?_⟩⟩, fun c o h => by cases h; exact hbg⟩
    have := h.cells (g := g) rfl i v hv
    rwa [add_plain] at this
section
variable {w : World} {ops : Array Oper} {rest : List Oper} {o : Oper} {a : Act} {Q : Exit → Act → World → Prop}
/-- append of what lies in a slice to a row of the call's own -/
theorem wpList_append_sl (t e : TypeId) (by_ : Nat) (z : Value) (hu : Tryd.prog.underlying t = some (.slice e)) (hinf : (Tryd.prog.info? e).map (fun i => (i.zero, i.size, i.bytes)) = some (some z, 1, by_)) (hzc : z.cells.size = 1) (hby : by_ ≤ 100)
    (hgd : o.guard = none) (s x : Operand)
    (ho : o.op = .call { callee := .builtin .append, args := #[s, x], argTypes := #[t, t] }) (base : Nat) (v : Value) (n m : Nat) (xs ys : List Value) (hs : a.eval s = v) (hown : w.ownsRow base e 1 v n xs)
    (sp : Option Addr) (cap : Nat) (hx : a.eval x = .slice sp m cap) (hm : ys.length = m) (hb : Sl w sp cap ys) (h1 : ∀ v ∈ ys, v.oneCell' = true) (hn : n + m ≤ 1000000) (hbase : base ≤ w.heap.size)
    (h : ∀ v' w', w'.ownsRow base e 1 v' (n + m) (xs ++ ys) → w.grownBy w' v.ownBlock → wpList Tryd.prog ops Q rest (a.put o.dst v') w') : wpList Tryd.prog ops Q (o :: rest) a w := by
  subst hm
  obtain ⟨i0, hi, hz0, hz1, hz2⟩ := info_parts hinf
  rcases sp with _ | ad
  · obtain rfl := hb.nul rfl
    have h0 : ys = [] := List.eq_nil_of_length_eq_zero (by have := hb.le; omega)
    subst h0
    refine wpList_append_own_none hgd s x t ho base e i0 1 hu hi v n _ hs hown hx ?_
    exact h v w (by simpa using hown) ⟨rfl, rfl, rfl, Nat.le_refl _, fun _ _ _ => rfl⟩
  · have hcells : ∀ j u, ys[j]? = some u → w.cell? (ad.add j) = some u := by
      intro j u hu
      have hj : 0 < ys.length := by
        by_cases h0 : 0 < ys.length
        · exact h0
        · have : ys = [] := List.eq_nil_of_length_eq_zero (by omega)
          subst this
          simp at hu
      obtain ⟨c, o', e, hl⟩ := hb.lies hj
      cases e
      exact hl.src j u hu
    obtain ⟨v', w', hrun, hown', hg, _⟩ := run_append_own (P := Tryd.prog) w base t o.type e i0 z 1 by_ hu hi hz0 hz1 hz2 hzc (by decide) v n _ hown ad ys.length cap ys (by simp) hcells h1
      (by unfold maxLen; omega) (Nat.le_trans (Nat.mul_le_mul hn hby) (by decide)) hbase
    refine wpList_plain hgd fun K hK => ?_
    unfold Oper.wp
    simp [execOp, ho, resolve, invoke, builtin, hs, hx, hrun, Result.andThen]
    exact hK _ _ (h v' w' hown' hg)
end
theorem owns_below {w w' : World} {base e n : Nat} {v : Value} {xs : List Value} (h : w.ownsRow base e 1 v n xs) (hb : Below w.heap.size w w') : w'.ownsRow base e 1 v n xs :=
  h.kept (row := none) ⟨hb.os, hb.tape, hb.output, hb.size, fun k hk _ => hb.block k hk⟩ (by cases v.ownBlock <;> simp)

section
variable {w : World} {ops : Array Oper} {rest : List Oper} {o : Oper} {a : Act} {Q : Exit → Act → World → Prop}
/-- make([]T, n) -/
theorem wpList_makeN (t e : TypeId) (by_ : Nat) (z : Value) (hu : Tryd.prog.underlying t = some (.slice e)) (hinf : (Tryd.prog.info? e).map (fun i => (i.zero, i.size, i.bytes)) = some (some z, 1, by_)) (hby : by_ ≤ 100)
    (hgd : o.guard = none) (s x : Operand) (ho : o.op = .makeSlice t s x) (c : Nat) (hs : a.eval s = .int .i64 (c : Int)) (hx : a.eval x = .int .i64 (c : Int)) (hc : c ≤ 1000000)
    (h : wpList Tryd.prog ops Q rest (a.put o.dst (.slice (some ⟨w.heap.size, 0, none⟩) c c)) (w.alloc (.cells (madeCells z.cells c) e))) : wpList Tryd.prog ops Q (o :: rest) a w := by
  obtain ⟨i0, hi, hz0, hz1, hz2⟩ := info_parts hinf
  have hb : (i0.bytes : Int) * (c : Int) ≤ 281474976710656 := by
    have h1 : i0.bytes * c ≤ 100 * 1000000 := Nat.mul_le_mul (by omega) hc
    have h2 : ((i0.bytes * c : Nat) : Int) ≤ 100000000 := by omega
    rw [Int.natCast_mul] at h2
    omega
  have hrun := run_makeSlice (P := Tryd.prog) w t e i0 z hu hi hz0 .i64 .i64 (c : Int) (c : Int) (by omega) (by omega) (by rw [hz1]; simp; omega) hb (by omega)
  rw [hz1] at hrun
  simp only [Int.toNat_natCast, Nat.mul_one] at hrun
  refine wpList_plain hgd fun K hK => ?_
  unfold Oper.wp
  simp [execOp, ho, hs, hx, hrun, Result.andThen]
  exact hK _ _ h
end
theorem Sl.new (w : World) (l : List Value) (cs : Array Value) (t : TypeId) (fr : Nat × Nat) (hc : cs = l.toArray) (hl : l.length ≤ 1000000) : Sl (w.alloc (.cells cs t fr)) (some ⟨w.heap.size, 0, none⟩) l.length l := by
  subst hc
  refine ⟨by simp, by unfold maxLen; omega, (fun h => by cases h), fun _ => ⟨_, _, rfl, fun i v hv => ?_⟩⟩
  rw [cell_of_row _ _ _ _ _ _ (heap_alloc_new _ _), ← hv]
  simp
theorem one_ints (l : List Int) : ∀ v ∈ l.map (Value.int .i64), v.oneCell' = true := by
  intro v hv
  obtain ⟨x, _, rfl⟩ := List.mem_map.1 hv
  rfl
theorem Nums.below {w w' : World} {sp : Option Addr} {cap : Nat} {l : List Int} (h : Nums w sp cap l) (hb : Below w.heap.size w w') : Nums w' sp cap l := Sl.below h (Nat.le_refl _) hb
theorem Nums.len {w : World} {sp : Option Addr} {cap : Nat} {l : List Int} (h : Nums w sp cap l) : l.length ≤ 9223372036854775807 := by have := Sl.len h; simpa using this
/-- what the call owns is a slice of numbers -/
theorem own_nums {w : World} {base n : Nat} {v : Value} {l : List Int} (h : w.ownsRow base 3 1 v n (l.map (Value.int .i64))) : ∃ sp cap, v = .slice sp n cap ∧ l.length = n ∧ Nums w sp cap l := by
  obtain ⟨sp, cap, e, hl, hs, _⟩ := Sl.all1 h
  exact ⟨sp, cap, e, by simpa using hl, hs⟩
end Go.Proofs.YtmolkbmdfkeniaaDoor.Tn
-- from Gc
namespace Go.Proofs.YtmolkbmdfkeniaaDoor.Tn
open Go.ChangeShapes Go.WideShapes Go.ChangeAt Go.RowKit Go.Proofs.YtmolkbmdfkeniaaDoor.Fx Go.Proofs.YtmolkbmdfkeniaaDoor.Rf
set_option maxRecDepth 100000 in
set_option maxHeartbeats 4000000 in
theorem rcheck_any (w : World) (sp : Option Addr) (cap N : Nat) (l : List Int) (hN : l.length = N) (hl : Nums w sp cap l) :
    Calls Tryd.prog 34 #[.slice sp N cap] w fun e w' => e = .returned (.int .i64 (chkV l)) ∧ w = w' := by
  have hNm : N ≤ 9223372036854775807 := by rw [← hN]; exact hl.len
  have HL := Lib.hid hl
  have HN := Lib.hid hN
  unfold chkV
  rw [hN]
  by_cases hs : N < 1 ∨ 512 < N
  · rw [if_pos hs]
    by_cases h1 : N < 1
    · have d1 : decide ((N : Int) < 1) = true := by simp; omega
      clear hl hN hs h1
      go_enter Tryd.func34, Tryd.ntmps34
      go_wp2
      go_ret
      exact ⟨rfl, rfl⟩
    · have d1 : decide ((N : Int) < 1) = false := by simp; omega
      have d2 : decide ((512 : Int) < (N : Int)) = true := by simp; omega
      clear hl hN hs
      go_enter Tryd.func34, Tryd.ntmps34
      go_wp2
      go_ret
      exact ⟨rfl, rfl⟩
  · rw [if_neg hs]
    have d1 : decide ((N : Int) < 1) = false := by simp; omega
    have d2 : decide ((512 : Int) < (N : Int)) = false := by simp; omega
    by_cases ha : ∀ x ∈ l, isN x
    · rw [if_pos ha]
      have HA := Lib.hid (fun i hi => in_of (p := isN) ha i hi)
      clear hl hN hs ha
      go_enter Tryd.func34, Tryd.ntmps34
      go_wp2
      go_loop [3] (fun i => ∃ k : Nat, k ≤ N ∧ i = .int .i64 k) (fun i => N - (intOf i).toNat)
      case atStart => exact ⟨0, by omega, rfl⟩
      case round =>
        obtain ⟨k, hk, rfl⟩ := hrel
        by_cases hlt : k < N
        · have hdt : decide (k < N) = true := by simp; omega
          obtain ⟨c, o, rfl, hc⟩ := HL.out.at_ k (by rw [HN.out]; exact hlt)
          have HI := Lib.hid (isB_yes (HA.out k (by rw [HN.out]; exact hlt)))
          obtain ⟨x, hx⟩ : ∃ x, l.getD k 0 = x := ⟨_, rfl⟩
          rw [hx] at hc HI
          clear hx
          go_wp2_with fail
          refine (is_any _ x).mono ?_
          rintro e w' ⟨rfl, rfl⟩
          rw [HI.out]
          go_wp2
          go_round
          case rel => exact ⟨k + 1, by omega, by go_num⟩
          case measure => simp [intOf]; omega
        · have hdf : decide (k < N) = false := by simp; omega
          go_wp2
          go_ret
          exact ⟨rfl, rfl⟩
    · rw [if_neg ha]
      obtain ⟨j, hj, hb, hg⟩ := not_in (p := isN) ha
      rw [hN] at hj
      have HB := Lib.hid hb
      have HG := Lib.hid hg
      clear hl hN hs ha hb hg
      go_enter Tryd.func34, Tryd.ntmps34
      go_wp2
      go_loop [3] (fun i => ∃ k : Nat, k ≤ j ∧ i = .int .i64 k) (fun i => N - (intOf i).toNat)
      case atStart => exact ⟨0, by omega, rfl⟩
      case round =>
        obtain ⟨k, hk, rfl⟩ := hrel
        have hlt : k < N := by omega
        have hdt : decide (k < N) = true := by simp; omega
        obtain ⟨c, o, rfl, hc⟩ := HL.out.at_ k (by rw [HN.out]; exact hlt)
        by_cases hkj : k = j
        · subst hkj
          have HI := Lib.hid (isB_no HB.out)
          obtain ⟨x, hx⟩ : ∃ x, l.getD k 0 = x := ⟨_, rfl⟩
          rw [hx] at hc HI
          clear hx
          go_wp2_with fail
          refine (is_any _ x).mono ?_
          rintro e w' ⟨rfl, rfl⟩
          rw [HI.out]
          go_wp2
          go_ret
          exact ⟨rfl, rfl⟩
        · have hk2 : k < j := by omega
          have HI := Lib.hid (isB_yes (HG.out k hk2))
          obtain ⟨x, hx⟩ : ∃ x, l.getD k 0 = x := ⟨_, rfl⟩
          rw [hx] at hc HI
          clear hx hkj
          go_wp2_with fail
          refine (is_any _ x).mono ?_
          rintro e w' ⟨rfl, rfl⟩
          rw [HI.out]
          go_wp2
          go_round
          case rel => exact ⟨k + 1, by omega, by go_num⟩
          case measure => simp [intOf]; omega
end Go.Proofs.YtmolkbmdfkeniaaDoor.Tn
-- from Gd
namespace Go.Proofs.YtmolkbmdfkeniaaDoor.Tn
open Go.ChangeShapes Go.WideShapes Go.ChangeAt Go.RowKit Go.Proofs.YtmolkbmdfkeniaaDoor.Fx Go.Proofs.YtmolkbmdfkeniaaDoor.Rf
theorem of_get {p : Int → Prop} {l : List Int} (h : ∀ i, i < l.length → p (l.getD i 0)) : ∀ x ∈ l, p x := fun x hx => by
  obtain ⟨i, hi, rfl⟩ := List.mem_iff_getElem.1 hx
  have := h i hi
  rwa [List.getD_eq_getElem?_getD, List.getElem?_eq_getElem hi] at this
end Go.Proofs.YtmolkbmdfkeniaaDoor.Tn
-- from Ge
namespace Go.Proofs.YtmolkbmdfkeniaaDoor.Tn
open Go.ChangeShapes Go.WideShapes Go.ChangeAt Go.RowKit Go.Proofs.YtmolkbmdfkeniaaDoor.Fx Go.Proofs.YtmolkbmdfkeniaaDoor.Rf
section
variable {W : World} {ops : Array Oper} {rest : List Oper} {o : Oper} {a : Act} {Q : Exit → Act → World → Prop}
/-- append of one number to a row of the call's own -/
theorem wpList_push (hgd : o.guard = none) (s x : Operand) (ho : o.op = .call { callee := .builtin .append, args := #[s, x], argTypes := #[39, 39] }) (base : Nat) (v : Value) (n : Nat) (l : List Int) (y : Int) (hs : a.eval s = v) (hown : W.ownsRow base 3 1 v n (l.map (Value.int .i64)))
    (hx : a.eval x = .slice (some ⟨W.heap.size, 0, none⟩) 1 1) (hn : n ≤ 999999) (hbase : base ≤ W.heap.size)
    (h : ∀ v' w', w'.ownsRow base 3 1 v' (n + 1) ((l ++ [y]).map (Value.int .i64)) → Below base W w' → wpList Tryd.prog ops Q rest (a.put o.dst v') w') : wpList Tryd.prog ops Q (o :: rest) a (W.alloc (.cells #[.int .i64 y] 3)) := by
  have hb : Below W.heap.size W (W.alloc (.cells #[.int .i64 y] 3)) := (Below.refl _ _).alloc (Nat.le_refl _) _
  have hsl : Sl (W.alloc (.cells #[.int .i64 y] 3)) (some ⟨W.heap.size, 0, none⟩) 1 [.int .i64 y] := Sl.new W [.int .i64 y] #[.int .i64 y] 3 (0, 0) rfl (by simp)
  have ho' := owns_below hown hb
  refine wpList_append_sl 39 3 8 (.int .i64 0) Tryd.underlying39 info3 rfl (by decide) hgd s x ho base v n 1 (l.map (Value.int .i64)) [.int .i64 y] hs ho' (some ⟨W.heap.size, 0, none⟩) 1 hx rfl hsl (fun v hv => by simp at hv; subst hv; rfl) (by omega) (by simp; omega) ?_
  intro v' w' h1 h2
  refine h v' w' (by rw [List.map_append]; exact h1) ((hb.mono hbase).trans (Below.ofGrown h2 (by simp; omega) (fun k hk => (ho'.lt k hk).1)))
end
/-- a slice of numbers that is answered -/
def AnsN (w : World) (l : List Int) (e : Ending) (w' : World) : Prop := ∃ sp cap, e = .returned (.slice sp l.length cap) ∧ Nums w' sp cap l ∧ Below w.heap.size w w'
theorem fold_take (l : List Int) (a : Int) (k : Nat) (h : k < l.length) : (l.take (k + 1)).foldl max a = max ((l.take k).foldl max a) (l.getD k 0) := by
  rw [take_snoc l k h, List.foldl_append]
  rfl
theorem fold_in {l : List Int} (h : ∀ x ∈ l, isN x) {a : Int} (ha : isN a) (k : Nat) : isN ((l.take k).foldl max a) := by
  rcases (fold_max (l.take k) a).2.2 with h1 | h1
  · rw [h1]; exact ha
  · exact h _ (List.mem_of_mem_take h1)
theorem sum_take (l : List Int) (k : Nat) (h : k < l.length) : (l.take (k + 1)).sum = (l.take k).sum + l.getD k 0 := by
  rw [take_snoc l k h, List.sum_append]
  simp
theorem exs_get {l : List Int} (i : Nat) (hi : i < l.length) : (exs l).getD i 0 = ex (l.getD i 0 - mostL l) := by simp [exs, hi]
theorem exs_length (l : List Int) : (exs l).length = l.length := by simp [exs]
theorem sum_take_in {l : List Int} (h : ∀ e ∈ l, 0 ≤ e ∧ e ≤ 65536) (hl : l.length ≤ 512) (k : Nat) : 0 ≤ (l.take k).sum ∧ (l.take k).sum ≤ 33554432 := by
  have h1 := sum_in (A := 65536) (l.take k) (fun e he => h e (List.mem_of_mem_take he))
  have h2 : ((l.take k).length : Int) ≤ 512 := by simp; omega
  have h3 : ((l.take k).length : Int) * 65536 ≤ 512 * 65536 := Int.mul_le_mul_of_nonneg_right h2 (by omega)
  omega
/-- while the exponents are collected -/
structure SmA (w : World) (l : List Int) (k : Nat) (v : Value) (wr : World) : Prop where
  below : Below w.heap.size w wr
  own : wr.ownsRow w.heap.size 3 1 v k (((exs l).take k).map (Value.int .i64))
/-- while they become shares -/
def smk (l : List Int) (k : Nat) : List Int := (smx l).take k ++ (exs l).drop k
theorem smk_length (l : List Int) (k : Nat) (h : k ≤ l.length) : (smk l k).length = l.length := by simp [smk, smx_length, exs_length]; omega
theorem smk_get (l : List Int) (k : Nat) (h : k < l.length) : (smk l k).getD k 0 = ex (l.getD k 0 - mostL l) := by
  unfold smk
  rw [List.getD_eq_getElem?_getD, List.getElem?_append_right (by simp; omega)]
  have : k - ((smx l).take k).length = 0 := by simp [smx_length]; omega
  rw [this]
  have h2 := exs_get (l := l) k h
  rw [List.getD_eq_getElem?_getD] at h2
  simpa using h2
theorem smk_set (l : List Int) (k : Nat) (h : k < l.length) : (smk l k).set k ((smx l).getD k 0) = smk l (k + 1) := by
  unfold smk
  rw [take_snoc (smx l) k (by rw [smx_length]; exact h), List.set_append_right _ _ (by simp; omega)]
  have e : k - ((smx l).take k).length = 0 := by simp [smx_length]; omega
  rw [e, List.append_assoc]
  congr 1
  rw [List.drop_eq_getElem_cons (show k < (exs l).length by rw [exs_length]; exact h)]
  rfl
structure SmB (w : World) (l : List Int) (N k : Nat) (v : Value) (wr : World) : Prop where
  below : Below w.heap.size w wr
  own : wr.ownsRow w.heap.size 3 1 v N ((smk l k).map (Value.int .i64))
set_option maxRecDepth 100000 in
set_option maxHeartbeats 4000000 in
theorem rsoftmax_any (w : World) (sp : Option Addr) (cap N : Nat) (l : List Int) (hN : l.length = N) (hl : Nums w sp cap l) (h0 : 1 ≤ N) (h5 : N ≤ 512) (hi : ∀ x ∈ l, isN x) :
    Calls Tryd.prog 36 #[.slice sp N cap] w (AnsN w (smx l)) := by
  have HL := Lib.hid hl
  have HN := Lib.hid hN
  have HI := Lib.hid (fun i h => in_of (p := isN) hi i h)
  have HF := Lib.hid (fun k => fold_in hi (in_of hi 0 (by omega)) k)
  have HLe := Lib.hid (most_le l)
  clear hl hN hi
  obtain ⟨g, o, rfl, hc0⟩ := HL.out.at_ 0 (by rw [HN.out]; omega)
  obtain ⟨z, hz⟩ : ∃ z, l.getD 0 0 = z := ⟨_, rfl⟩
  rw [hz, Nat.add_zero] at hc0
  rw [hz] at HF
  have HZ := Lib.hid hz
  clear hz
  have hN0 : 0 < N := by omega
  go_enter Tryd.func36, Tryd.ntmps36
  go_wp2
  go_loop [3, 4] (fun m i => ∃ k : Nat, k ≤ N ∧ i = .int .i64 k ∧ m = .int .i64 ((l.take k).foldl max z)) (fun _ i => N - (intOf i).toNat)
  case atStart => exact ⟨0, by omega, rfl, rfl⟩
  case round =>
    obtain ⟨k, hk, rfl, rfl⟩ := hrel
    by_cases hlt : k < N
    · have hdt : decide (k < N) = true := by simp; omega
      obtain ⟨g', o', e, hc⟩ := HL.out.at_ k (by rw [HN.out]; exact hlt)
      cases e
      have HT := Lib.hid (fold_take l z k (by rw [HN.out]; exact hlt))
      obtain ⟨x, hx⟩ : ∃ x, l.getD k 0 = x := ⟨_, rfl⟩
      obtain ⟨m, hm⟩ : ∃ m, (l.take k).foldl max z = m := ⟨_, rfl⟩
      rw [hx] at hc HT
      rw [hm] at HT ⊢
      clear hx hm
      by_cases hxm : x ≤ m
      · have HT2 : Hid ((l.take (k + 1)).foldl max z = m) := Lib.hid (by rw [HT.out]; exact Int.max_eq_left hxm)
        go_wp2
        all_goals go_round
        all_goals first
          | (case rel => exact ⟨k + 1, by omega, by go_num, by rw [HT2.out]⟩)
          | (case measure => simp [intOf]; omega)
      · have HT2 : Hid ((l.take (k + 1)).foldl max z = x) := Lib.hid (by rw [HT.out]; exact Int.max_eq_right (by omega))
        go_wp2
        all_goals go_round
        all_goals first
          | (case rel => exact ⟨k + 1, by omega, by go_num, by rw [HT2.out]⟩)
          | (case measure => simp [intOf]; omega)
    · obtain rfl : k = N := by omega
      have hdf : decide (k < k) = false := by simp
      have HT : Hid ((l.take k).foldl max z = mostL l) := Lib.hid (by rw [List.take_of_length_le (by rw [HN.out]; omega), mostL, HZ.out])
      have hM := HF.out k
      rw [HT.out] at hM ⊢
      obtain ⟨m, hm⟩ : ∃ m, mostL l = m := ⟨_, rfl⟩
      rw [hm] at hM HLe ⊢
      have HMo := Lib.hid hm
      obtain ⟨hm1, hm2⟩ : -2147483648 ≤ m ∧ m ≤ 2147483647 := hM
      clear hm HT HF hlt hk
      go_wp2
      go_loopw [5, 6, 7] (fun v s i wr => ∃ j : Nat, j ≤ k ∧ i = .int .i64 j ∧ s = .int .i64 ((exs l).take j).sum ∧ SmA w l j v wr) (fun _ _ i _ => k - (intOf i).toNat)
      case atStart => exact ⟨0, by omega, rfl, rfl, Below.refl _ _, World.ownsRow_nil _ _ _ _⟩
      case round =>
        obtain ⟨j, hj, rfl, rfl, hS⟩ := hrel
        obtain ⟨sv, cv, rfl, _, _, _⟩ := Sl.all1 hS.own
        have HS := Lib.hid hS
        have hss := sum_take_in (l := exs l) exs_in (by rw [exs_length, HN.out]; omega) j
        clear hS
        by_cases hlt : j < k
        · have hdt : decide (j < k) = true := by simp; omega
          obtain ⟨g', o', e, hc⟩ := HL.out.at_ j (by rw [HN.out]; exact hlt)
          cases e
          have hcr : wr.cell? ⟨g, o + j, none⟩ = _ := (HS.out.below.cell (p := ⟨g, o + j, none⟩) (block_lt_of_cell hc)).trans hc
          have HT := Lib.hid (sum_take (exs l) j (by rw [exs_length, HN.out]; exact hlt))
          have HQ := Lib.hid (take_snoc (exs l) j (by rw [exs_length, HN.out]; exact hlt))
          have hex := exs_get (l := l) j (by rw [HN.out]; exact hlt)
          have hxi := HI.out j (by rw [HN.out]; exact hlt)
          have hxm := HLe.out (l.getD j 0) (by rw [List.getD_eq_getElem?_getD, List.getElem?_eq_getElem (by rw [HN.out]; exact hlt)]; exact List.getElem_mem _)
          rw [hex] at HT HQ
          rw [HMo.out] at HT HQ
          obtain ⟨x, hx⟩ : ∃ x, l.getD j 0 = x := ⟨_, rfl⟩
          rw [hx] at hcr hxi hxm HT HQ
          obtain ⟨x1, x2⟩ : -2147483648 ≤ x ∧ x ≤ 2147483647 := ⟨hxi.1, hxi.2⟩
          obtain ⟨S, hS⟩ : ∃ S, ((exs l).take j).sum = S := ⟨_, rfl⟩
          rw [hS] at hss HT ⊢
          obtain ⟨s1, s2⟩ := hss
          have hE := ex_le (x - m)
          have hwsz := HS.out.below.size
          clear hx hS hex hxi hc
          go_wp2_with fail
          refine (rexp_any wr (x - m) (by omega) (by omega)).mono ?_
          rintro e w1 ⟨rfl, hb1⟩
          obtain ⟨E, hEE⟩ : ∃ E, ex (x - m) = E := ⟨_, rfl⟩
          rw [hEE] at hE HT HQ ⊢
          obtain ⟨E1, E2⟩ := hE
          have HO := Lib.hid (owns_below HS.out.own hb1)
          have HB := Lib.hid (HS.out.below.trans (hb1.mono hwsz))
          have hsz := HB.out.size
          clear hEE hb1 hcr
          go_wp2_with (refine wpList_push rfl (.tmp 38) (.tmp 40) rfl w.heap.size (.slice sv j cv) j ((exs l).take j) E rfl HO.out rfl (by omega) hsz ?_; intro v2 w2 hown2 hb2; have HO2 := Lib.hid hown2; have HB2 := Lib.hid (HB.out.trans hb2); clear hown2 hb2)
          go_roundw
          case rel => exact ⟨j + 1, by omega, by go_num, by rw [HT.out], HB2.out, by rw [HQ.out]; exact HO2.out⟩
          case measure => simp [intOf]; omega
        · obtain rfl : j = k := by omega
          have hdf : decide (j < j) = false := by simp
          have hT : (exs l).take j = exs l := List.take_of_length_le (by rw [exs_length, HN.out]; omega)
          rw [hT]
          have ho := HS.out.own
          rw [hT] at ho
          have hss := exs_sum (l := l) (by rw [HN.out]; omega) (by rw [HN.out]; omega)
          have HBl := Lib.hid HS.out.below
          rcases ho.2 with ⟨e, h0'⟩ | ⟨gb, cb, cur, e, hbg, _⟩
          · exfalso; omega
          simp only [Value.slice.injEq, true_and] at e
          obtain ⟨rfl, rfl⟩ := e
          have HO := Lib.hid ho
          have HG : Hid (∀ i, i < j → (smx l).getD i 0 = ex (l.getD i 0 - m) * 65536 / (exs l).sum) := Lib.hid (fun i hi => by rw [smx_get i (by rw [HN.out]; exact hi), HMo.out])
          have HK : Hid (∀ i, i < j → (smk l i).getD i 0 = ex (l.getD i 0 - m)) := Lib.hid (fun i hi => by rw [smk_get l i (by rw [HN.out]; exact hi), HMo.out])
          obtain ⟨S, hS⟩ : ∃ S, (exs l).sum = S := ⟨_, rfl⟩
          rw [hS] at hss HG ⊢
          obtain ⟨s1, s2⟩ := hss
          clear hT ho hS HS HI HLe
          go_wp2
          go_loopw [9] (fun i wr => ∃ q : Nat, q ≤ j ∧ i = .int .i64 q ∧ SmB w l j q (.slice (some ⟨gb, 0, none⟩) j cv) wr) (fun i _ => j - (intOf i).toNat)
          case atStart => exact ⟨0, by omega, rfl, HBl.out, HO.out⟩
          case round =>
            obtain ⟨q, hq, rfl, hS⟩ := hrel
            have HS := Lib.hid hS
            clear hS
            by_cases hlt : q < j
            · have hdt : decide (q < j) = true := by simp; omega
              have hck := HS.out.own.cells (g := gb) rfl q (.int .i64 ((smk l q).getD q 0)) (by
                have := smk_length l q (by rw [HN.out]; omega)
                simp [this, HN.out, hlt])
              rw [add_plain, Nat.zero_add, HK.out q hlt] at hck
              have hfk := HS.out.own.frozenAt q
              have hgq := HG.out q hlt
              have hE := ex_le (l.getD q 0 - m)
              have HST := Lib.hid (smk_set l q (by rw [HN.out]; exact hlt))
              have HW := Lib.hid (HS.out.own.stored q (.int .i64 ((smx l).getD q 0)))
              rw [hgq] at HST HW
              obtain ⟨E, hEE⟩ : ∃ E, ex (l.getD q 0 - m) = E := ⟨_, rfl⟩
              rw [hEE] at hE hck HST HW
              obtain ⟨E1, E2⟩ := hE
              clear hgq hEE
              go_wp2
              clear hck hfk
              go_roundw
              case rel =>
                refine ⟨q + 1, by omega, by go_num, HS.out.below.trans (Below.ofGrown HW.out.2 HS.out.below.size (fun k hk => (HS.out.own.lt k hk).1)), ?_⟩
                rw [← HST.out, List.map_set]
                exact HW.out.1
              case measure => simp [intOf]; omega
            · obtain rfl : q = j := by omega
              have hdf : decide (q < q) = false := by simp
              have hfin : smk l q = smx l := by unfold smk; rw [List.take_of_length_le (by rw [smx_length, HN.out]; omega), List.drop_eq_nil_of_le (by rw [exs_length, HN.out]; omega), List.append_nil]
              have hown := HS.out.own
              rw [hfin] at hown
              have HO2 := Lib.hid hown
              have HN2 := Lib.hid (show (smx l).length = q by rw [smx_length]; exact HN.out)
              clear hfin hown
              go_wp2
              go_ret
              obtain ⟨sp2, cap2, e2, _, hnum⟩ := own_nums HO2.out
              exact ⟨sp2, cap2, by rw [HN2.out, ← e2]; rfl, hnum, HS.out.below⟩
end Go.Proofs.YtmolkbmdfkeniaaDoor.Tn
-- from Gf
namespace Go.Proofs.YtmolkbmdfkeniaaDoor.Tn
open Go.ChangeShapes Go.WideShapes Go.ChangeAt Go.RowKit Go.Proofs.YtmolkbmdfkeniaaDoor.Fx Go.Proofs.YtmolkbmdfkeniaaDoor.Rf
end Go.Proofs.YtmolkbmdfkeniaaDoor.Tn
-- from Gq
namespace Go.Proofs.YtmolkbmdfkeniaaDoor.Tn
open Go.ChangeShapes Go.WideShapes Go.ChangeAt Go.RowKit Go.Proofs.YtmolkbmdfkeniaaDoor.Fx Go.Proofs.YtmolkbmdfkeniaaDoor.Rf
section
variable {P : Program} {ops : Array Oper} {C : World → Prop} {Q : Act → Prop} {a : Act} {o : Oper} {rest : List Oper}
theorem exec_binOp {W : World} (op : BinOp) (t rt : TypeId) (x y : Operand) (ho : o.op = .binOp op t x y rt) (vx vy v : Value) (hx : a.eval x = vx) (hy : a.eval y = vy) (hgd : (eqGuard op t x y vx vy).run P W = .ok () W) (h : (binOp op t vx vy).run P W = .ok v W) : (execOp a.eval o).run P W = .ok (.value v) W := by
  unfold execOp
  simp [ho, hx, hy, hgd, h]
end
theorem exec_call {P : Program} {a : Act} {o : Oper} {W : World} (f : FuncId) (xs : Array Operand) (ats : Array TypeId) (vs : Array Value) (ho : o.op = .call { callee := .value (.func f), args := xs, argTypes := ats }) (hx : xs.map a.eval = vs)
    (hf : (callFunc f vs).run P W = .ok (.enter f vs) W) : (execOp a.eval o).run P W = .ok (.enter f vs) W := by
  unfold execOp
  simp only [ho, resolve, hx, BigFrame.eval_func, Deferred.ofValue, Sem.run_bind, Sem.run_pure, Result.andThen_ok, invoke, Array.empty_append, Array.append_empty]
  exact hf
theorem exec_call1 {P : Program} {a : Act} {o : Oper} {W : World} (f : FuncId) (x : Operand) (ats : Array TypeId) (v : Value) (ho : o.op = .call { callee := .value (.func f), args := #[x], argTypes := ats }) (hx : a.eval x = v)
    (hf : (callFunc f #[v]).run P W = .ok (.enter f #[v]) W) : (execOp a.eval o).run P W = .ok (.enter f #[v]) W :=
  exec_call f #[x] ats #[v] ho (by simp [hx]) hf
theorem cf {P : Program} {f : FuncId} {fn : Func} (hf : P.funcs[f]? = some fn) (hn : (fn.name == "runtime.NumGoroutine") = false) (hb : fn.body.isNone = false) (vs : Array Value) (W : World) : (callFunc f vs).run P W = .ok (.enter f vs) W := by
  simp only [callFunc, Sem.run_bind, run_program, Result.andThen_ok, hf, hn, hb, Bool.false_eq_true, if_false, Sem.run_pure]
theorem exec_call2 {P : Program} {a : Act} {o : Oper} {W : World} (f : FuncId) (x y : Operand) (ats : Array TypeId) (u v : Value) (ho : o.op = .call { callee := .value (.func f), args := #[x, y], argTypes := ats }) (hx : a.eval x = u) (hy : a.eval y = v)
    (hf : (callFunc f #[u, v]).run P W = .ok (.enter f #[u, v]) W) : (execOp a.eval o).run P W = .ok (.enter f #[u, v]) W :=
  exec_call f #[x, y] ats #[u, v] ho (by simp [hx, hy]) hf


/-- whoever stands between m and n is waited for by one behind it, up to n -/
def sinkFrom (ops : Array Oper) (m n : Nat) : Bool := (List.range n).all fun i => decide (i < m) || (List.range (n + 1)).any fun j => decide (i < j) && Region.waitsFor .any ops j i
theorem late_waits {ops : Array Oper} {m n : Nat} {listed : Array Bool} (hs : sinkFrom ops m n = true) (hc : Region.chainB .any ops n = true) (hn : n < ops.size) (inv : HeadInv .any ops n listed) :
    ∀ (d i : Nat), n - i = d → m ≤ i → i < n → listed.getD i true = false → ∀ t, n ≤ t → t ∉ Region.ready .any ops listed := by
  intro d
  induction d using Nat.strongRecOn with
  | _ d ih =>
    intro i hd hm hi hun t ht hr
    obtain ⟨_, ot, hot, hall⟩ := mem_ready.1 hr
    have htlt : t < ops.size := (Array.getElem?_eq_some_iff.1 hot).1
    by_cases htn : t = n
    · subst htn
      have h1 := List.all_eq_true.1 hs i (List.mem_range.2 hi)
      simp only [Bool.or_eq_true, decide_eq_true_eq] at h1
      rcases h1 with h1 | h1
      · omega
      obtain ⟨j, hj, hj2⟩ := List.any_eq_true.1 h1
      simp only [Bool.and_eq_true, decide_eq_true_eq] at hj2
      obtain ⟨oj, hoj, e, he, hb, hon⟩ := Region.waitsFor_spec hj2.2
      have hjle : j ≤ t := by have := List.mem_range.1 hj; omega
      by_cases hjt : j = t
      · subst hjt
        have : oj = ot := Option.some.inj (hoj.symm.trans hot)
        subst this
        have h2 := hall e he hb
        rw [hon, getD_both hun] at h2
        cases h2
      · cases hl : listed.getD j false with
        | true =>
          have h2 := inv.closed j oj hoj hl e he hb
          rw [hon, getD_both hun] at h2
          cases h2
        | false =>
          have hjs : j < listed.size := by rw [inv.size]; omega
          exact ih (t - j) (by omega) j rfl (by omega) (by omega) (getD_in hjs hl) t (Nat.le_refl _) hr
    · have h1 := List.all_eq_true.1 hc t (List.mem_range.2 htlt)
      simp only [Bool.or_eq_true, decide_eq_true_eq] at h1
      rcases h1 with h1 | h1
      · omega
      · obtain ⟨o', ho', e, he, hb, hon⟩ := Region.waitsFor_spec h1
        have : o' = ot := Option.some.inj (ho'.symm.trans hot)
        subst this
        have h2 := hall e he hb
        rw [hon, getD_both (inv.tail (t - 1) (by omega) (by omega))] at h2
        cases h2
section
variable {P : Program} {ops : Array Oper} {C : World → Prop}
/-- what has come up, with all that it waited for -/
structure Shutd (ops : Array Oper) (listed : Array Bool) : Prop where
  size : listed.size = ops.size
  closed : ∀ j oj, ops[j]? = some oj → listed.getD j false = true → ∀ e ∈ oj.after, Region.binds .any e = true → listed.getD e.on false = true
theorem Shutd.set {listed : Array Bool} {i : Nat} (inv : Shutd ops listed) (hi : i ∈ Region.ready .any ops listed) : Shutd ops (listed.setIfInBounds i true) := by
  obtain ⟨_, oi, hoi, hall⟩ := mem_ready.1 hi
  refine ⟨by simp [inv.size], fun j oj hj hl e he hb => ?_⟩
  by_cases hij : i = j
  · subst hij
    have : oj = oi := Option.some.inj (hj.symm.trans hoi)
    subst this
    exact getD_set_true (hall e he hb)
  · rw [getD_set_ne false hij] at hl
    exact getD_set_true (inv.closed j oj hj hl e he hb)
end
section
variable {P : Program} {F : Fence} {n : Nat} {b : Frame} {a : Act} {k : List Item} {cs : List Frame} {w : World} {Q : Exit → Act → World → Prop}
end
/-! ### a region whose operations come up in whatever order, each told by what it yields -/
/-- what an operation yields -/
def Gives (P : Program) (o : Oper) (a : Act) (w : World) (G : Value → World → Prop) : Prop :=
  match (execOp a.eval o).run P w with
  | .ok (.value v) w' => G v w'
  | .ok .skip w' => G undef w'
  | .ok (.enter f args) w' => Calls P f args w' fun e w'' => ∃ v, e = .returned v ∧ G v w''
  | _ => False
theorem gives_val {P : Program} {o : Oper} {a : Act} {w : World} {G : Value → World → Prop} (v : Value) (w' : World) (h : (execOp a.eval o).run P w = .ok (.value v) w') (hG : G v w') : Gives P o a w G := by unfold Gives; rw [h]; exact hG
theorem gives_call {P : Program} {o : Oper} {a : Act} {w : World} {G : Value → World → Prop} (f : FuncId) (args : Array Value) (h : (execOp a.eval o).run P w = .ok (.enter f args) w) (hG : Calls P f args w fun e w'' => ∃ v, e = .returned v ∧ G v w'') : Gives P o a w G := by unfold Gives; rw [h]; exact hG
theorem wp_of_gives {P : Program} {o : Oper} {a : Act} {w : World} {G : Value → World → Prop} {K : Act → World → Prop} {Q : Exit → Act → World → Prop} (h : Gives P o a w G) (hk : ∀ v w', G v w' → K (a.put o.dst v) w') : o.wp P a w K Q := by
  unfold Gives at h
  unfold Oper.wp
  generalize (execOp a.eval o).run P w = r at *
  cases r with
  | ok x w' =>
    cases x <;> simp only [Oper.upon] at h ⊢
    case value v => exact hk _ _ h
    case skip => exact hk _ _ h
    case enter f args => exact h.mono fun e w'' ⟨v, e1, hg⟩ => by subst e1; exact hk _ _ hg
  | halt x w' => exact h.elim
section
variable {P : Program} {ops : Array Oper} {C : World → Prop} {Le : World → World → Prop} {Φ : (Nat → Value) → Nat → World → Value → Prop}
/-- each one's word, told over the frame in which all those ahead of it have yielded -/
def specAll (P : Program) (ops : Array Oper) (C : World → Prop) (Le : World → World → Prop) (Φ : (Nat → Value) → Nat → World → Value → Prop) (u : Nat → Value) : List Oper → Nat → Act → Prop
  | [], _, _ => True
  | o :: l, k, b => (∀ w, C w → (∀ e ∈ o.after.toList, Region.binds .any e = true → Φ u e.on w (u e.on)) → Region.wanted o (yielded ops b.tmps) = true ∧ Gives P o b w (fun v w' => C w' ∧ Le w w' ∧ Φ u k w' v)) ∧ specAll P ops C Le Φ u l (k + 1) (b.put o.dst (u k))
theorem spec_cons {u : Nat → Value} {o : Oper} {l : List Oper} {k : Nat} {b : Act} (h1 : ∀ w, C w → (∀ e ∈ o.after.toList, Region.binds .any e = true → Φ u e.on w (u e.on)) → Region.wanted o (yielded ops b.tmps) = true ∧ Gives P o b w (fun v w' => C w' ∧ Le w w' ∧ Φ u k w' v)) (h2 : specAll P ops C Le Φ u l (k + 1) (b.put o.dst (u k))) :
    specAll P ops C Le Φ u (o :: l) k b := ⟨h1, h2⟩
theorem spec_nil {u : Nat → Value} {k : Nat} {b : Act} : specAll P ops C Le Φ u [] k b := trivial
def putAll (u : Nat → Value) : List Oper → Nat → Act → Act
  | [], _, a => a
  | o :: l, k, a => putAll u l (k + 1) (a.put o.dst (u k))
theorem specAll_at {u : Nat → Value} : ∀ (l : List Oper) (k : Nat) (b : Act) (i : Nat) (o : Oper), specAll P ops C Le Φ u l k b → l[i]? = some o →
    ∀ w, C w → (∀ e ∈ o.after.toList, Region.binds .any e = true → Φ u e.on w (u e.on)) → Region.wanted o (yielded ops (putAll u (l.take i) k b).tmps) = true ∧ Gives P o (putAll u (l.take i) k b) w (fun v w' => C w' ∧ Le w w' ∧ Φ u (k + i) w' v)
  | [], _, _, _, _, _, h => by simp at h
  | o :: l, k, b, 0, o', hs, h => by
    obtain rfl : o = o' := by simpa using h
    exact hs.1
  | o :: l, k, b, i + 1, o', hs, h => by
    have := specAll_at l (k + 1) _ i o' hs.2 (by simpa using h)
    rw [show k + (i + 1) = k + 1 + i by omega]
    exact this
theorem put_getD (a : Act) (dst : Option Tmp) (v : Value) (t : Tmp) : (a.put dst v).tmps.getD t undef = if dst = some t ∧ t < a.tmps.size then v else a.tmps.getD t undef := by
  cases dst with
  | none => simp [Act.put]
  | some d =>
    simp only [Act.put, Option.some.injEq]
    by_cases hd : d = t
    · subst hd
      by_cases hl : d < a.tmps.size
      · rw [if_pos ⟨rfl, hl⟩]; simp [Array.getD, hl]
      · rw [if_neg (fun h => hl h.2)]; simp [Array.getD, hl]
    · rw [if_neg (fun h => hd h.1)]
      simp [Array.getElem?_setIfInBounds_ne hd]
theorem put_size (a : Act) (dst : Option Tmp) (v : Value) : (a.put dst v).tmps.size = a.tmps.size := by cases dst <;> simp [Act.put]
theorem put_defers' (a : Act) (dst : Option Tmp) (v : Value) : (a.put dst v).defers = a.defers := by cases dst <;> simp [Act.put]
theorem putAll_size (u : Nat → Value) : ∀ (l : List Oper) (k : Nat) (a : Act), (putAll u l k a).tmps.size = a.tmps.size ∧ (putAll u l k a).defers = a.defers
  | [], _, _ => ⟨rfl, rfl⟩
  | o :: l, k, a => by
    have := putAll_size u l (k + 1) (a.put o.dst (u k))
    exact ⟨this.1.trans (put_size _ _ _), this.2.trans (put_defers' _ _ _)⟩
/-- a slot that nobody of l writes -/
theorem putAll_other (u : Nat → Value) (t : Tmp) : ∀ (l : List Oper) (k : Nat) (a : Act), (∀ o ∈ l, o.dst ≠ some t) → (putAll u l k a).tmps.getD t undef = a.tmps.getD t undef
  | [], _, _, _ => rfl
  | o :: l, k, a, h => by
    rw [putAll, putAll_other u t l (k + 1) _ (fun o ho => h o (by simp [ho])), put_getD, if_neg (fun hh => h o (by simp) hh.1)]
/-- a slot that the j-th one writes, and none behind it -/
theorem putAll_same (u : Nat → Value) (t : Tmp) : ∀ (l : List Oper) (k : Nat) (a : Act) (j : Nat) (o : Oper), l[j]? = some o → o.dst = some t → t < a.tmps.size → (∀ i oi, l[i]? = some oi → j < i → oi.dst ≠ some t) → (putAll u l k a).tmps.getD t undef = u (k + j)
  | [], _, _, _, _, h, _, _, _ => by simp at h
  | o :: l, k, a, 0, o', h, hd, ht, hn => by
    obtain rfl : o = o' := by simpa using h
    rw [putAll, putAll_other u t l (k + 1) _ (fun x hx => by
      obtain ⟨i, hi⟩ := List.getElem?_of_mem hx
      exact hn (i + 1) x (by simpa using hi) (by omega)), put_getD, if_pos ⟨hd, ht⟩]
    rfl
  | o :: l, k, a, j + 1, o', h, hd, ht, hn => by
    rw [putAll, putAll_same u t l (k + 1) _ j o' (by simpa using h) hd (by rw [put_size]; exact ht) (fun i oi hi hj => hn (i + 1) oi (by simpa using hi) (by omega)), show k + 1 + j = k + (j + 1) by omega]

/-- the region's own shape: no slot is written twice among the first n; whoever looks at a slot waits for who writes it, who stands ahead of it -/
def specB (ops : Array Oper) (n : Nat) : Bool :=
  Region.noSelect ops && decide (n < ops.size) && sinkFrom ops 0 n && Region.chainB .any ops n &&
  ((List.range n).all fun i => (List.range n).all fun j => decide (i = j) || match ops[i]?, ops[j]? with | some oi, some oj => !(oi.dst.isSome && oi.dst == oj.dst) | _, _ => false) &&
  ((List.range n).all fun i => match ops[i]? with
    | some oi => (oi.looksAt ops).all fun t => (List.range ops.size).all fun j => match ops[j]? with | some oj => oj.dst != some t || (decide (j < i) && Region.waitsFor .any ops i j) | none => false
    | none => false) &&
  ((List.range n).all fun i => match ops[i]? with | some oi => oi.after.all fun e => !Region.binds .any e || decide (e.on < i) | none => false) &&
  Region.seqB .any ops (ops.size - n) n ((List.range n).foldl (fun l i => l.setIfInBounds i true) (Array.replicate ops.size false))
/-- how it stands when those listed have come up -/
structure SpecInv (P : Program) (ops : Array Oper) (C : World → Prop) (Φ : (Nat → Value) → Nat → World → Value → Prop) (a0 : Act) (u : Nat → Value) (listed : Array Bool) (a : Act) (w : World) : Prop where
  world : C w
  size : a.tmps.size = a0.tmps.size
  defers : a.defers = a0.defers
  val : ∀ j oj d, ops[j]? = some oj → listed.getD j false = true → oj.dst = some d → d < a0.tmps.size → a.tmps.getD d undef = u j
  word : ∀ j, listed.getD j false = true → Φ u j w (u j)
  rest : ∀ t, (∀ j oj, ops[j]? = some oj → listed.getD j false = true → oj.dst ≠ some t) → a.tmps.getD t undef = a0.tmps.getD t undef
/-- how many of the first k have not come up -/
def cntU (listed : Array Bool) : Nat → Nat
  | 0 => 0
  | k + 1 => cntU listed k + if listed.getD k true = true then 0 else 1
theorem cntU_far {listed : Array Bool} {i : Nat} : ∀ k, k ≤ i → cntU (listed.setIfInBounds i true) k = cntU listed k
  | 0, _ => rfl
  | k + 1, h => by rw [cntU, cntU, cntU_far k (by omega), getD_set_ne true (by omega)]
theorem cntU_set {listed : Array Bool} {i : Nat} (hun : listed.getD i true = false) : ∀ k, i < k → cntU listed k = cntU (listed.setIfInBounds i true) k + 1
  | 0, h => absurd h (by omega)
  | k + 1, h => by
    rw [cntU, cntU]
    by_cases hik : i = k
    · subst hik
      rw [cntU_far i (Nat.le_refl _), hun]
      have : (listed.setIfInBounds i true).getD i true = true := by
        rw [Array.getD_eq_getD_getElem?, Array.getElem?_setIfInBounds]
        simp
        split <;> rfl
      rw [this]
      simp
    · rw [cntU_set hun k (by omega), getD_set_ne true hik]
      omega
theorem cntU_zero {listed : Array Bool} : ∀ k, cntU listed k = 0 → ∀ j, j < k → listed.getD j true = true
  | 0, _, _, h => absurd h (by omega)
  | k + 1, h, j, hj => by
    rw [cntU] at h
    by_cases hk : listed.getD k true = true
    · by_cases hjk : j = k
      · subst hjk; exact hk
      · exact cntU_zero k (by omega) j (by omega)
    · rw [if_neg hk] at h; omega
theorem cntU_least {listed : Array Bool} : ∀ k, cntU listed k ≠ 0 → ∃ j, j < k ∧ listed.getD j true = false ∧ ∀ i, i < j → listed.getD i true = true
  | 0, h => absurd rfl h
  | k + 1, h => by
    by_cases hk : cntU listed k = 0
    · refine ⟨k, by omega, ?_, cntU_zero k hk⟩
      rw [cntU, hk] at h
      by_cases hh : listed.getD k true = true
      · rw [if_pos hh] at h; omega
      · simpa using hh
    · obtain ⟨j, h1, h2, h3⟩ := cntU_least k hk
      exact ⟨j, by omega, h2, h3⟩
theorem fold_get (N : Nat) : ∀ (n j : Nat), n ≤ N → (((List.range n).foldl (fun l i => l.setIfInBounds i true) (Array.replicate N false)).size = N ∧ ∀ d, j < N → ((List.range n).foldl (fun l i => l.setIfInBounds i true) (Array.replicate N false)).getD j d = decide (j < n))
  | 0, j, _ => ⟨by simp, fun d hj => by simp [hj]⟩
  | n + 1, j, h => by
    obtain ⟨h1, h2⟩ := fold_get N n j (by omega)
    rw [List.range_succ, List.foldl_append]
    refine ⟨by simp [h1], fun d hj => ?_⟩
    simp only [List.foldl_cons, List.foldl_nil]
    by_cases hjn : n = j
    · subst hjn
      rw [Array.getD_eq_getD_getElem?, Array.getElem?_setIfInBounds]
      simp [h1, hj]
    · rw [getD_set_ne d hjn, h2 d hj]
      congr 1
      apply propext
      omega
theorem get_of_getD {x y : Array Value} {t : Nat} (hs : x.size = y.size) (h : x.getD t undef = y.getD t undef) : (some t).bind (fun k => x[k]?) = (some t).bind (fun k => y[k]?) := by
  simp only [Option.bind_some]
  by_cases ht : t < x.size
  · have ht' : t < y.size := by omega
    simp only [Array.getD, ht, ht', dif_pos] at h
    rw [Array.getElem?_eq_getElem ht, Array.getElem?_eq_getElem ht']
    exact congrArg some h
  · rw [Array.getElem?_eq_none (by omega), Array.getElem?_eq_none (by omega)]
theorem getD_agree {listed : Array Bool} {N j : Nat} (hs : listed.size = N) (hj : j < N) (d e : Bool) : listed.getD j d = listed.getD j e := by simp [Array.getD, hs, hj]
theorem spec_any {Q : Exit → Act → World → Prop} {a0 : Act} {n : Nat} (hB : specB ops n = true) (hU : ∀ (u u' : Nat → Value) (j : Nat) w v, (∀ oj, ops[j]? = some oj → ∀ e ∈ oj.after, Region.binds .any e = true → u e.on = u' e.on) → Φ u j w v → Φ u' j w v) (hLe : ∀ u j w w' v, Le w w' → Φ u j w v → Φ u j w' v) (Ψ : Nat → Value → Prop) (hΨ : ∀ u j w v, Φ u j w v → Ψ j v) (h : ∀ u, (∀ j, Ψ j (u j)) → specAll P ops C Le Φ u (ops.toList.take n) 0 a0)
    (hend : ∀ u a w, (∀ j, Ψ j (u j)) → C w → (∀ j, j < n → Φ u j w (u j)) → a = putAll u (ops.toList.take n) 0 a0 → wpList P ops Q (ops.toList.drop n) a w) :
    ∀ (f : Nat) (listed : Array Bool) (a : Act) (w : World) (u : Nat → Value), (∀ j, Ψ j (u j)) → HeadInv .any ops n listed → cntU listed n = f → SpecInv P ops C Φ a0 u listed a w → wpAny P .any ops Q (f + (ops.size - n)) listed a w := by
  simp only [specB, Bool.and_eq_true, decide_eq_true_eq] at hB
  obtain ⟨⟨⟨⟨⟨⟨⟨hsel, hn⟩, hs⟩, hc⟩, hdist⟩, hlook⟩, hdep⟩, hseq⟩ := hB
  have hdep' : ∀ i oi, i < n → ops[i]? = some oi → ∀ e ∈ oi.after, Region.binds .any e = true → e.on < i := fun i oi hi hoi e he hb => by
    have h1 := List.all_eq_true.1 hdep i (List.mem_range.2 hi)
    simp only [hoi] at h1
    have h2 := Array.all_eq_true_iff_forall_mem.1 h1 e he
    rw [hb] at h2
    simpa using h2
  have hdist' : ∀ i j oi oj d, i < n → j < n → i ≠ j → ops[i]? = some oi → ops[j]? = some oj → oi.dst = some d → oj.dst ≠ some d := fun i j oi oj d hi hj hij hoi hoj hd hd2 => by
    have h1 := List.all_eq_true.1 (List.all_eq_true.1 hdist i (List.mem_range.2 hi)) j (List.mem_range.2 hj)
    simp [hij, hoi, hoj, hd, hd2] at h1
  have hlook' : ∀ i j oi oj t, i < n → ops[i]? = some oi → ops[j]? = some oj → t ∈ oi.looksAt ops → oj.dst = some t → j < i ∧ Region.waitsFor .any ops i j = true := fun i j oi oj t hi hoi hoj ht hd => by
    have h1 := List.all_eq_true.1 hlook i (List.mem_range.2 hi)
    simp only [hoi] at h1
    have h2 := List.all_eq_true.1 (List.all_eq_true.1 h1 t ht) j (List.mem_range.2 (Array.getElem?_eq_some_iff.1 hoj).1)
    simp only [hoj, hd] at h2
    simpa using h2
  intro f
  induction f with
  | zero =>
    intro listed a w u hu inv hcnt hi
    have hall := cntU_zero n hcnt
    have hlist : listed = (List.range n).foldl (fun l i => l.setIfInBounds i true) (Array.replicate ops.size false) := by
      apply Array.ext
      · rw [inv.size, (fold_get ops.size n 0 (by omega)).1]
      · intro j h1 h2
        rw [inv.size] at h1
        have e1 : listed[j] = listed.getD j true := by simp [Array.getD, inv.size, h1]
        have e2 := (fold_get ops.size n j (by omega)).2 true h1
        have e3 : ((List.range n).foldl (fun l i => l.setIfInBounds i true) (Array.replicate ops.size false))[j] = ((List.range n).foldl (fun l i => l.setIfInBounds i true) (Array.replicate ops.size false)).getD j true := by simp [Array.getD, h2]
        rw [e1, e3, e2]
        by_cases hj : j < n
        · rw [hall j hj]; simp [hj]
        · rw [inv.tail j (by omega) h1]; simp [hj]
    have htake : ∀ j oj, ops[j]? = some oj → j < n → (ops.toList.take n)[j]? = some oj := fun j oj hoj hj => by
      rw [List.getElem?_take, if_pos hj, Array.getElem?_toList]; exact hoj
    have hput : a = putAll u (ops.toList.take n) 0 a0 := by
      obtain ⟨p1, p2⟩ := putAll_size u (ops.toList.take n) 0 a0
      have ht : a.tmps = (putAll u (ops.toList.take n) 0 a0).tmps := by
        apply Array.ext
        · rw [hi.size, p1]
        · intro t h1 h2
          have e1 : a.tmps[t] = a.tmps.getD t undef := by simp [Array.getD, h1]
          have e2 : (putAll u (ops.toList.take n) 0 a0).tmps[t] = (putAll u (ops.toList.take n) 0 a0).tmps.getD t undef := by simp [Array.getD, h2]
          rw [e1, e2]
          rw [hi.size] at h1
          by_cases hw : ∃ j oj, j < n ∧ ops[j]? = some oj ∧ oj.dst = some t
          · obtain ⟨j, oj, hj, hoj, hd⟩ := hw
            rw [hi.val j oj t hoj (by rw [getD_agree inv.size (by omega) false true]; exact hall j hj) hd h1, putAll_same u t _ 0 a0 j oj (htake j oj hoj hj) hd h1 (fun i oi hi2 hji => by
              rw [List.getElem?_take] at hi2
              split at hi2
              · rename_i hin
                rw [Array.getElem?_toList] at hi2
                exact hdist' j i oj oi t hj hin (by omega) hoj hi2 hd
              · cases hi2), Nat.zero_add]
          · rw [hi.rest t (fun j oj hoj hl hd => by
              by_cases hj : j < n
              · exact hw ⟨j, oj, hj, hoj, hd⟩
              · have := inv.tail j (by omega) (Array.getElem?_eq_some_iff.1 hoj).1
                rw [getD_both this] at hl
                cases hl), putAll_other u t _ 0 a0 (fun o ho hd => by
              obtain ⟨j, hj⟩ := List.getElem?_of_mem ho
              rw [List.getElem?_take] at hj
              split at hj
              · rename_i hjn
                rw [Array.getElem?_toList] at hj
                exact hw ⟨j, o, hjn, hj, hd⟩
              · cases hj)]
      have hdd : a.defers = (putAll u (ops.toList.take n) 0 a0).defers := by rw [hi.defers, p2]
      cases a
      cases hp : putAll u (ops.toList.take n) 0 a0
      rw [hp] at ht hdd
      simp only at ht hdd
      rw [ht, hdd]
    have hdl : (ops.toList.drop n).length = ops.size - n := by simp
    have := wpAny_of_seq (md := .any) (Q' := Q) (ops.toList.drop n) n listed a w (fun j => by rw [List.getElem?_drop, Array.getElem?_toList]) (by rw [hdl, hlist]; exact hseq)
      (hend u a w hu hi.world (fun j hj => hi.word j (by rw [getD_agree inv.size (by omega) false true]; exact hall j hj)) hput)
    rw [hdl] at this
    rw [Nat.zero_add]
    exact this
  | succ f ih =>
    intro listed a w u hu inv hcnt hi
    obtain ⟨m, hm, hmun, hmall⟩ := cntU_least n (by rw [hcnt]; omega)
    have hready : m ∈ Region.ready .any ops listed := by
      rw [mem_ready]
      obtain ⟨om, hom⟩ : ∃ om, ops[m]? = some om := ⟨_, Array.getElem?_eq_getElem (by omega)⟩
      refine ⟨hmun, om, hom, fun e he hb => ?_⟩
      have h1 := hdep' m om hm hom e he hb
      rw [getD_agree inv.size (by omega) false true]
      exact hmall _ h1
    rw [show f + 1 + (ops.size - n) = (f + (ops.size - n)) + 1 by omega]
    refine ⟨fun h0 => absurd h0 (List.ne_nil_of_mem hready), fun i hir => ?_⟩
    have hin : i < n := Nat.lt_of_not_le fun hge => late_waits hs hc hn inv _ m rfl (Nat.zero_le _) hm hmun i hge hir
    obtain ⟨hun, oi, hoi, hall⟩ := mem_ready.1 hir
    have htk : (ops.toList.take n)[i]? = some oi := by rw [List.getElem?_take, if_pos hin, Array.getElem?_toList]; exact hoi
    obtain ⟨hwant, hgives⟩ := specAll_at (ops.toList.take n) 0 a0 i oi (h u hu) htk w hi.world (fun e he hb => hi.word _ (hall e (by simpa using he) hb))
    -- what it looks at reads the same in both frames
    have hagree : ∀ t ∈ oi.looksAt ops, a.tmps.getD t undef = (putAll u ((ops.toList.take n).take i) 0 a0).tmps.getD t undef := by
      intro t ht
      obtain ⟨p1, _⟩ := putAll_size u ((ops.toList.take n).take i) 0 a0
      by_cases hts : t < a0.tmps.size
      · by_cases hw : ∃ (j : Nat) (oj : Oper), ops[j]? = some oj ∧ oj.dst = some t
        · obtain ⟨j, oj, hoj, hd⟩ := hw
          obtain ⟨hji, hwt⟩ := hlook' i j oi oj t hin hoi hoj ht hd
          obtain ⟨o2, ho2, e, he, hb, hon⟩ := Region.waitsFor_spec hwt
          obtain rfl : o2 = oi := Option.some.inj (ho2.symm.trans hoi)
          have hl := hall e he hb
          rw [hon] at hl
          rw [hi.val j oj t hoj hl hd hts, putAll_same u t _ 0 a0 j oj (by rw [List.getElem?_take, if_pos hji, List.getElem?_take, if_pos (by omega), Array.getElem?_toList]; exact hoj) hd hts (fun k ok hk hjk => by
            rw [List.getElem?_take] at hk
            split at hk
            · rw [List.getElem?_take] at hk
              split at hk
              · rename_i hkn
                rw [Array.getElem?_toList] at hk
                exact hdist' j k oj ok t (by omega) hkn (by omega) hoj hk hd
              · cases hk
            · cases hk), Nat.zero_add]
        · rw [hi.rest t (fun j oj hoj _ hd => hw ⟨j, oj, hoj, hd⟩), putAll_other u t _ 0 a0 (fun o ho hd => by
            obtain ⟨j, hj⟩ := List.getElem?_of_mem (List.mem_of_mem_take (List.mem_of_mem_take ho))
            rw [Array.getElem?_toList] at hj
            exact hw ⟨j, o, hj, hd⟩)]
      · simp [Array.getD, hi.size, p1, hts]
    have heval : ∀ x ∈ oi.op.operands, a.eval x = (putAll u ((ops.toList.take n).take i) 0 a0).eval x := by
      intro x hx
      cases x with
      | tmp t => exact hagree t (List.mem_append_left _ (List.mem_filterMap.2 ⟨.tmp t, by simpa using hx, rfl⟩))
      | _ => rfl
    have hexec : execOp a.eval oi = execOp (putAll u ((ops.toList.take n).take i) 0 a0).eval oi := execOp_congr oi (fun cs b => Region.noSelect_spec hsel i oi cs b hoi) heval
    have hwanted : Region.wanted oi (yielded ops a.tmps) = true := by
      rw [← hwant]
      unfold Region.wanted
      cases hg : oi.guard with
      | none => rfl
      | some gw =>
        obtain ⟨g, want⟩ := gw
        have hy : yielded ops a.tmps g = yielded ops (putAll u ((ops.toList.take n).take i) 0 a0).tmps g := by
          unfold yielded
          cases ht : (ops[g]?).bind (·.dst) with
          | none => rfl
          | some t =>
            have h1 := hagree t (by simp [Oper.looksAt, hg, ht])
            have h2 : a.tmps.size = (putAll u ((ops.toList.take n).take i) 0 a0).tmps.size := hi.size.trans (putAll_size u _ 0 a0).1.symm
            rw [get_of_getD h2 h1]
        simp only [hy]
    have hg2 : Gives P oi a w (fun v w' => C w' ∧ Le w w' ∧ Φ u (0 + i) w' v) := by
      unfold Gives
      rw [hexec]
      exact hgives
    unfold wpOp
    simp only [hoi, hwanted, if_true]
    refine .inl (wp_of_gives hg2 fun v w' ⟨hC', hLe', hΦ⟩ => ?_)
    rw [Nat.zero_add] at hΦ
    refine ih (listed.setIfInBounds i true) (a.put oi.dst v) w' (fun j => if j = i then v else u j) (fun j => by
      by_cases hji : j = i
      · subst hji; simp only [if_true]; exact hΨ _ _ _ _ hΦ
      · simp only [if_neg hji]; exact hu j) (inv.set hir hin) (by rw [cntU_set hun n hin] at hcnt; omega) ⟨hC', (put_size _ _ _).trans hi.size, (put_defers' _ _ _).trans hi.defers, ?_, ?_, ?_⟩
    · intro j oj d hoj hl hd hds
      by_cases hji : i = j
      · subst hji
        obtain rfl : oi = oj := Option.some.inj (hoi.symm.trans hoj)
        rw [put_getD, if_pos ⟨hd, by rw [hi.size]; exact hds⟩, if_pos rfl]
      · rw [getD_set_ne false hji] at hl
        have hjn : j < n := Nat.lt_of_not_le fun hge => by
          have := inv.tail j hge (Array.getElem?_eq_some_iff.1 hoj).1
          rw [getD_both this] at hl
          cases hl
        rw [put_getD, if_neg (fun h => hdist' j i oj oi d hjn hin (fun e => hji e.symm) hoj hoi hd h.1), if_neg (fun e => hji e.symm)]
        exact hi.val j oj d hoj hl hd hds
    · intro j hl
      by_cases hji : i = j
      · subst hji
        simp only [if_true]
        refine hU u _ i w' v (fun oj hoj e he hb => ?_) hΦ
        obtain rfl : oi = oj := Option.some.inj (hoi.symm.trans hoj)
        have := hdep' i oi hin hoi e he hb
        rw [if_neg (by omega)]
      · rw [getD_set_ne false hji] at hl
        simp only [if_neg (fun e : j = i => hji e.symm)]
        refine hU u _ j w' (u j) (fun oj hoj e he hb => ?_) (hLe _ _ _ _ _ hLe' (hi.word j hl))
        have h1 := inv.closed j oj hoj hl e he hb
        rw [if_neg (fun ee => by rw [ee, getD_both hun] at h1; cases h1)]
    · intro t ht
      rw [put_getD, if_neg (fun h => ht i oi hoi (by
        rw [Array.getD_eq_getD_getElem?, Array.getElem?_setIfInBounds]
        have : i < listed.size := by rw [inv.size]; omega
        simp [this]) h.1)]
      exact hi.rest t (fun j oj hoj hl => ht j oj hoj (getD_set_true hl))
/-- A region that draws its order: its first n operations are told by what they yield, the others follow in one order. -/
theorem any_spec {Q : Exit → Act → World → Prop} {a0 : Act} {w : World} {l : List Oper} (n : Nat) (Φ : (Nat → Value) → Nat → World → Value → Prop) (hB : specB l.toArray n = true) (hC : C { w with drawn := w.drawn + 1 }) (hU : ∀ (u u' : Nat → Value) (j : Nat) w v, (∀ oj, l.toArray[j]? = some oj → ∀ e ∈ oj.after, Region.binds .any e = true → u e.on = u' e.on) → Φ u j w v → Φ u' j w v) (hLe : ∀ u j w w' v, Le w w' → Φ u j w v → Φ u j w' v) (Ψ : Nat → Value → Prop) (hΨ : ∀ u j w v, Φ u j w v → Ψ j v) (u0 : Nat → Value) (hu0 : ∀ j, Ψ j (u0 j))
    (h : ∀ u, (∀ j, Ψ j (u j)) → specAll P l.toArray C Le Φ u (l.take n) 0 a0) (hend : ∀ u w, (∀ j, Ψ j (u j)) → C w → (∀ j, j < n → Φ u j w (u j)) → wpList P l.toArray Q (l.drop n) (putAll u (l.take n) 0 a0) w) :
    wpAny P .any l.toArray Q l.toArray.size (Array.replicate l.toArray.size false) a0 { w with drawn := w.drawn + 1 } := by
  have hn : n < l.toArray.size := by
    simp only [specB, Bool.and_eq_true, decide_eq_true_eq] at hB
    exact hB.1.1.1.1.1.1.2
  have inv0 : HeadInv .any l.toArray n (Array.replicate l.toArray.size false) :=
    ⟨by simp, fun j oj _ hl => (by rw [getD_replicate_false] at hl; cases hl), fun t _ ht => getD_in (by simpa using ht) (getD_replicate_false _ _)⟩
  have hc : ∀ k, k ≤ l.toArray.size → cntU (Array.replicate l.toArray.size false) k = k := by
    intro k
    induction k with
    | zero => intro _; rfl
    | succ k ih =>
      intro hk
      have : (Array.replicate l.toArray.size false).getD k true = false := getD_in (by simp at hk ⊢; omega) (getD_replicate_false _ _)
      rw [cntU, ih (by omega), this]
      simp
  have K := spec_any (Q := Q) (a0 := a0) (n := n) hB hU hLe Ψ hΨ (by simpa using h) (fun u a w hu hC hΦ ha => by subst ha; simpa using hend u w hu hC hΦ) n _ a0 { w with drawn := w.drawn + 1 } u0 hu0 inv0 (hc n (by omega))
    ⟨hC, rfl, rfl, (fun j oj d _ hl => by rw [getD_replicate_false] at hl; cases hl), (fun j hl => by rw [getD_replicate_false] at hl; cases hl), fun t _ => rfl⟩
  rwa [show n + (l.toArray.size - n) = l.toArray.size by omega] at K
theorem wp_region_spec {id : Nat} {Q : Exit → Act → World → Prop} {a0 : Act} {w : World} {l : List Oper} (n : Nat) (Φ : (Nat → Value) → Nat → World → Value → Prop) (hm : P.follows .mixedOrders = true) (hB : specB l.toArray n = true) (hC : C { w with drawn := w.drawn + 1 }) (hU : ∀ (u u' : Nat → Value) (j : Nat) w v, (∀ oj, l.toArray[j]? = some oj → ∀ e ∈ oj.after, Region.binds .any e = true → u e.on = u' e.on) → Φ u j w v → Φ u' j w v) (hLe : ∀ u j w w' v, Le w w' → Φ u j w v → Φ u j w' v) (Ψ : Nat → Value → Prop) (hΨ : ∀ u j w v, Φ u j w v → Ψ j v) (u0 : Nat → Value) (hu0 : ∀ j, Ψ j (u0 j))
    (h : ∀ u, (∀ j, Ψ j (u j)) → specAll P l.toArray C Le Φ u (l.take n) 0 a0) (hend : ∀ u w, (∀ j, Ψ j (u j)) → C w → (∀ j, j < n → Φ u j w (u j)) → wpList P l.toArray Q (l.drop n) (putAll u (l.take n) 0 a0) w) : (Code.region id l.toArray true).wp P Q a0 w :=
  wp_region_any hm (any_spec n Φ hB hC hU hLe Ψ hΨ u0 hu0 h hend)
end
end Go.Proofs.YtmolkbmdfkeniaaDoor.Tn
-- from Gi
namespace Go.Proofs.YtmolkbmdfkeniaaDoor.Tn
open Go.ChangeShapes Go.WideShapes Go.ChangeAt Go.RowKit Go.Proofs.YtmolkbmdfkeniaaDoor.Fx Go.Proofs.YtmolkbmdfkeniaaDoor.Rf
def VecVal (w : World) (v : Value) (l : List Int) : Prop := ∃ sp cap, v = .slice sp l.length cap ∧ Nums w sp cap l
/-- a slice that reads as vectors -/
structure Vecs (w : World) (sp : Option Addr) (cap : Nat) (ls : List (List Int)) : Prop where
  ex : ∃ vs : List Value, vs.length = ls.length ∧ Sl w sp cap vs ∧ ∀ i v, vs[i]? = some v → VecVal w v (ls.getD i [])
theorem Vecs.below {w w' : World} {sp : Option Addr} {cap : Nat} {ls : List (List Int)} (h : Vecs w sp cap ls) (hb : Below w.heap.size w w') : Vecs w' sp cap ls := by
  obtain ⟨vs, h1, h2, h3⟩ := h.ex
  exact ⟨vs, h1, h2.below (Nat.le_refl _) hb, fun i v hv => by
    obtain ⟨s, c, e, hn⟩ := h3 i v hv
    exact ⟨s, c, e, hn.below hb⟩⟩
theorem Vecs.at_ {w : World} {sp : Option Addr} {cap : Nat} {ls : List (List Int)} (h : Vecs w sp cap ls) (k : Nat) (hk : k < ls.length) : ∃ c o s2 c2, sp = some ⟨c, o, none⟩ ∧ w.cell? ⟨c, o + k, none⟩ = some (.slice s2 (ls.getD k []).length c2) ∧ Nums w s2 c2 (ls.getD k []) := by
  obtain ⟨vs, h1, h2, h3⟩ := h.ex
  obtain ⟨c, o, rfl, hl⟩ := h2.lies (by omega)
  have hv : vs[k]? = some vs[k] := List.getElem?_eq_getElem (by omega)
  obtain ⟨s2, c2, e, hb⟩ := h3 k _ hv
  have := hl k _ hv
  rw [e] at this
  exact ⟨c, o, s2, c2, rfl, this, hb⟩
theorem Vecs.len {w : World} {sp : Option Addr} {cap : Nat} {ls : List (List Int)} (h : Vecs w sp cap ls) : ls.length ≤ 9223372036854775807 := by
  obtain ⟨vs, h1, h2, h3⟩ := h.ex
  rw [← h1]; exact h2.len
theorem Vecs.drewN {w : World} {sp : Option Addr} {cap : Nat} {ls : List (List Int)} (h : Vecs w sp cap ls) (n : Nat) : Vecs (w.drewN n) sp cap ls := by
  obtain ⟨vs, h1, h2, h3⟩ := h.ex
  exact ⟨vs, h1, h2.drewN n, fun i v hv => by
    obtain ⟨s, c, e, hn⟩ := h3 i v hv
    exact ⟨s, c, e, Sl.drewN hn n⟩⟩
/-- numbers that are answered, and what is wrong -/
def AnsE (w : World) (l : List Int) (err : Int) (e : Ending) (w' : World) : Prop := ∃ sp cap, e = .returned (.tuple #[.slice sp l.length cap, .int .i64 err]) ∧ Nums w' sp cap l ∧ Below w.heap.size w w'
theorem Nums.nil (w : World) : Nums w none 0 [] := Sl.nil w
theorem AnsE.no {w w' : World} {err : Int} (hb : Below w.heap.size w w') : AnsE w [] err (.returned (.tuple #[.slice none 0 0, .int .i64 err])) w' := ⟨none, 0, rfl, Nums.nil _, hb⟩
theorem owns_drewN {w : World} {base e n : Nat} {v : Value} {xs : List Value} (h : w.ownsRow base e 1 v n xs) (m : Nat) : (w.drewN m).ownsRow base e 1 v n xs := owns_below h ⟨rfl, rfl, rfl, Nat.le_refl _, fun _ _ => rfl⟩
end Go.Proofs.YtmolkbmdfkeniaaDoor.Tn
-- from Gh
namespace Go.Proofs.YtmolkbmdfkeniaaDoor.Tn
open Go.ChangeShapes Go.WideShapes Go.ChangeAt Go.RowKit Go.Proofs.YtmolkbmdfkeniaaDoor.Fx Go.Proofs.YtmolkbmdfkeniaaDoor.Rf
section
variable {W : World} {ops : Array Oper} {rest : List Oper} {o : Oper} {a : Act} {Q : Exit → Act → World → Prop}
end
theorem cell_lt {w : World} {p : Addr} {v : Value} (h : w.cell? p = some v) : p.block < w.heap.size := by
  by_cases hlt : p.block < w.heap.size
  · exact hlt
  · have hn : w.heap[p.block]? = none := Array.getElem?_eq_none (by omega)
    simp [World.cell?, hn] at h
theorem below_cell {w w' : World} {p : Addr} {v : Value} (hb : Below w.heap.size w w') (h : w.cell? p = some v) : w'.cell? p = some v := by
  rw [hb.cell (cell_lt h)]
  exact h
end Go.Proofs.YtmolkbmdfkeniaaDoor.Tn
-- from Gu
namespace Go.Proofs.YtmolkbmdfkeniaaDoor.Tn
open Go.ChangeShapes Go.WideShapes Go.ChangeAt Go.RowKit Go.Proofs.YtmolkbmdfkeniaaDoor.Fx Go.Proofs.YtmolkbmdfkeniaaDoor.Rf
def topI (l : List Int) (m : Nat) : List Int := (topN l m).map fun p : Nat => (p : Int)
theorem topI_length (l : List Int) (m : Nat) : (topI l m).length = m := by rw [topI, List.length_map, topN_length]
theorem topI_succ (l : List Int) (m : Nat) : topI l (m + 1) = topI l m ++ [(nextT l (topN l m) : Int)] := by rw [topI, topN, List.map_append]; rfl
/-- which ones are taken, in memory -/
def rowU (N : Nat) (out : List Nat) : Array Value := ((List.range N).map fun i => Value.bool (decide (i ∈ out))).toArray
theorem rowU_get (N : Nat) (out : List Nat) (i : Nat) (h : i < N) : (rowU N out)[i]? = some (.bool (decide (i ∈ out))) := by simp [rowU, h]
theorem rowU_set (N : Nat) (out : List Nat) (p : Nat) : (rowU N out).setIfInBounds p (.bool true) = rowU N (out ++ [p]) := by
  apply Array.ext
  · simp [rowU]
  · intro i h1 h2
    have h3 : i < (rowU N out).size := by simpa using h1
    rw [Array.getElem_setIfInBounds h3]
    by_cases e : p = i
    · subst e; simp [rowU]
    · rw [if_neg e]
      have e2 : ¬ i = p := fun h => e h.symm
      simp [rowU, e2]
theorem made_bools (N : Nat) : madeCells #[Value.bool false] N = rowU N [] := by
  apply Array.ext
  · simp [madeCells, rowU]
  · intro i h1 h2
    simp [madeCells, rowU, Nat.mod_one]
theorem info4 : (Tryd.prog.info? 4).map (fun i => (i.zero, i.size, i.bytes)) = some (some (.bool false), 1, 1) := by kernel_rfl
/-- while the greatest ones are collected -/
structure TpS (w : World) (l : List Int) (m : Nat) (v : Value) (W : World) : Prop where
  below : Below w.heap.size w W
  used : W.heap[w.heap.size]? = some (.cells (rowU l.length (topN l m)) 4 (0, 0))
  own : W.ownsRow (w.heap.size + 1) 3 1 v m ((topI l m).map (Value.int .i64))
theorem TpS.drewN {w W : World} {l : List Int} {m : Nat} {v : Value} (h : TpS w l m v W) (j : Nat) : TpS w l m v (W.drewN j) := ⟨below_drewN h.below j, h.used, owns_drewN h.own j⟩
theorem TpS.mark {w W : World} {l : List Int} {m : Nat} {v : Value} (h : TpS w l m v W) (p : Nat) (hp : nextT l (topN l m) = p) :
    Below w.heap.size w (W.setCell ⟨w.heap.size, p, none⟩ (.bool true)) ∧ (W.setCell ⟨w.heap.size, p, none⟩ (.bool true)).heap[w.heap.size]? = some (.cells (rowU l.length (topN l (m + 1))) 4 (0, 0)) ∧ (W.setCell ⟨w.heap.size, p, none⟩ (.bool true)).ownsRow (w.heap.size + 1) 3 1 v m ((topI l m).map (Value.int .i64)) := by
  refine ⟨h.below.setCell (Nat.le_refl _) _, ?_, h.own.kept (row := some w.heap.size) ⟨rfl, rfl, rfl, by simp, fun k _ hk => heap_setCell_other _ _ _ _ (fun e => hk (by rw [e]))⟩ (Or.inr fun e => ?_)⟩
  · rw [heap_setCell_same _ _ _ _ _ _ h.used, rowU_set, topN, hp]
  · have := (h.own.lt _ e).1
    omega
set_option maxRecDepth 100000 in
set_option maxHeartbeats 4000000 in
theorem rtop_any (w : World) (sp : Option Addr) (cap N m : Nat) (l : List Int) (hN : l.length = N) (hl : Nums w sp cap l) (hN5 : N ≤ 512) (hm1 : 1 ≤ m) (hm : m ≤ N) :
    Calls Tryd.prog 35 #[.slice sp N cap, .int .i64 (m : Int)] w (AnsN w (topI l m)) := by
  have HL := Lib.hid hl
  have HN := Lib.hid hN
  clear hl hN
  go_enter Tryd.func35, Tryd.ntmps35
  go_wp2_with (refine wpList_makeN 85 4 1 (.bool false) Tryd.underlying85 info4 (by decide) rfl (.tmp 10) (.tmp 10) rfl N rfl rfl (by omega) ?_)
  have h0 : TpS w l 0 (.slice none 0 0) (w.alloc (.cells (madeCells (Value.bool false).cells N) 4)) := by
    refine ⟨(Below.refl _ _).alloc (Nat.le_refl _) _, ?_, World.ownsRow_nil _ _ _ _⟩
    rw [heap_alloc_new, show madeCells (Value.bool false).cells N = rowU l.length (topN l 0) from by rw [HN.out]; exact made_bools N]
  have H0 := Lib.hid h0
  clear h0
  go_loopw [5] (fun v wr => ∃ q : Nat, q ≤ m ∧ TpS w l q v wr) (fun v _ => m - (match v with | .slice _ n _ => n | _ => 0))
  case atStart => exact ⟨0, by omega, H0.out⟩
  case round =>
    obtain ⟨q, hq, hS⟩ := hrel
    obtain ⟨sv, cv, rfl, _, _, _⟩ := Sl.all1 hS.own
    have HS := Lib.hid hS
    clear hS
    by_cases hlt : q < m
    · have hdt : decide (q < m) = true := by simp; omega
      go_wp2
      go_loopw [7, 8] (fun a i wr2 => ∃ k j : Nat, k ≤ N ∧ i = .int .i64 k ∧ a = .int .i64 (pk l (topN l q) k) ∧ wr2 = wr.drewN j) (fun _ i _ => N - (intOf i).toNat)
      case atStart => exact ⟨0, 0, by omega, rfl, rfl, rfl⟩
      case round =>
        obtain ⟨k, j, hk, rfl, rfl, rfl⟩ := hrel
        by_cases hlk : k < N
        · have hdk : decide (k < N) = true := by simp; omega
          obtain ⟨g, o, rfl, hc⟩ := HL.out.at_ k (by rw [HN.out]; exact hlk)
          have hcr : wr.cell? ⟨g, o + k, none⟩ = _ := (HS.out.below.cell (p := ⟨g, o + k, none⟩) (block_lt_of_cell hc)).trans hc
          have hu : wr.cell? ⟨w.heap.size, k, none⟩ = _ := (cell_of_row _ _ k _ _ _ HS.out.used).trans (rowU_get _ _ k (by rw [HN.out]; exact hlk))
          have HK := Lib.hid (show pk l (topN l q) (k + 1) = _ from rfl)
          clear hc
          by_cases hin : k ∈ topN l q
          · have HK2 : Hid (pk l (topN l q) (k + 1) = pk l (topN l q) k) := Lib.hid (by rw [pk, if_neg (fun h => h.1 hin)])
            have hd : decide (k ∈ topN l q) = true := by simpa using hin
            rw [hd] at hu
            obtain ⟨a, ha⟩ : ∃ a, pk l (topN l q) k = a := ⟨_, rfl⟩
            rw [ha] at HK2 ⊢
            clear hd hin ha HK
            go_wp2
            go_quiet (fail)
            go_wp2
            go_roundw
            case rel => exact ⟨k + 1, _, by omega, by go_num, by rw [HK2.out], rfl⟩
            case measure => simp [intOf]; omega
          · have hd : decide (k ∈ topN l q) = false := by simpa using hin
            rw [hd] at hu
            rcases pk_spec l (topN l q) k with ⟨h1, _⟩ | ⟨p, h1, h2, _, _⟩
            · have HK2 : Hid (pk l (topN l q) (k + 1) = k) := Lib.hid (by rw [pk, if_pos ⟨hin, Or.inl (by omega)⟩])
              rw [h1]
              clear hd hin h1 HK
              go_wp2
              go_quiet (fail)
              go_wp2
              go_roundw
              case rel => exact ⟨k + 1, _, by omega, by go_num, by rw [HK2.out], rfl⟩
              case measure => simp [intOf]; omega
            · obtain ⟨g', o', e, hc2⟩ := HL.out.at_ p (by rw [HN.out]; omega)
              cases e
              have hcp : wr.cell? ⟨g, o + p, none⟩ = _ := (HS.out.below.cell (p := ⟨g, o + p, none⟩) (block_lt_of_cell hc2)).trans hc2
              have hpN : p < N := by omega
              have hp0 : decide ((p : Int) < 0) = false := by simp
              obtain ⟨x, hx⟩ : ∃ x, l.getD k 0 = x := ⟨_, rfl⟩
              obtain ⟨y, hy⟩ : ∃ x, l.getD p 0 = x := ⟨_, rfl⟩
              rw [hx] at hcr
              rw [hy] at hcp
              by_cases hxy : y < x
              · have HK2 : Hid (pk l (topN l q) (k + 1) = k) := Lib.hid (by rw [pk, if_pos ⟨hin, Or.inr (by rw [h1, Int.toNat_natCast, hx, hy]; exact hxy)⟩])
                have hd2 : decide (y < x) = true := by simpa using hxy
                rw [h1]
                clear hd hin h1 HK hx hy hc2 hxy
                go_wp2
                go_quiet (fail)
                go_wp2
                go_roundw
                case rel => exact ⟨k + 1, _, by omega, by go_num, by rw [HK2.out], rfl⟩
                case measure => simp [intOf]; omega
              · have HK2 : Hid (pk l (topN l q) (k + 1) = p) := Lib.hid (by
                  rw [pk, if_neg (fun h => by
                    rcases h.2 with h3 | h3
                    · omega
                    · rw [h1, Int.toNat_natCast, hx, hy] at h3; exact hxy h3), h1])
                have hd2 : decide (y < x) = false := by simpa using hxy
                rw [h1]
                clear hd hin h1 HK hx hy hc2 hxy
                go_wp2
                go_quiet (fail)
                go_wp2
                go_roundw
                case rel => exact ⟨k + 1, _, by omega, by go_num, by rw [HK2.out], rfl⟩
                case measure => simp [intOf]; omega
        · obtain rfl : k = N := by omega
          have hdk : decide (k < k) = false := by simp
          have hI := topN_is l q (by rw [HN.out]; omega)
          obtain ⟨h1, h2, _, _⟩ := nextT_spec hI.nodup hI.lt (by rw [hI.len, HN.out]; omega)
          rw [HN.out] at h1 h2
          have HTs := Lib.hid (topI_succ l q)
          obtain ⟨p, hp⟩ : ∃ p, nextT l (topN l q) = p := ⟨_, rfl⟩
          rw [hp] at h1 h2 HTs
          rw [h1]
          have HSj := Lib.hid (HS.out.drewN j)
          have HMk := Lib.hid (HSj.out.mark p hp)
          have hu : (wr.drewN j).cell? ⟨w.heap.size, p, none⟩ = _ := (cell_of_row _ _ p _ _ _ HSj.out.used).trans (rowU_get _ _ p (by rw [HN.out]; exact h2))
          have hfz : (wr.drewN j).frozen? ⟨w.heap.size, p, none⟩ = false := frozen_of_row _ _ _ _ _ HSj.out.used
          clear hp h1 hI
          go_upto_region 11 with fail
          refine gen_world (Q := fun w => Code.wp _ _ _ _ w) _ (fun W => Below w.heap.size w W ∧ W.heap[w.heap.size]? = some (.cells (rowU l.length (topN l (q + 1))) 4 (0, 0)) ∧ W.ownsRow (w.heap.size + 1) 3 1 (.slice sv q cv) q ((topI l q).map (Value.int .i64))) HMk.out ?_
          rintro W ⟨b1, b2, b3⟩
          have hW1 : w.heap.size + 1 ≤ W.heap.size := (Array.getElem?_eq_some_iff.1 b2).1
          have B1 := Lib.hid b1
          have B2 := Lib.hid b2
          have B3 := Lib.hid b3
          clear b1 b2 b3 hu hfz HMk HSj HS
          go_wp2_with (refine wpList_push rfl (.tmp 46) (.tmp 48) rfl (w.heap.size + 1) (.slice sv q cv) q (topI l q) (p : Int) rfl B3.out rfl (by omega) hW1 ?_; intro v2 w2 hown2 hb2; have HO2 := Lib.hid hown2; have HB2 := Lib.hid hb2; clear hown2 hb2)
          obtain ⟨s3, c3, rfl, _, _, _⟩ := Sl.all1 HO2.out
          go_roundw
          case rel => exact ⟨q + 1, by omega, B1.out.trans (HB2.out.mono (by omega)), (HB2.out.block _ (by omega)).trans B2.out, by rw [HTs.out]; exact HO2.out⟩
          case measure => simp; omega
    · obtain rfl : q = m := by omega
      have hdf : decide (q < q) = false := by simp
      have HLn : Hid ((topI l q).length = q) := Lib.hid (topI_length l q)
      go_wp2
      go_ret
      obtain ⟨sp2, cap2, e2, _, hnum⟩ := own_nums HS.out.own
      exact ⟨sp2, cap2, by rw [HLn.out, ← e2]; rfl, hnum, HS.out.below⟩
end Go.Proofs.YtmolkbmdfkeniaaDoor.Tn
-- from Gv
namespace Go.Proofs.YtmolkbmdfkeniaaDoor.Tn
open Go.ChangeShapes Go.WideShapes Go.ChangeAt Go.RowKit Go.Proofs.YtmolkbmdfkeniaaDoor.Fx Go.Proofs.YtmolkbmdfkeniaaDoor.Rf
def firstE : List Int → Int
  | [] => 0
  | e :: es => if e ≠ 0 then e else firstE es
def topE (l : List Int) (k : Int) : Int := if chkV l ≠ 0 then chkV l else if k < 1 ∨ (l.length : Int) < k then 10 else 0
def topV (l : List Int) (k : Int) : List Int := if topE l k = 0 then topI l k.toNat else []
def smV (l : List Int) : List Int := if chkV l = 0 then smx l else []
/-- Top, of whatever list -/
def TopAll (E : World → Prop) : Prop := ∀ (w : World) (sp : Option Addr) (cap : Nat) (l : List Int) (k : Int), E w → Nums w sp cap l → -9223372036854775808 ≤ k → k ≤ 9223372036854775807 → Calls Tryd.prog 47 #[.slice sp l.length cap, .int .i64 k] w (AnsE w (topV l k) (topE l k))
/-- a new block that holds numbers -/
theorem nums_new (w : World) (l : List Int) (cs : Array Value) (n : Nat) (hc : cs = (l.map (Value.int .i64)).toArray) (hn : l.length = n) (hl : n ≤ 1000000) : Nums (w.alloc (.cells cs 3)) (some ⟨w.heap.size, 0, none⟩) n l := by
  subst hn
  have h := Sl.new w (l.map (Value.int .i64)) cs 3 (0, 0) hc (by simpa using hl)
  rw [List.length_map] at h
  exact h
end Go.Proofs.YtmolkbmdfkeniaaDoor.Tn
-- from Gw
namespace Go.Proofs.YtmolkbmdfkeniaaDoor.Tn
open Go.ChangeShapes Go.WideShapes Go.ChangeAt Go.RowKit Go.Proofs.YtmolkbmdfkeniaaDoor.Fx Go.Proofs.YtmolkbmdfkeniaaDoor.Rf
end Go.Proofs.YtmolkbmdfkeniaaDoor.Tn
