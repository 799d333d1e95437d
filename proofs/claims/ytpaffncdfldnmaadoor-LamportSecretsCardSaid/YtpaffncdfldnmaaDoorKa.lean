import Derived.Test.YtpaffncdfldnmaaDoorQv
import Derived.Test.YtpaffncdfldnmaaDoorTb
import Derived.Laws.MakeOwn
import Derived.Laws.OwnMore
namespace Go.Proofs.YtpaffncdfldnmaaDoor
open Go.ChangeShapes Go.WideShapes Go.ChangeAt Go.RowKit

theorem below_drewN {B : Nat} {a w : World} (h : Below B a w) (n : Nat) : Below B a (w.drewN n) := ⟨h.os, h.tape, h.output, h.size, h.block⟩
theorem add_plain (c o i : Nat) : (⟨c, o, none⟩ : Addr).add i = ⟨c, o + i, none⟩ := by unfold Addr.add; split <;> simp_all
/-- the values of xs lie at c from o on -/
def Vlies (w : World) (c o : Nat) (xs : List Value) : Prop := ∀ i v, xs[i]? = some v → w.cell? ⟨c, o + i, none⟩ = some v
theorem Vlies.drop {w : World} {c o : Nat} {l : List Value} (h : Vlies w c o l) (k : Nat) : Vlies w c (o + k) (l.drop k) := by
  intro i v hv
  rw [List.getElem?_drop] at hv
  have := h _ v hv
  rwa [← Nat.add_assoc] at this
theorem Vlies.take {w : World} {c o : Nat} {l : List Value} (h : Vlies w c o l) (k : Nat) : Vlies w c o (l.take k) := by
  intro i v hv
  rw [List.getElem?_take] at hv
  split at hv
  · exact h i v hv
  · cases hv
theorem Vlies.src {w : World} {c o : Nat} {l : List Value} (h : Vlies w c o l) : ∀ j v, l[j]? = some v → w.cell? ((⟨c, o, none⟩ : Addr).add j) = some v := by
  intro j v hv
  rw [add_plain]
  exact h j v hv
theorem lies_v {w : World} {c o : Nat} {l : List Int} : Lies w c o l ↔ Vlies w c o (l.map (Value.int .u8)) := by
  constructor
  · intro h i v hv
    have hi : i < l.length := by
      have := (List.getElem?_eq_some_iff.1 hv).1
      simpa using this
    rw [h i hi, ← hv]
    simp [hi]
  · intro h i hi
    exact h i _ (by simp [hi])

/-- a slice that reads as the values xs (nil: none) -/
structure Sl (w : World) (sp : Option Addr) (cap : Nat) (xs : List Value) : Prop where
  le : xs.length ≤ cap
  max : cap ≤ maxLen
  nul : sp = none → cap = 0
  lies : 0 < xs.length → ∃ c o, sp = some ⟨c, o, none⟩ ∧ Vlies w c o xs
/-- the address behind k cells -/
def cutA (sp : Option Addr) (cap k : Nat) : Option Addr := if cap = k then sp else sp.map (·.add k)
section
variable {w w' : World} {sp : Option Addr} {cap : Nat} {xs : List Value}
theorem Sl.nil (w : World) : Sl w none 0 [] := ⟨Nat.le_refl _, by unfold maxLen; omega, fun _ => rfl, fun h => absurd h (by simp)⟩
theorem Sl.kept (h : Sl w sp cap xs) (hk : ∀ a v, w.cell? a = some v → w'.cell? a = some v) : Sl w' sp cap xs :=
  ⟨h.le, h.max, h.nul, fun h0 => by
    obtain ⟨c, o, e, hl⟩ := h.lies h0
    exact ⟨c, o, e, fun i v hv => hk _ _ (hl i v hv)⟩⟩
theorem Sl.below (h : Sl w sp cap xs) {B : Nat} (hB : w.heap.size ≤ B) (hb : Below B w w') : Sl w' sp cap xs :=
  h.kept fun _ _ hc => (hb.cell (Nat.lt_of_lt_of_le (block_lt_of_cell hc) hB)).trans hc
theorem Sl.cut (h : Sl w sp cap xs) (k : Nat) (hk : k ≤ xs.length) : Sl w (cutA sp cap k) (cap - k) (xs.drop k) := by
  have hle := h.le
  refine ⟨by simp; omega, by have := h.max; omega, fun e => ?_, fun h0 => ?_⟩
  · unfold cutA at e
    split at e
    · omega
    · rcases sp with _ | a
      · have := h.nul rfl; omega
      · cases e
  · simp at h0
    obtain ⟨c, o, rfl, hl⟩ := h.lies (by omega)
    refine ⟨c, o + k, ?_, hl.drop k⟩
    unfold cutA
    rw [if_neg (by omega), Option.map_some, add_plain]
theorem Sl.first (h : Sl w sp cap xs) (k : Nat) : Sl w sp cap (xs.take k) := by
  have hle := h.le
  refine ⟨by simp; omega, h.max, h.nul, fun h0 => ?_⟩
  simp at h0
  obtain ⟨c, o, rfl, hl⟩ := h.lies (by omega)
  exact ⟨c, o, rfl, hl.take k⟩
theorem Sl.len (h : Sl w sp cap xs) : xs.length ≤ 9223372036854775807 := by have h1 := h.le; have h2 := h.max; unfold maxLen at h2; omega
theorem Sl.new (w : World) (l : List Value) (cs : Array Value) (t : TypeId) (fr : Nat × Nat) (hc : cs = l.toArray) (hl : l.length ≤ 1000000) : Sl (w.alloc (.cells cs t fr)) (some ⟨w.heap.size, 0, none⟩) l.length l := by
  subst hc
  refine ⟨by simp, by unfold maxLen; omega, (fun h => by cases h), fun _ => ⟨_, _, rfl, fun i v hv => ?_⟩⟩
  rw [cell_of_row _ _ _ _ _ _ (heap_alloc_new _ _), ← hv]
  simp
end
/-- a slice that reads as the bytes l, and has no room where it is nil -/
structure Byt (w : World) (sp : Option Addr) (cap : Nat) (l : List Int) : Prop where
  by_ : Bytes w sp cap l
  nul : sp = none → cap = 0
theorem byt_iff {w : World} {sp : Option Addr} {cap : Nat} {l : List Int} : Byt w sp cap l ↔ Sl w sp cap (l.map (Value.int .u8)) := by
  constructor
  · rintro ⟨h, hn⟩
    refine ⟨by simpa using h.le, h.max, hn, fun h0 => ?_⟩
    obtain ⟨c, o, e, hl⟩ := h.lies (by simpa using h0)
    exact ⟨c, o, e, lies_v.1 hl⟩
  · intro h
    refine ⟨⟨by simpa using h.le, h.max, fun h0 => ?_⟩, h.nul⟩
    obtain ⟨c, o, e, hl⟩ := h.lies (by simpa using h0)
    exact ⟨c, o, e, lies_v.2 hl⟩
/-- the value of one piece -/
def PcVal (w : World) (v : Value) (l : List Int) : Prop := ∃ sp cap, v = .slice sp l.length cap ∧ Byt w sp cap l
/-- a slice that reads as pieces -/
structure Pcs (w : World) (sp : Option Addr) (cap : Nat) (ls : List (List Int)) : Prop where
  ex : ∃ vs : List Value, vs.length = ls.length ∧ Sl w sp cap vs ∧ ∀ i v, vs[i]? = some v → PcVal w v (ls.getD i [])
section
variable {w w' : World} {sp : Option Addr} {cap : Nat}
theorem Byt.below {l : List Int} (h : Byt w sp cap l) (hb : Below w.heap.size w w') : Byt w' sp cap l := ⟨h.by_.below hb, h.nul⟩
theorem Byt.len {l : List Int} (h : Byt w sp cap l) : l.length ≤ 9223372036854775807 := by have h1 := h.by_.le; have h2 := h.by_.max; unfold maxLen at h2; omega
theorem Byt.at_ {l : List Int} (h : Byt w sp cap l) (k : Nat) (hk : k < l.length) : ∃ c o, sp = some ⟨c, o, none⟩ ∧ w.cell? ⟨c, o + k, none⟩ = some (.int .u8 (l.getD k 0)) := by
  obtain ⟨c, o, e, hl⟩ := h.by_.lies (by omega)
  exact ⟨c, o, e, hl k hk⟩
theorem Byt.nil (w : World) : Byt w none 0 [] := ⟨Bytes.nil w, fun _ => rfl⟩
theorem PcVal.below {v : Value} {l : List Int} (h : PcVal w v l) (hb : Below w.heap.size w w') : PcVal w' v l := by
  obtain ⟨sp, cap, e, hs⟩ := h
  exact ⟨sp, cap, e, hs.below hb⟩
theorem Pcs.below {ls : List (List Int)} (h : Pcs w sp cap ls) (hb : Below w.heap.size w w') : Pcs w' sp cap ls := by
  obtain ⟨vs, h1, h2, h3⟩ := h.ex
  exact ⟨vs, h1, h2.below (Nat.le_refl _) hb, fun i v hv => (h3 i v hv).below hb⟩
theorem Pcs.nil (w : World) : Pcs w none 0 [] := ⟨[], rfl, Sl.nil w, fun i v hv => by simp at hv⟩
theorem Pcs.at_ {ls : List (List Int)} (h : Pcs w sp cap ls) (k : Nat) (hk : k < ls.length) : ∃ c o s2 c2, sp = some ⟨c, o, none⟩ ∧ w.cell? ⟨c, o + k, none⟩ = some (.slice s2 (ls.getD k []).length c2) ∧ Byt w s2 c2 (ls.getD k []) := by
  obtain ⟨vs, h1, h2, h3⟩ := h.ex
  obtain ⟨c, o, rfl, hl⟩ := h2.lies (by omega)
  have hv : vs[k]? = some vs[k] := List.getElem?_eq_getElem (by omega)
  obtain ⟨s2, c2, e, hb⟩ := h3 k _ hv
  have := hl k _ hv
  rw [e] at this
  exact ⟨c, o, s2, c2, rfl, this, hb⟩
theorem getD_drop (ls : List (List Int)) (k i : Nat) : (ls.drop k).getD i [] = ls.getD (k + i) [] := by simp [List.getD, List.getElem?_drop]
theorem Pcs.cut {ls : List (List Int)} (h : Pcs w sp cap ls) (k : Nat) (hk : k ≤ ls.length) : Pcs w (cutA sp cap k) (cap - k) (ls.drop k) := by
  obtain ⟨vs, h1, h2, h3⟩ := h.ex
  refine ⟨vs.drop k, by simp [h1], h2.cut k (by omega), fun i v hv => ?_⟩
  rw [List.getElem?_drop] at hv
  rw [getD_drop]
  exact h3 _ v hv
theorem Pcs.first {ls : List (List Int)} (h : Pcs w sp cap ls) (k : Nat) : Pcs w sp cap (ls.take k) := by
  obtain ⟨vs, h1, h2, h3⟩ := h.ex
  refine ⟨vs.take k, by simp [h1], h2.first k, fun i v hv => ?_⟩
  rw [List.getElem?_take] at hv
  split at hv
  · rename_i hi
    have := h3 i v hv
    rwa [show (ls.take k).getD i [] = ls.getD i [] by simp [List.getD, hi]]
  · cases hv
theorem Pcs.len {ls : List (List Int)} (h : Pcs w sp cap ls) : ls.length ≤ 9223372036854775807 := by
  obtain ⟨vs, h1, h2, h3⟩ := h.ex
  rw [← h1]; exact h2.len
theorem Pcs.le {ls : List (List Int)} (h : Pcs w sp cap ls) : ls.length ≤ cap := by
  obtain ⟨vs, h1, h2, h3⟩ := h.ex
  rw [← h1]; exact h2.le
/-- pieces laid in a new block -/
theorem Pcs.new (w : World) (vs : List Value) (ls : List (List Int)) (cs : Array Value) (t : TypeId) (fr : Nat × Nat) (hc : cs = vs.toArray) (hl : vs.length = ls.length) (hn : vs.length ≤ 1000000) (h : ∀ i v, vs[i]? = some v → PcVal w v (ls.getD i [])) :
    Pcs (w.alloc (.cells cs t fr)) (some ⟨w.heap.size, 0, none⟩) vs.length ls :=
  ⟨vs, hl, Sl.new w vs cs t fr hc hn, fun i v hv => (h i v hv).below ((Below.refl _ _).alloc (Nat.le_refl _) _)⟩
theorem Byt.new (w : World) (l : List Int) (cs : Array Value) (t : TypeId) (fr : Nat × Nat) (hc : cs = rowB l) (hl : l.length ≤ 1000000) : Byt (w.alloc (.cells cs t fr)) (some ⟨w.heap.size, 0, none⟩) l.length l := by
  have := Sl.new w (l.map (Value.int .u8)) cs t fr hc (by simpa using hl)
  rw [List.length_map] at this
  exact byt_iff.2 this
end

/-- a slice that reads as digests -/
structure Digs (w : World) (sp : Option Addr) (cap : Nat) (ds : List (List Int)) : Prop where
  le : ds.length ≤ cap
  max : cap ≤ maxLen
  nul : sp = none → cap = 0
  all : ∀ d ∈ ds, d.length = 32
  lies : 0 < ds.length → ∃ c o, sp = some ⟨c, o, none⟩ ∧ Lies w c o ds.flatten
theorem flat_len : ∀ (ds : List (List Int)), (∀ d ∈ ds, d.length = 32) → ds.flatten.length = 32 * ds.length
  | [], _ => rfl
  | d :: ds, h => by
    rw [List.flatten_cons, List.length_append, flat_len ds (fun x hx => h x (by simp [hx])), h d (by simp), List.length_cons]
    omega
theorem flat_at : ∀ (ds : List (List Int)) (i j : Nat), (∀ d ∈ ds, d.length = 32) → i < ds.length → j < 32 → ds.flatten.getD (32 * i + j) 0 = (ds.getD i []).getD j 0
  | [], i, j, _, hi, _ => by simp at hi
  | d :: ds, 0, j, h, _, hj => by
    have hd := h d (by simp)
    rw [List.flatten_cons, Nat.mul_zero, Nat.zero_add, List.getD_eq_getElem?_getD, List.getElem?_append_left (by omega)]
    rfl
  | d :: ds, i + 1, j, h, hi, hj => by
    have hd := h d (by simp)
    have ih := flat_at ds i j (fun x hx => h x (by simp [hx])) (by simpa using hi) hj
    have e : 32 * (i + 1) + j = d.length + (32 * i + j) := by omega
    rw [List.flatten_cons, List.getD_eq_getElem?_getD, List.getElem?_append_right (by omega), e, Nat.add_sub_cancel_left, ← List.getD_eq_getElem?_getD, ih]
    rfl
section
variable {w w' : World} {sp : Option Addr} {cap : Nat} {ds : List (List Int)}
theorem Digs.nil (w : World) : Digs w none 0 [] := ⟨Nat.le_refl _, by unfold maxLen; omega, fun _ => rfl, (fun d hd => by cases hd), fun h => absurd h (by simp)⟩
theorem Digs.below (h : Digs w sp cap ds) (hb : Below w.heap.size w w') : Digs w' sp cap ds :=
  ⟨h.le, h.max, h.nul, h.all, fun h0 => by
    obtain ⟨c, o, e, hl⟩ := h.lies h0
    exact ⟨c, o, e, fun i hi => (hb.cell (block_lt_of_cell (hl i hi))).trans (hl i hi)⟩⟩
theorem Digs.len (h : Digs w sp cap ds) : ds.length ≤ 9223372036854775807 := by have h1 := h.le; have h2 := h.max; unfold maxLen at h2; omega
theorem getD_mem (ds : List (List Int)) (i : Nat) (hi : i < ds.length) : ds.getD i [] ∈ ds := by
  simp [hi]
/-- one digest -/
theorem Digs.at_ (h : Digs w sp cap ds) (i : Nat) (hi : i < ds.length) : ∃ c o, sp = some ⟨c, o, none⟩ ∧ w.rangeAt c (o + 32 * i) ((ds.getD i []).map (Value.int .u8)) := by
  obtain ⟨c, o, e, hl⟩ := h.lies (by omega)
  refine ⟨c, o, e, fun j v hv => ?_⟩
  have hd : (ds.getD i []).length = 32 := h.all _ (getD_mem ds i hi)
  have hj : j < 32 := by
    have := (List.getElem?_eq_some_iff.1 hv).1
    rw [List.length_map] at this
    omega
  have hf := flat_len ds h.all
  have h1 := hl (32 * i + j) (by omega)
  rw [flat_at ds i j h.all hi hj, ← Nat.add_assoc] at h1
  have h2 : j < (ds.getD i []).length := by omega
  rw [h1, ← hv, List.getElem?_map, List.getElem?_eq_getElem h2, List.getD_eq_getElem?_getD, List.getElem?_eq_getElem h2]
  rfl
end
theorem size28 : (Tryd.prog.info? 38).map (·.size) = some 1 := by kernel_rfl
theorem info28 : (Tryd.prog.info? 38).map (fun i => (i.zero, i.size, i.bytes)) = some (some (.slice none 0 0), 1, 24) := by kernel_rfl
theorem info24 : (Tryd.prog.info? 23).map (fun i => (i.size, i.bytes)) = some (32, 32) := by kernel_rfl
end Go.Proofs.YtpaffncdfldnmaaDoor
