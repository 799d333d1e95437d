import Derived.Test.YthjcjjppjjpjfaaChecked
import Derived.Test.YthjcjjppjjpjfaaMa
import Derived.StillTailTactics
import Derived.BigRegion
import Derived.BigQuiet
import Derived.Deep.QuietTactic
import Derived.Laws.AppendOwnNone
namespace Go.Proofs.Ythjcjjppjjpjfaa
open Go.ChangeShapes Go.WideShapes Go.ChangeAt Go.RowKit

theorem gen_world {Q : World → Prop} (w2 : World) (P : World → Prop) (h : P w2) (k : ∀ w, P w → Q w) : Q w2 := k w2 h
/-- a row of bytes -/
def rowB (l : List Int) : Array Value := (l.map (Value.int .u8)).toArray
theorem rowB_size (l : List Int) : (rowB l).size = l.length := by simp [rowB]
theorem rowB_get (l : List Int) (i : Nat) (h : i < l.length) : (rowB l)[i]? = some (.int .u8 (l.getD i 0)) := by
  simp [rowB, h, List.getD]
theorem rowB_set (l : List Int) (i : Nat) (x : Int) : (rowB l).setIfInBounds i (.int .u8 x) = rowB (l.set i x) := by
  apply Array.ext'
  simp [rowB]
theorem rowB_one (l : List Int) : (rowB l).all (·.oneCell') = true := by
  simp [rowB, Value.oneCell']
theorem rowB_list (l : List Int) : (rowB l).toList = l.map (Value.int .u8) := by simp [rowB]
theorem map_one (l : List Int) : ∀ v ∈ l.map (Value.int .u8), v.oneCell' = true := by
  intro v hv
  obtain ⟨x, _, rfl⟩ := List.mem_map.1 hv
  rfl
/-- n noughts -/
def zs (n : Nat) : List Int := List.replicate n 0
theorem below_setRow {B : Nat} {a w : World} (h : Below B a w) {g : Nat} (hg : B ≤ g) (cs : Array Value) : Below B a (w.setRow g cs) :=
  h.trans ⟨rfl, rfl, rfl, by simp, fun k hk => setRow_other w g k cs (by omega)⟩
/-- the world while bytes are filled into a new block g: all below w's size is as it was -/
structure Fl (w : World) (g : Nat) (t : TypeId) (l : List Int) (wr : World) : Prop where
  below : Below w.heap.size w wr
  ge : w.heap.size ≤ g
  row : wr.heap[g]? = some (.cells (rowB l) t (0, 0))
theorem Fl.drew {w wr : World} {g : Nat} {t : TypeId} {l : List Int} (h : Fl w g t l wr) : Fl w g t l wr.drew := ⟨h.below.drew, h.ge, h.row⟩
theorem Fl.drewN {w wr : World} {g : Nat} {t : TypeId} {l : List Int} (h : Fl w g t l wr) (n : Nat) : Fl w g t l (wr.drewN n) :=
  ⟨⟨h.below.os, h.below.tape, h.below.output, h.below.size, h.below.block⟩, h.ge, h.row⟩
theorem Fl.put {w wr : World} {g : Nat} {t : TypeId} {l : List Int} (h : Fl w g t l wr) (i : Nat) (x : Int) : Fl w g t (l.set i x) (wr.setCell ⟨g, i, none⟩ (.int .u8 x)) := by
  refine ⟨h.below.setCell h.ge _, h.ge, ?_⟩
  rw [heap_setCell_same _ _ _ _ _ _ h.row, rowB_set]
theorem Fl.cell {w wr : World} {g : Nat} {t : TypeId} {l : List Int} (h : Fl w g t l wr) (i : Nat) (hi : i < l.length) : wr.cell? ⟨g, i, none⟩ = some (.int .u8 (l.getD i 0)) := by
  rw [cell_of_row _ _ _ _ _ _ h.row, rowB_get _ _ hi]
theorem Fl.free {w wr : World} {g : Nat} {t : TypeId} {l : List Int} (h : Fl w g t l wr) (i : Nat) : wr.frozen? ⟨g, i, none⟩ = false := frozen_of_row _ _ _ _ _ h.row
/-- two new blocks: the answer's (at w's size), and g behind it -/
structure Two (w : World) (t : TypeId) (z : List Int) (l : List Int) (t' : TypeId) (wr : World) : Prop where
  fl : Fl w (w.heap.size + 1) t' l wr
  res : wr.heap[w.heap.size]? = some (.cells (rowB z) t (0, 0))
theorem Two.start (w : World) (t t' : TypeId) (z l : List Int) (X Y : Array Value) (hX : X = rowB z) (hY : Y = rowB l) : Two w t z l t' ((w.alloc (.cells X t)).alloc (.cells Y t')) := by
  subst hX hY
  exact ⟨⟨((Below.refl _ _).alloc (Nat.le_refl _) _).alloc (by simp) _, by omega, heap_alloc2_new _ _ _⟩, heap_alloc2_old _ _ _⟩
theorem Two.put {w wr : World} {t t' : TypeId} {z l : List Int} (h : Two w t z l t' wr) (i : Nat) (x : Int) : Two w t z (l.set i x) t' (wr.setCell ⟨w.heap.size + 1, i, none⟩ (.int .u8 x)) :=
  ⟨h.fl.put i x, by rw [heap_setCell_other _ _ _ _ (by simp)]; exact h.res⟩

/-- the values of xs lie at c from o on -/
def Lies (w : World) (c o : Nat) (xs : List Value) : Prop := ∀ i v, xs[i]? = some v → w.cell? ⟨c, o + i, none⟩ = some v
theorem add_plain (c o i : Nat) : (⟨c, o, none⟩ : Addr).add i = ⟨c, o + i, none⟩ := by unfold Addr.add; split <;> simp_all
theorem Lies.drop {w : World} {c o : Nat} {l : List Value} (h : Lies w c o l) (k : Nat) : Lies w c (o + k) (l.drop k) := by
  intro i v hv
  rw [List.getElem?_drop] at hv
  have := h _ v hv
  rwa [← Nat.add_assoc] at this
theorem Lies.take {w : World} {c o : Nat} {l : List Value} (h : Lies w c o l) (k : Nat) : Lies w c o (l.take k) := by
  intro i v hv
  rw [List.getElem?_take] at hv
  split at hv
  · exact h i v hv
  · cases hv
theorem Lies.lt {w : World} {c o : Nat} {l : List Value} (h : Lies w c o l) (h0 : 0 < l.length) : c < w.heap.size :=
  block_lt_of_cell (h 0 _ (List.getElem?_eq_getElem h0))
theorem Lies.src {w : World} {c o : Nat} {l : List Value} (h : Lies w c o l) : ∀ j v, l[j]? = some v → w.cell? ((⟨c, o, none⟩ : Addr).add j) = some v := by
  intro j v hv
  rw [add_plain]
  exact h j v hv

/-- a slice that reads as the values xs (nil: none) -/
structure Sl (w : World) (sp : Option Addr) (cap : Nat) (xs : List Value) : Prop where
  le : xs.length ≤ cap
  max : cap ≤ maxLen
  nul : sp = none → cap = 0
  lies : 0 < xs.length → ∃ c o, sp = some ⟨c, o, none⟩ ∧ Lies w c o xs
section
variable {w w' : World} {sp : Option Addr} {cap : Nat} {xs : List Value}
theorem Sl.nil (w : World) : Sl w none 0 [] := ⟨Nat.le_refl _, by unfold maxLen; omega, fun _ => rfl, fun h => absurd h (by simp)⟩
theorem Sl.kept (h : Sl w sp cap xs) (hk : ∀ a v, w.cell? a = some v → w'.cell? a = some v) : Sl w' sp cap xs :=
  ⟨h.le, h.max, h.nul, fun h0 => by
    obtain ⟨c, o, e, hl⟩ := h.lies h0
    exact ⟨c, o, e, fun i v hv => hk _ _ (hl i v hv)⟩⟩
theorem Sl.below (h : Sl w sp cap xs) {B : Nat} (hB : w.heap.size ≤ B) (hb : Below B w w') : Sl w' sp cap xs :=
  h.kept fun _ _ hc => (hb.cell (Nat.lt_of_lt_of_le (block_lt_of_cell hc) hB)).trans hc
theorem Sl.drewN (h : Sl w sp cap xs) (n : Nat) : Sl (w.drewN n) sp cap xs := h.kept fun _ _ hc => hc
theorem Sl.drew (h : Sl w sp cap xs) : Sl w.drew sp cap xs := h.kept fun _ _ hc => hc
/-- what lies below B stays, whatever is written from B on -/
theorem Sl.under (h : Sl w sp cap xs) {B : Nat} (hs : ∀ c o, sp = some ⟨c, o, none⟩ → 0 < xs.length → c < B) (hb : Below B w w') : Sl w' sp cap xs :=
  ⟨h.le, h.max, h.nul, fun h0 => by
    obtain ⟨c, o, e, hl⟩ := h.lies h0
    exact ⟨c, o, e, fun i v hv => (hb.cell (p := ⟨c, o + i, none⟩) (hs c o e h0)).trans (hl i v hv)⟩⟩
/-- the address behind k cells -/
def cutA (sp : Option Addr) (cap k : Nat) : Option Addr := if cap = k then sp else sp.map (·.add k)
theorem Sl.cut (h : Sl w sp cap xs) (k : Nat) (hk : k ≤ xs.length) : Sl w (cutA sp cap k) (cap - k) (xs.drop k) := by
  have hle := h.le
  refine ⟨by simp; omega, by have := h.max; omega, fun e => ?_, fun h0 => ?_⟩
  · unfold cutA at e
    split at e
    · omega
    · rcases sp with _ | a
      · have := h.nul rfl; omega
      · cases e
  · simp at h0
    obtain ⟨c, o, rfl, hl⟩ := h.lies (by omega)
    refine ⟨c, o + k, ?_, hl.drop k⟩
    unfold cutA
    rw [if_neg (by omega), Option.map_some, add_plain]
theorem Sl.first (h : Sl w sp cap xs) (k : Nat) : Sl w sp cap (xs.take k) := by
  have hle := h.le
  refine ⟨by simp; omega, h.max, h.nul, fun h0 => ?_⟩
  simp at h0
  obtain ⟨c, o, rfl, hl⟩ := h.lies (by omega)
  exact ⟨c, o, rfl, hl.take k⟩
theorem Sl.len (h : Sl w sp cap xs) : xs.length ≤ 9223372036854775807 := by have h1 := h.le; have h2 := h.max; unfold maxLen at h2; omega
end
/-- a slice that reads as the bytes l -/
structure Bytes (w : World) (sp : Option Addr) (cap : Nat) (l : List Int) : Prop where
  sl : Sl w sp cap (l.map (Value.int .u8))
  rng : rng l
/-- a slice that reads as numbers -/
def Nums (w : World) (sp : Option Addr) (cap : Nat) (l : List Int) : Prop := Sl w sp cap (l.map (Value.int .i64))
/-- the value of one piece -/
def PcVal (w : World) (v : Value) (l : List Int) : Prop := ∃ sp cap, v = .slice sp l.length cap ∧ Bytes w sp cap l
/-- a slice that reads as pieces -/
structure Pieces (w : World) (sp : Option Addr) (cap : Nat) (ls : List (List Int)) : Prop where
  ex : ∃ vs : List Value, vs.length = ls.length ∧ Sl w sp cap vs ∧ ∀ i v, vs[i]? = some v → PcVal w v (ls.getD i [])
section
variable {w w' : World} {sp : Option Addr} {cap : Nat}
theorem Bytes.below {l : List Int} (h : Bytes w sp cap l) (hb : Below w.heap.size w w') : Bytes w' sp cap l := ⟨h.sl.below (Nat.le_refl _) hb, h.rng⟩
theorem PcVal.below {v : Value} {l : List Int} (h : PcVal w v l) (hb : Below w.heap.size w w') : PcVal w' v l := by
  obtain ⟨sp, cap, e, hs⟩ := h
  exact ⟨sp, cap, e, hs.below hb⟩
theorem Pieces.below {ls : List (List Int)} (h : Pieces w sp cap ls) (hb : Below w.heap.size w w') : Pieces w' sp cap ls := by
  obtain ⟨vs, h1, h2, h3⟩ := h.ex
  exact ⟨vs, h1, h2.below (Nat.le_refl _) hb, fun i v hv => (h3 i v hv).below hb⟩
theorem Bytes.drewN {l : List Int} (h : Bytes w sp cap l) (n : Nat) : Bytes (w.drewN n) sp cap l := ⟨h.sl.drewN n, h.rng⟩
theorem Bytes.drew {l : List Int} (h : Bytes w sp cap l) : Bytes w.drew sp cap l := ⟨h.sl.drew, h.rng⟩
/-- one piece -/
theorem Pieces.at_ {ls : List (List Int)} (h : Pieces w sp cap ls) (k : Nat) (hk : k < ls.length) : ∃ c o s2 c2, sp = some ⟨c, o, none⟩ ∧ w.cell? ⟨c, o + k, none⟩ = some (.slice s2 (ls.getD k []).length c2) ∧ Bytes w s2 c2 (ls.getD k []) := by
  obtain ⟨vs, h1, h2, h3⟩ := h.ex
  obtain ⟨c, o, rfl, hl⟩ := h2.lies (by omega)
  have hv : vs[k]? = some vs[k] := List.getElem?_eq_getElem (by omega)
  obtain ⟨s2, c2, e, hb⟩ := h3 k _ hv
  have := hl k _ hv
  rw [e] at this
  exact ⟨c, o, s2, c2, rfl, this, hb⟩
theorem Bytes.at_ {l : List Int} (h : Bytes w sp cap l) (k : Nat) (hk : k < l.length) : ∃ c o, sp = some ⟨c, o, none⟩ ∧ w.cell? ⟨c, o + k, none⟩ = some (.int .u8 (l.getD k 0)) := by
  obtain ⟨c, o, rfl, hl⟩ := h.sl.lies (by simp; omega)
  exact ⟨c, o, rfl, hl k _ (by simp [hk])⟩
theorem Nums.at_ {l : List Int} (h : Nums w sp cap l) (k : Nat) (hk : k < l.length) : ∃ c o, sp = some ⟨c, o, none⟩ ∧ w.cell? ⟨c, o + k, none⟩ = some (.int .i64 (l.getD k 0)) := by
  obtain ⟨c, o, rfl, hl⟩ := h.lies (by simp; omega)
  exact ⟨c, o, rfl, hl k _ (by simp [hk])⟩
theorem Bytes.cut {l : List Int} (h : Bytes w sp cap l) (k : Nat) (hk : k ≤ l.length) : Bytes w (cutA sp cap k) (cap - k) (l.drop k) :=
  ⟨by have := h.sl.cut k (by simpa using hk); rwa [← List.map_drop] at this, rng_drop h.rng k⟩
theorem Bytes.len {l : List Int} (h : Bytes w sp cap l) : l.length ≤ 9223372036854775807 := by have := h.sl.len; simpa using this
theorem Bytes.le {l : List Int} (h : Bytes w sp cap l) : l.length ≤ cap := by have := h.sl.le; simpa using this
theorem Pieces.len {ls : List (List Int)} (h : Pieces w sp cap ls) : ls.length ≤ 9223372036854775807 := by
  obtain ⟨vs, h1, h2, h3⟩ := h.ex
  rw [← h1]; exact h2.len
end
theorem below_drewN {B : Nat} {a w : World} (h : Below B a w) (n : Nat) : Below B a (w.drewN n) := ⟨h.os, h.tape, h.output, h.size, h.block⟩
theorem Below.ofGrown {B : Nat} {w w' : World} {row : Option Nat} (hg : w.grownBy w' row) (hB : B ≤ w.heap.size) (hr : ∀ k, row = some k → B ≤ k) : Below B w w' :=
  ⟨hg.os, hg.tape, hg.output, hg.size, fun k hk => hg.block k (by omega) (fun e => by have := hr _ e.symm; omega)⟩
theorem info5 : (Try.prog.info? 5).map (fun i => (i.zero, i.size, i.bytes)) = some (some (.int .u8 0), 1, 1) := by kernel_rfl
theorem info23 : (Try.prog.info? 23).map (fun i => (i.zero, i.size, i.bytes)) = some (some (.slice none 0 0), 1, 24) := by kernel_rfl
theorem info3 : (Try.prog.info? 3).map (fun i => (i.zero, i.size, i.bytes)) = some (some (.int .i64 0), 1, 8) := by kernel_rfl
theorem size5 : (Try.prog.info? 5).map (·.size) = some 1 := by kernel_rfl
theorem size47 : (Try.prog.info? 47).map (·.size) = some 8 := by kernel_rfl
end Go.Proofs.Ythjcjjppjjpjfaa
