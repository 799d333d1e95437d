import Derived.WalkKit
import Derived.ProofKit
import Derived.OpenShut
import Derived.WalkLawsBesides
import Derived.Lib.Hide
import Derived.Laws.CopyOwn
import Derived.Test.YtpaffncdfldnmaaDoorChecked
import Derived.StillTailTactics
import Derived.BigRegion
import Derived.BigQuiet
import Derived.Deep.QuietTactic
import Derived.Laws.AppendOwnNone
import Derived.Laws.MakeOwn
import Derived.Laws.OwnMore
import Derived.Deep.DeepCutAuto
namespace Go.Proofs.YtpaffncdfldnmaaDoor.Cd

section
open Go.RowKit

/-- the lowest k bytes of n, the highest first -/
def be : Nat → Int → List Int
  | 0, _ => []
  | k + 1, n => be k (n / 256) ++ [n % 256]
theorem be_length : ∀ k n, (be k n).length = k
  | 0, _ => rfl
  | k + 1, n => by simp [be, be_length k]
theorem be_cons : ∀ k n, be (k + 1) n = (n / 256 ^ k % 256) :: be k n
  | 0, n => by simp [be]
  | k + 1, n => by
    rw [be, be_cons k (n / 256), be, List.cons_append]
    congr 1
    rw [Int.pow_succ, Int.mul_comm (256 ^ k), Int.ediv_ediv_of_nonneg (by omega)]
theorem mod_split (n M : Int) : n % (256 * M) = 256 * (n / 256 % M) + n % 256 := by
  rw [Int.emod_def n (256 * M), Int.emod_def (n / 256), Int.emod_def n 256, ← Int.ediv_ediv_of_nonneg (by omega : (0 : Int) ≤ 256), Int.mul_sub, Int.mul_assoc]
  omega
theorem be_mod : ∀ k n, be k (n % 256 ^ k) = be k n
  | 0, _ => rfl
  | k + 1, n => by
    rw [be, be, Int.pow_succ, Int.mul_comm (256 ^ k) 256, mod_split]
    have h1 : (256 * (n / 256 % 256 ^ k) + n % 256) % 256 = n % 256 := by omega
    have h2 : (256 * (n / 256 % 256 ^ k) + n % 256) / 256 = n / 256 % 256 ^ k := by omega
    rw [h1, h2, be_mod k]
theorem be_range : ∀ k n, ∀ x ∈ be k n, 0 ≤ x ∧ x < 256
  | 0, _, _, h => by simp [be] at h
  | k + 1, n, x, h => by
    simp only [be, List.mem_append, List.mem_singleton] at h
    rcases h with h | h
    · exact be_range k _ x h
    · subst h; omega
/-- the number of bytes -/
def val (l : List Int) : Int := l.foldl (fun a x => 256 * a + x) 0
theorem val_snoc (l : List Int) (x : Int) : val (l ++ [x]) = 256 * val l + x := by simp [val]
theorem val_be : ∀ k n, val (be k n) = n % 256 ^ k
  | 0, n => by simp [be, val, Int.emod_one]
  | k + 1, n => by
    rw [be, val_snoc, val_be k, Int.pow_succ, Int.mul_comm (256 ^ k) 256, mod_split]
/-- bytes -/
def rng (l : List Int) : Prop := ∀ x ∈ l, 0 ≤ x ∧ x < 256
theorem val_bound : ∀ (k : Nat) (l : List Int), l.length = k → rng l → 0 ≤ val l ∧ val l < 256 ^ k
  | 0, l, h, _ => by
    obtain rfl : l = [] := List.eq_nil_of_length_eq_zero h
    simp [val]
  | k + 1, l, h, hr => by
    obtain ⟨m, x, rfl⟩ : ∃ m x, l = m ++ [x] := ⟨l.dropLast, l.getLast (by intro e; simp [e] at h), (List.dropLast_concat_getLast _).symm⟩
    have hx := hr x (by simp)
    obtain ⟨h1, h2⟩ := val_bound k m (by simpa using h) (fun y hy => hr y (by simp [hy]))
    rw [val_snoc, Int.pow_succ]
    omega
theorem be_val : ∀ (k : Nat) (l : List Int), l.length = k → rng l → be k (val l) = l
  | 0, l, h, _ => by
    obtain rfl : l = [] := List.eq_nil_of_length_eq_zero h
    rfl
  | k + 1, l, h, hr => by
    obtain ⟨m, x, rfl⟩ : ∃ m x, l = m ++ [x] := ⟨l.dropLast, l.getLast (by intro e; simp [e] at h), (List.dropLast_concat_getLast _).symm⟩
    have hx := hr x (by simp)
    have hm := be_val k m (by simpa using h) (fun y hy => hr y (by simp [hy]))
    rw [val_snoc, be, show (256 * val m + x) / 256 = val m by omega, show (256 * val m + x) % 256 = x by omega, hm]
theorem val_zeros (l : List Int) : val ([0, 0, 0, 0] ++ l) = val l := by simp [val]

/-- a piece's bytes -/
def pc (l : List Int) : List Int := be 4 l.length ++ l
/-- pieces' bytes -/
def join (ls : List (List Int)) : List Int := ls.flatMap pc
theorem join_nil : join [] = [] := rfl
theorem join_cons (p : List Int) (ls : List (List Int)) : join (p :: ls) = be 4 p.length ++ (p ++ join ls) := by simp [join, pc]
theorem join_append (a b : List (List Int)) : join (a ++ b) = join a ++ join b := by simp [join]
theorem join_snoc (a : List (List Int)) (p : List Int) : join (a ++ [p]) = join a ++ be 4 p.length ++ p := by simp [join, pc]
/-- pieces that are not too long for their lengths -/
def small (ls : List (List Int)) : Prop := ∀ l ∈ ls, l.length < 4294967296
theorem be4_inj {a b : Nat} (ha : a < 4294967296) (hb : b < 4294967296) (h : be 4 (a : Int) = be 4 (b : Int)) : a = b := by
  have := congrArg val h
  rw [val_be, val_be] at this
  omega
/-- pieces that begin with the bytes of others begin with these -/
theorem join_cancel : ∀ (ds ps : List (List Int)) (r : List Int), small ds → small ps → join ps = join ds ++ r → ∃ qs, ps = ds ++ qs ∧ join qs = r
  | [], ps, r, _, _, h => ⟨ps, rfl, by simpa [join_nil] using h⟩
  | d :: ds, ps, r, hd, hp, h => by
    rcases ps with _ | ⟨p, ps⟩
    · have := congrArg List.length h
      simp [join_cons, join_nil, be_length] at this
      omega
    · rw [join_cons, join_cons, List.append_assoc] at h
      obtain ⟨h1, h2⟩ := List.append_inj h (by rw [be_length, be_length])
      have hl := be4_inj (hp p (by simp)) (hd d (by simp)) h1
      rw [List.append_assoc] at h2
      obtain ⟨h3, h4⟩ := List.append_inj h2 hl
      obtain ⟨qs, rfl, hq⟩ := join_cancel ds ps r (fun l hl => hd l (by simp [hl])) (fun l hl => hp l (by simp [hl])) h4
      exact ⟨qs, by rw [h3]; rfl, hq⟩
theorem join_inj {a b : List (List Int)} (ha : small a) (hb : small b) (h : join a = join b) : a = b := by
  obtain ⟨qs, rfl, hq⟩ := join_cancel b a [] hb ha (by simpa using h)
  rcases qs with _ | ⟨q, qs⟩
  · simp
  · have := congrArg List.length hq
    simp [join_cons, be_length] at this
/-- bytes that begin with a whole piece -/
theorem join_whole {ps : List (List Int)} {r : List Int} (hs : small ps) (h : join ps = r) (hr : r ≠ []) : 4 ≤ r.length ∧ val (r.take 4) ≤ (r.length - 4 : Nat) := by
  rcases ps with _ | ⟨p, ps⟩
  · exact absurd h.symm hr
  · have hp := hs p (by simp)
    subst h
    have hl : (join (p :: ps)).length = 4 + (p.length + (join ps).length) := by simp [join_cons, be_length]
    refine ⟨by omega, ?_⟩
    rw [hl, join_cons, List.take_left' (be_length _ _), val_be]
    omega
/-- a piece is taken off -/
theorem join_take (r : List Int) (n : Nat) (hr : rng r) (h4 : 4 ≤ r.length) (hv : val (r.take 4) = n) (_hn : n ≤ r.length - 4) : be 4 (n : Int) ++ ((r.drop 4).take n ++ (r.drop 4).drop n) = r := by
  rw [List.take_append_drop, ← hv, be_val 4 (r.take 4) (by simp; omega) (fun x hx => hr x (List.mem_of_mem_take hx)), List.take_append_drop]
theorem rng_append {a b : List Int} : rng (a ++ b) ↔ rng a ∧ rng b := by
  constructor
  · exact fun h => ⟨fun x hx => h x (by simp [hx]), fun x hx => h x (by simp [hx])⟩
  · rintro ⟨h1, h2⟩ x hx
    rcases List.mem_append.1 hx with h | h
    · exact h1 x h
    · exact h2 x h
theorem rng_join {ls : List (List Int)} (h : ∀ l ∈ ls, rng l) : rng (join ls) := by
  intro x hx
  simp only [join, List.mem_flatMap, pc, List.mem_append] at hx
  obtain ⟨l, hl, h1 | h1⟩ := hx
  · exact be_range _ _ x h1
  · exact h l hl x h1
theorem rng_drop {l : List Int} (h : rng l) (k : Nat) : rng (l.drop k) := fun x hx => h x (List.mem_of_mem_drop hx)
theorem rng_take {l : List Int} (h : rng l) (k : Nat) : rng (l.take k) := fun x hx => h x (List.mem_of_mem_take hx)
/-- a word of which k bytes are written, from the end on -/
def wk (n : Int) (k : Nat) : List Int := List.replicate (8 - k) 0 ++ be k n
theorem wk_length (n : Int) (k : Nat) (h : k ≤ 8) : (wk n k).length = 8 := by simp [wk, be_length]; omega
theorem wk_set (n : Int) (k : Nat) (h : k < 8) : (wk n k).set (7 - k) (n / 256 ^ k % 256) = wk n (k + 1) := by
  unfold wk
  rw [be_cons, show 8 - k = (7 - k) + 1 by omega, show 8 - (k + 1) = 7 - k by omega, List.replicate_succ', List.append_assoc, List.set_append_right _ _ (by simp)]
  simp
theorem wk_all (n : Int) : wk n 8 = be 8 n := rfl
theorem be_drop (n : Int) : (be 8 n).drop 4 = be 4 n := by
  rw [be_cons, be_cons, be_cons, be_cons]
  rfl
end

section
open Go.ChangeShapes Go.WideShapes Go.ChangeAt Go.RowKit

theorem gen_world {Q : World → Prop} (w2 : World) (P : World → Prop) (h : P w2) (k : ∀ w, P w → Q w) : Q w2 := k w2 h
/-- a row of bytes -/
def rowB (l : List Int) : Array Value := (l.map (Value.int .u8)).toArray
theorem rowB_size (l : List Int) : (rowB l).size = l.length := by simp [rowB]
theorem rowB_get (l : List Int) (i : Nat) (h : i < l.length) : (rowB l)[i]? = some (.int .u8 (l.getD i 0)) := by
  simp [rowB, h, List.getD]
theorem rowB_set (l : List Int) (i : Nat) (x : Int) : (rowB l).setIfInBounds i (.int .u8 x) = rowB (l.set i x) := by
  apply Array.ext'
  simp [rowB]
theorem rowB_one (l : List Int) : (rowB l).all (·.oneCell') = true := by
  simp [rowB, Value.oneCell']
theorem rowB_list (l : List Int) : (rowB l).toList = l.map (Value.int .u8) := by simp [rowB]
theorem map_one (l : List Int) : ∀ v ∈ l.map (Value.int .u8), v.oneCell' = true := by
  intro v hv
  obtain ⟨x, _, rfl⟩ := List.mem_map.1 hv
  rfl
/-- n noughts -/
def zs (n : Nat) : List Int := List.replicate n 0
theorem below_setRow {B : Nat} {a w : World} (h : Below B a w) {g : Nat} (hg : B ≤ g) (cs : Array Value) : Below B a (w.setRow g cs) :=
  h.trans ⟨rfl, rfl, rfl, by simp, fun k hk => setRow_other w g k cs (by omega)⟩
/-- the world while bytes are filled into a new block g: all below w's size is as it was -/
structure Fl (w : World) (g : Nat) (t : TypeId) (l : List Int) (wr : World) : Prop where
  below : Below w.heap.size w wr
  ge : w.heap.size ≤ g
  row : wr.heap[g]? = some (.cells (rowB l) t (0, 0))
theorem Fl.drew {w wr : World} {g : Nat} {t : TypeId} {l : List Int} (h : Fl w g t l wr) : Fl w g t l wr.drew := ⟨h.below.drew, h.ge, h.row⟩
theorem Fl.drewN {w wr : World} {g : Nat} {t : TypeId} {l : List Int} (h : Fl w g t l wr) (n : Nat) : Fl w g t l (wr.drewN n) :=
  ⟨⟨h.below.os, h.below.tape, h.below.output, h.below.size, h.below.block⟩, h.ge, h.row⟩
theorem Fl.put {w wr : World} {g : Nat} {t : TypeId} {l : List Int} (h : Fl w g t l wr) (i : Nat) (x : Int) : Fl w g t (l.set i x) (wr.setCell ⟨g, i, none⟩ (.int .u8 x)) := by
  refine ⟨h.below.setCell h.ge _, h.ge, ?_⟩
  rw [heap_setCell_same _ _ _ _ _ _ h.row, rowB_set]
theorem Fl.cell {w wr : World} {g : Nat} {t : TypeId} {l : List Int} (h : Fl w g t l wr) (i : Nat) (hi : i < l.length) : wr.cell? ⟨g, i, none⟩ = some (.int .u8 (l.getD i 0)) := by
  rw [cell_of_row _ _ _ _ _ _ h.row, rowB_get _ _ hi]
theorem Fl.free {w wr : World} {g : Nat} {t : TypeId} {l : List Int} (h : Fl w g t l wr) (i : Nat) : wr.frozen? ⟨g, i, none⟩ = false := frozen_of_row _ _ _ _ _ h.row
/-- two new blocks: the answer's (at w's size), and g behind it -/
structure Two (w : World) (t : TypeId) (z : List Int) (l : List Int) (t' : TypeId) (wr : World) : Prop where
  fl : Fl w (w.heap.size + 1) t' l wr
  res : wr.heap[w.heap.size]? = some (.cells (rowB z) t (0, 0))
theorem Two.start (w : World) (t t' : TypeId) (z l : List Int) (X Y : Array Value) (hX : X = rowB z) (hY : Y = rowB l) : Two w t z l t' ((w.alloc (.cells X t)).alloc (.cells Y t')) := by
  subst hX hY
  exact ⟨⟨((Below.refl _ _).alloc (Nat.le_refl _) _).alloc (by simp) _, by omega, heap_alloc2_new _ _ _⟩, heap_alloc2_old _ _ _⟩
theorem Two.put {w wr : World} {t t' : TypeId} {z l : List Int} (h : Two w t z l t' wr) (i : Nat) (x : Int) : Two w t z (l.set i x) t' (wr.setCell ⟨w.heap.size + 1, i, none⟩ (.int .u8 x)) :=
  ⟨h.fl.put i x, by rw [heap_setCell_other _ _ _ _ (by simp)]; exact h.res⟩

/-- the values of xs lie at c from o on -/
def Lies (w : World) (c o : Nat) (xs : List Value) : Prop := ∀ i v, xs[i]? = some v → w.cell? ⟨c, o + i, none⟩ = some v
theorem add_plain (c o i : Nat) : (⟨c, o, none⟩ : Addr).add i = ⟨c, o + i, none⟩ := by unfold Addr.add; split <;> simp_all
theorem Lies.drop {w : World} {c o : Nat} {l : List Value} (h : Lies w c o l) (k : Nat) : Lies w c (o + k) (l.drop k) := by
  intro i v hv
  rw [List.getElem?_drop] at hv
  have := h _ v hv
  rwa [← Nat.add_assoc] at this
theorem Lies.take {w : World} {c o : Nat} {l : List Value} (h : Lies w c o l) (k : Nat) : Lies w c o (l.take k) := by
  intro i v hv
  rw [List.getElem?_take] at hv
  split at hv
  · exact h i v hv
  · cases hv
theorem Lies.lt {w : World} {c o : Nat} {l : List Value} (h : Lies w c o l) (h0 : 0 < l.length) : c < w.heap.size :=
  block_lt_of_cell (h 0 _ (List.getElem?_eq_getElem h0))
theorem Lies.src {w : World} {c o : Nat} {l : List Value} (h : Lies w c o l) : ∀ j v, l[j]? = some v → w.cell? ((⟨c, o, none⟩ : Addr).add j) = some v := by
  intro j v hv
  rw [add_plain]
  exact h j v hv

/-- a slice that reads as the values xs (nil: none) -/
structure Sl (w : World) (sp : Option Addr) (cap : Nat) (xs : List Value) : Prop where
  le : xs.length ≤ cap
  max : cap ≤ maxLen
  nul : sp = none → cap = 0
  lies : 0 < xs.length → ∃ c o, sp = some ⟨c, o, none⟩ ∧ Lies w c o xs
section
variable {w w' : World} {sp : Option Addr} {cap : Nat} {xs : List Value}
theorem Sl.nil (w : World) : Sl w none 0 [] := ⟨Nat.le_refl _, by unfold maxLen; omega, fun _ => rfl, fun h => absurd h (by simp)⟩
theorem Sl.kept (h : Sl w sp cap xs) (hk : ∀ a v, w.cell? a = some v → w'.cell? a = some v) : Sl w' sp cap xs :=
  ⟨h.le, h.max, h.nul, fun h0 => by
    obtain ⟨c, o, e, hl⟩ := h.lies h0
    exact ⟨c, o, e, fun i v hv => hk _ _ (hl i v hv)⟩⟩
theorem Sl.below (h : Sl w sp cap xs) {B : Nat} (hB : w.heap.size ≤ B) (hb : Below B w w') : Sl w' sp cap xs :=
  h.kept fun _ _ hc => (hb.cell (Nat.lt_of_lt_of_le (block_lt_of_cell hc) hB)).trans hc
theorem Sl.drewN (h : Sl w sp cap xs) (n : Nat) : Sl (w.drewN n) sp cap xs := h.kept fun _ _ hc => hc
theorem Sl.drew (h : Sl w sp cap xs) : Sl w.drew sp cap xs := h.kept fun _ _ hc => hc
/-- what lies below B stays, whatever is written from B on -/
theorem Sl.under (h : Sl w sp cap xs) {B : Nat} (hs : ∀ c o, sp = some ⟨c, o, none⟩ → 0 < xs.length → c < B) (hb : Below B w w') : Sl w' sp cap xs :=
  ⟨h.le, h.max, h.nul, fun h0 => by
    obtain ⟨c, o, e, hl⟩ := h.lies h0
    exact ⟨c, o, e, fun i v hv => (hb.cell (p := ⟨c, o + i, none⟩) (hs c o e h0)).trans (hl i v hv)⟩⟩
/-- the address behind k cells -/
def cutA (sp : Option Addr) (cap k : Nat) : Option Addr := if cap = k then sp else sp.map (·.add k)
theorem Sl.cut (h : Sl w sp cap xs) (k : Nat) (hk : k ≤ xs.length) : Sl w (cutA sp cap k) (cap - k) (xs.drop k) := by
  have hle := h.le
  refine ⟨by simp; omega, by have := h.max; omega, fun e => ?_, fun h0 => ?_⟩
  · unfold cutA at e
    split at e
    · omega
    · rcases sp with _ | a
      · have := h.nul rfl; omega
      · cases e
  · simp at h0
    obtain ⟨c, o, rfl, hl⟩ := h.lies (by omega)
    refine ⟨c, o + k, ?_, hl.drop k⟩
    unfold cutA
    rw [if_neg (by omega), Option.map_some, add_plain]
theorem Sl.first (h : Sl w sp cap xs) (k : Nat) : Sl w sp cap (xs.take k) := by
  have hle := h.le
  refine ⟨by simp; omega, h.max, h.nul, fun h0 => ?_⟩
  simp at h0
  obtain ⟨c, o, rfl, hl⟩ := h.lies (by omega)
  exact ⟨c, o, rfl, hl.take k⟩
theorem Sl.len (h : Sl w sp cap xs) : xs.length ≤ 9223372036854775807 := by have h1 := h.le; have h2 := h.max; unfold maxLen at h2; omega
end
/-- a slice that reads as the bytes l -/
structure Bytes (w : World) (sp : Option Addr) (cap : Nat) (l : List Int) : Prop where
  sl : Sl w sp cap (l.map (Value.int .u8))
  rng : rng l
/-- a slice that reads as numbers -/
def Nums (w : World) (sp : Option Addr) (cap : Nat) (l : List Int) : Prop := Sl w sp cap (l.map (Value.int .i64))
/-- the value of one piece -/
def PcVal (w : World) (v : Value) (l : List Int) : Prop := ∃ sp cap, v = .slice sp l.length cap ∧ Bytes w sp cap l
/-- a slice that reads as pieces -/
structure Pieces (w : World) (sp : Option Addr) (cap : Nat) (ls : List (List Int)) : Prop where
  ex : ∃ vs : List Value, vs.length = ls.length ∧ Sl w sp cap vs ∧ ∀ i v, vs[i]? = some v → PcVal w v (ls.getD i [])
section
variable {w w' : World} {sp : Option Addr} {cap : Nat}
theorem Bytes.below {l : List Int} (h : Bytes w sp cap l) (hb : Below w.heap.size w w') : Bytes w' sp cap l := ⟨h.sl.below (Nat.le_refl _) hb, h.rng⟩
theorem PcVal.below {v : Value} {l : List Int} (h : PcVal w v l) (hb : Below w.heap.size w w') : PcVal w' v l := by
  obtain ⟨sp, cap, e, hs⟩ := h
  exact ⟨sp, cap, e, hs.below hb⟩
theorem Pieces.below {ls : List (List Int)} (h : Pieces w sp cap ls) (hb : Below w.heap.size w w') : Pieces w' sp cap ls := by
  obtain ⟨vs, h1, h2, h3⟩ := h.ex
  exact ⟨vs, h1, h2.below (Nat.le_refl _) hb, fun i v hv => (h3 i v hv).below hb⟩
theorem Bytes.drewN {l : List Int} (h : Bytes w sp cap l) (n : Nat) : Bytes (w.drewN n) sp cap l := ⟨h.sl.drewN n, h.rng⟩
theorem Bytes.drew {l : List Int} (h : Bytes w sp cap l) : Bytes w.drew sp cap l := ⟨h.sl.drew, h.rng⟩
/-- one piece -/
theorem Pieces.at_ {ls : List (List Int)} (h : Pieces w sp cap ls) (k : Nat) (hk : k < ls.length) : ∃ c o s2 c2, sp = some ⟨c, o, none⟩ ∧ w.cell? ⟨c, o + k, none⟩ = some (.slice s2 (ls.getD k []).length c2) ∧ Bytes w s2 c2 (ls.getD k []) := by
  obtain ⟨vs, h1, h2, h3⟩ := h.ex
  obtain ⟨c, o, rfl, hl⟩ := h2.lies (by omega)
  have hv : vs[k]? = some vs[k] := List.getElem?_eq_getElem (by omega)
  obtain ⟨s2, c2, e, hb⟩ := h3 k _ hv
  have := hl k _ hv
  rw [e] at this
  exact ⟨c, o, s2, c2, rfl, this, hb⟩
theorem Bytes.at_ {l : List Int} (h : Bytes w sp cap l) (k : Nat) (hk : k < l.length) : ∃ c o, sp = some ⟨c, o, none⟩ ∧ w.cell? ⟨c, o + k, none⟩ = some (.int .u8 (l.getD k 0)) := by
  obtain ⟨c, o, rfl, hl⟩ := h.sl.lies (by simp; omega)
  exact ⟨c, o, rfl, hl k _ (by simp [hk])⟩
theorem Nums.at_ {l : List Int} (h : Nums w sp cap l) (k : Nat) (hk : k < l.length) : ∃ c o, sp = some ⟨c, o, none⟩ ∧ w.cell? ⟨c, o + k, none⟩ = some (.int .i64 (l.getD k 0)) := by
  obtain ⟨c, o, rfl, hl⟩ := h.lies (by simp; omega)
  exact ⟨c, o, rfl, hl k _ (by simp [hk])⟩
theorem Bytes.cut {l : List Int} (h : Bytes w sp cap l) (k : Nat) (hk : k ≤ l.length) : Bytes w (cutA sp cap k) (cap - k) (l.drop k) :=
  ⟨by have := h.sl.cut k (by simpa using hk); rwa [← List.map_drop] at this, rng_drop h.rng k⟩
theorem Bytes.len {l : List Int} (h : Bytes w sp cap l) : l.length ≤ 9223372036854775807 := by have := h.sl.len; simpa using this
theorem Bytes.le {l : List Int} (h : Bytes w sp cap l) : l.length ≤ cap := by have := h.sl.le; simpa using this
theorem Pieces.len {ls : List (List Int)} (h : Pieces w sp cap ls) : ls.length ≤ 9223372036854775807 := by
  obtain ⟨vs, h1, h2, h3⟩ := h.ex
  rw [← h1]; exact h2.len
end
theorem below_drewN {B : Nat} {a w : World} (h : Below B a w) (n : Nat) : Below B a (w.drewN n) := ⟨h.os, h.tape, h.output, h.size, h.block⟩
theorem Below.ofGrown {B : Nat} {w w' : World} {row : Option Nat} (hg : w.grownBy w' row) (hB : B ≤ w.heap.size) (hr : ∀ k, row = some k → B ≤ k) : Below B w w' :=
  ⟨hg.os, hg.tape, hg.output, hg.size, fun k hk => hg.block k (by omega) (fun e => by have := hr _ e.symm; omega)⟩
theorem info5 : (Tryd.prog.info? 5).map (fun i => (i.zero, i.size, i.bytes)) = some (some (.int .u8 0), 1, 1) := by kernel_rfl
theorem infoSl : (Tryd.prog.info? 38).map (fun i => (i.zero, i.size, i.bytes)) = some (some (.slice none 0 0), 1, 24) := by kernel_rfl
theorem info3 : (Tryd.prog.info? 3).map (fun i => (i.zero, i.size, i.bytes)) = some (some (.int .i64 0), 1, 8) := by kernel_rfl
theorem size5 : (Tryd.prog.info? 5).map (·.size) = some 1 := by kernel_rfl
theorem sizeWd : (Tryd.prog.info? 71).map (·.size) = some 8 := by kernel_rfl
end

section
open Go.ChangeShapes Go.WideShapes Go.ChangeAt Go.RowKit

theorem Sl.all1 {w : World} {base e n : Nat} {v : Value} {xs : List Value} (h : w.ownsRow base e 1 v n xs) : ∃ sp cap, v = .slice sp n cap ∧ xs.length = n ∧ Sl w sp cap xs ∧ (∀ c o, sp = some ⟨c, o, none⟩ → base ≤ c) := by
  have hl : xs.length = n := by have := h.1; simpa using this
  rcases h.2 with ⟨rfl, rfl⟩ | ⟨g, cap, cur, rfl, hbg, hg, hnc, hcm, _, htake⟩
  · obtain rfl : xs = [] := List.eq_nil_of_length_eq_zero hl
    exact ⟨none, 0, rfl, rfl, Sl.nil w, fun _ _ h => by cases h⟩
  · refine ⟨_, cap, rfl, hl, ⟨by omega, hcm, (fun h => by cases h), fun _ => ⟨g, 0, rfl, fun i v hv => ?_⟩⟩, fun c o h => by cases h; exact hbg⟩
    have := h.cells (g := g) rfl i v hv
    rwa [add_plain] at this
section
variable {w : World} {ops : Array Oper} {rest : List Oper} {o : Oper} {a : Act} {Q : Exit → Act → World → Prop}
/-- append of what lies in a slice to a row of the call's own -/
theorem wpList_append_sl (t e : TypeId) (by_ : Nat) (z : Value) (hu : Tryd.prog.underlying t = some (.slice e)) (hinf : (Tryd.prog.info? e).map (fun i => (i.zero, i.size, i.bytes)) = some (some z, 1, by_)) (hzc : z.cells.size = 1) (hby : by_ ≤ 100)
    (hgd : o.guard = none) (s x : Operand)
    (ho : o.op = .call { callee := .builtin .append, args := #[s, x], argTypes := #[t, t] }) (base : Nat) (v : Value) (n m : Nat) (xs ys : List Value) (hs : a.eval s = v) (hown : w.ownsRow base e 1 v n xs)
    (sp : Option Addr) (cap : Nat) (hx : a.eval x = .slice sp m cap) (hm : ys.length = m) (hb : Sl w sp cap ys) (h1 : ∀ v ∈ ys, v.oneCell' = true) (hn : n + m ≤ 1000000) (hbase : base ≤ w.heap.size)
    (h : ∀ v' w', w'.ownsRow base e 1 v' (n + m) (xs ++ ys) → w.grownBy w' v.ownBlock → wpList Tryd.prog ops Q rest (a.put o.dst v') w') : wpList Tryd.prog ops Q (o :: rest) a w := by
  subst hm
  obtain ⟨i0, hi, hz0, hz1, hz2⟩ := info_parts hinf
  rcases sp with _ | ad
  · obtain rfl := hb.nul rfl
    have h0 : ys = [] := List.eq_nil_of_length_eq_zero (by have := hb.le; omega)
    subst h0
    refine wpList_append_own_none hgd s x t ho base e i0 1 hu hi v n _ hs hown hx ?_
    exact h v w (by simpa using hown) ⟨rfl, rfl, rfl, Nat.le_refl _, fun _ _ _ => rfl⟩
  · have hcells : ∀ j u, ys[j]? = some u → w.cell? (ad.add j) = some u := by
      intro j u hu
      have hj : 0 < ys.length := by
        by_cases h0 : 0 < ys.length
        · exact h0
        · have : ys = [] := List.eq_nil_of_length_eq_zero (by omega)
          subst this
          simp at hu
      obtain ⟨c, o', e, hl⟩ := hb.lies hj
      cases e
      exact hl.src j u hu
    obtain ⟨v', w', hrun, hown', hg, _⟩ := run_append_own (P := Tryd.prog) w base t o.type e i0 z 1 by_ hu hi hz0 hz1 hz2 hzc (by decide) v n _ hown ad ys.length cap ys (by simp) hcells h1
      (by unfold maxLen; omega) (Nat.le_trans (Nat.mul_le_mul hn hby) (by decide)) hbase
    refine wpList_plain hgd fun K hK => ?_
    unfold Oper.wp
    simp [execOp, ho, resolve, invoke, builtin, hs, hx, hrun, Result.andThen]
    exact hK _ _ (h v' w' hown' hg)
/-- make([]T, 0, c) -/
theorem wpList_make0 (t e : TypeId) (by_ : Nat) (z : Value) (hu : Tryd.prog.underlying t = some (.slice e)) (hinf : (Tryd.prog.info? e).map (fun i => (i.zero, i.size, i.bytes)) = some (some z, 1, by_)) (hby : by_ ≤ 100)
    (hgd : o.guard = none) (s x : Operand) (ho : o.op = .makeSlice t s x) (base c : Nat) (hs : a.eval s = .int .i64 0) (hx : a.eval x = .int .i64 (c : Int)) (hc : c ≤ 1000000) (hbase : base ≤ w.heap.size)
    (h : ∀ w', w'.ownsRow base e 1 (.slice (some ⟨w.heap.size, 0, none⟩) 0 c) 0 [] → w.grownBy w' none → wpList Tryd.prog ops Q rest (a.put o.dst (.slice (some ⟨w.heap.size, 0, none⟩) 0 c)) w') : wpList Tryd.prog ops Q (o :: rest) a w := by
  obtain ⟨i0, hi, hz0, hz1, hz2⟩ := info_parts hinf
  obtain ⟨w', hrun, hown, hg⟩ := run_makeSlice_owned (P := Tryd.prog) w base t e i0 z 1 hu hi hz0 hz1 .i64 .i64 c (by omega) (by rw [hz2]; exact Nat.le_trans (Nat.mul_le_mul hby hc) (by decide)) (by unfold maxLen; omega) hbase
  refine wpList_plain hgd fun K hK => ?_
  unfold Oper.wp
  simp [execOp, ho, hs, hx, hrun, Result.andThen]
  exact hK _ _ (h w' hown hg)
end
theorem owns_below {w w' : World} {base e n : Nat} {v : Value} {xs : List Value} (h : w.ownsRow base e 1 v n xs) (hb : Below w.heap.size w w') : w'.ownsRow base e 1 v n xs :=
  h.kept (row := none) ⟨hb.os, hb.tape, hb.output, hb.size, fun k hk _ => hb.block k hk⟩ (by cases v.ownBlock <;> simp)
end

section
open Go.ChangeShapes Go.WideShapes Go.ChangeAt Go.RowKit
variable {w : World} {ops : Array Oper} {rest : List Oper} {o : Oper} {a : Act} {Q : Exit → Act → World → Prop}
/-- make([]T, n) -/
theorem wpList_makeN (t e : TypeId) (by_ : Nat) (z : Value) (hu : Tryd.prog.underlying t = some (.slice e)) (hinf : (Tryd.prog.info? e).map (fun i => (i.zero, i.size, i.bytes)) = some (some z, 1, by_)) (hby : by_ ≤ 100)
    (hgd : o.guard = none) (s x : Operand) (ho : o.op = .makeSlice t s x) (c : Nat) (hs : a.eval s = .int .i64 (c : Int)) (hx : a.eval x = .int .i64 (c : Int)) (hc : c ≤ 1000000)
    (h : wpList Tryd.prog ops Q rest (a.put o.dst (.slice (some ⟨w.heap.size, 0, none⟩) c c)) (w.alloc (.cells (madeCells z.cells c) e))) : wpList Tryd.prog ops Q (o :: rest) a w := by
  obtain ⟨i0, hi, hz0, hz1, hz2⟩ := info_parts hinf
  have hb : (i0.bytes : Int) * (c : Int) ≤ 281474976710656 := by
    have h1 : i0.bytes * c ≤ 100 * 1000000 := Nat.mul_le_mul (by omega) hc
    have h2 : ((i0.bytes * c : Nat) : Int) ≤ 100000000 := by omega
    rw [Int.natCast_mul] at h2
    omega
  have hrun := run_makeSlice (P := Tryd.prog) w t e i0 z hu hi hz0 .i64 .i64 (c : Int) (c : Int) (by omega) (by omega) (by rw [hz1]; simp; omega) hb (by omega)
  rw [hz1] at hrun
  simp only [Int.toNat_natCast, Nat.mul_one] at hrun
  refine wpList_plain hgd fun K hK => ?_
  unfold Oper.wp
  simp [execOp, ho, hs, hx, hrun, Result.andThen]
  exact hK _ _ h
end

section
open Go.ChangeShapes Go.WideShapes Go.ChangeAt Go.RowKit
/-- a new block that holds bytes -/
theorem Bytes.new (w : World) (l : List Int) (cs : Array Value) (t : TypeId) (fr : Nat × Nat) (hc : cs = rowB l) (hr : Cd.rng l) (hl : l.length ≤ 1000000) : Bytes (w.alloc (.cells cs t fr)) (some ⟨w.heap.size, 0, none⟩) l.length l := by
  subst hc
  refine ⟨⟨by simp, by unfold maxLen; omega, (fun h => by cases h), fun _ => ⟨_, _, rfl, fun i v hv => ?_⟩⟩, hr⟩
  rw [cell_of_row _ _ _ _ _ _ (heap_alloc_new _ _), ← hv]
  simp [rowB]
theorem Sl.new (w : World) (l : List Value) (cs : Array Value) (t : TypeId) (fr : Nat × Nat) (hc : cs = l.toArray) (hl : l.length ≤ 1000000) : Sl (w.alloc (.cells cs t fr)) (some ⟨w.heap.size, 0, none⟩) l.length l := by
  subst hc
  refine ⟨by simp, by unfold maxLen; omega, (fun h => by cases h), fun _ => ⟨_, _, rfl, fun i v hv => ?_⟩⟩
  rw [cell_of_row _ _ _ _ _ _ (heap_alloc_new _ _), ← hv]
  simp
theorem size_alloc' (w : World) (o : Obj) : (w.alloc o).heap.size = w.heap.size + 1 := by simp
end

section
open Go.ChangeShapes Go.WideShapes Go.ChangeAt Go.RowKit
theorem pow8 (k : Nat) : (2 : Int) ^ (8 * k) = 256 ^ k := by rw [Int.pow_mul]; rfl
theorem results_cell_row {P : Program} {fn : Func} {p : Tmp} {ty : TypeId} (h : fn.results = #[.cell p ty]) (tmps : Array Value) (w : World) (g : Nat) (t : TypeId) (cs : Array Value) (fr : Nat × Nat) (d : TypeDesc)
    (hp : tmps.getD p undef = .pointer (some ⟨g, 0, none⟩)) (hg : w.heap[g]? = some (.cells cs t fr))
    (hu : P.underlying ty = some d) (hd : (match d with | .struct _ | .array _ _ => true | _ => false) = true) (hi : (P.info? ty).map (·.size) = some cs.size) :
    (results fn tmps).run P w = .ok (.agg cs) w := by
  have hp' : tmps[p]?.getD undef = .pointer (some ⟨g, 0, none⟩) := by simpa using hp
  simp [results, h, hp', asAddr, run_loadVar_row w g t ty cs fr d hg hu hd hi]
end

section
open Go.ChangeShapes Go.WideShapes Go.ChangeAt Go.RowKit
theorem take_snocI (l : List Int) (k : Nat) (h : k < l.length) : l.take (k + 1) = l.take k ++ [l.getD k 0] := by
  have e : l.getD k 0 = l[k] := by simp [h]
  rw [e, List.take_succ_eq_append_getElem h]
/-- the lists answer whether they are the same, and nothing is written -/
def Told (b : Bool) (w : World) (e : Ending) (w' : World) : Prop := e = .returned (.bool b) ∧ ∃ n, w' = w.drewN n
theorem Told.below {b : Bool} {w w' : World} {e : Ending} (h : Told b w e w') : e = .returned (.bool b) ∧ Below w.heap.size w w' := by
  obtain ⟨h1, n, rfl⟩ := h
  exact ⟨h1, below_drewN (Below.refl _ _) n⟩
end

section
open Go.ChangeShapes Go.WideShapes Go.ChangeAt Go.RowKit
theorem tm_same (x : Int) (h : 0 ≤ x ∨ x % 256 = 0) : x.tmod 256 = x % 256 ∧ x.tdiv 256 = x / 256 := by
  rw [Int.tmod_eq_emod, Int.tdiv_eq_ediv]
  rw [if_pos (by rcases h with h | h; exact Or.inl h; exact Or.inr (Int.dvd_of_emod_eq_zero h)), if_pos (by rcases h with h | h; exact Or.inl h; exact Or.inr (Int.dvd_of_emod_eq_zero h))]
  simp
theorem tm_less (x : Int) (h : ¬ (0 ≤ x ∨ x % 256 = 0)) : x.tmod 256 = x % 256 - 256 ∧ x.tdiv 256 = x / 256 + 1 := by
  have hn : ¬ (0 ≤ x ∨ (256 : Int) ∣ x) := fun e => h (by rcases e with e | e; exact Or.inl e; exact Or.inr (Int.emod_eq_zero_of_dvd e))
  rw [Int.tmod_eq_emod, Int.tdiv_eq_ediv, if_neg hn, if_neg hn]
  simp
theorem div_in (n M : Int) (hM : 1 ≤ M) (h1 : -9223372036854775808 ≤ n) (h2 : n ≤ 9223372036854775807) : -9223372036854775808 ≤ n / M ∧ n / M ≤ 9223372036854775807 := by
  by_cases h : 0 ≤ n
  · have a := Int.ediv_nonneg h (show 0 ≤ M by omega)
    have b := Int.ediv_le_self M h
    omega
  · have a : n ≤ n / M := Int.le_ediv_of_mul_le (by omega) (by
      have := Int.mul_le_mul_of_nonpos_left (a := n) (b := M) (c := 1) (by omega) hM
      omega)
    have b : n / M < 0 := Int.ediv_neg_of_neg_of_pos (by omega) (by omega)
    omega
theorem made_bytes (q : Nat) : madeCells #[Value.int .u8 0] q = rowB (List.replicate q 0) := by
  apply Array.ext
  · simp [madeCells, rowB]
  · intro i h1 h2
    simp [madeCells, rowB, Nat.mod_one]
end

section
open Go.ChangeShapes Go.WideShapes Go.ChangeAt Go.RowKit
/-- numbers' bytes -/
def nums (l : List Int) : List Int := l.flatMap (be 8)
theorem nums_length : ∀ l, (nums l).length = 8 * l.length
  | [] => rfl
  | x :: l => by
    have := nums_length l
    simp only [nums, List.flatMap_cons, List.length_append, be_length, List.length_cons] at this ⊢
    omega
theorem nums_snoc (l : List Int) (x : Int) : nums (l ++ [x]) = nums l ++ be 8 x := by simp [nums]
theorem rng_nums (l : List Int) : rng (nums l) := by
  intro x hx
  obtain ⟨n, _, h⟩ := List.mem_flatMap.1 hx
  exact be_range 8 n x h
end

end Go.Proofs.YtpaffncdfldnmaaDoor.Cd
