import Derived.Test.YtkfkjapkcjidnaaChecked
import Derived.WalkKit
import Derived.ProofKit
import Derived.OpenShut
import Derived.WalkLawsBesides
import Derived.Lib.Hide
import Derived.Laws.CopyOwn
import Derived.StillTailTactics
import Derived.BigRegion
import Derived.BigQuiet
import Derived.Deep.QuietTactic
import Derived.Laws.AppendOwnNone
import Derived.Laws.MakeOwn
import Derived.Laws.OwnMore
import Derived.Deep.DeepCutAuto
import Derived.IntWalk
-- from Ca
namespace Go.Proofs.Ytkfkjapkcjidnaa.Cd
section
open Go.RowKit
/-- the lowest k bytes of n, the highest first -/
def be : Nat → Int → List Int
  | 0, _ => []
  | k + 1, n => be k (n / 256) ++ [n % 256]
theorem be_length : ∀ k n, (be k n).length = k
  | 0, _ => rfl
  | k + 1, n => by simp [be, be_length k]
theorem be_cons : ∀ k n, be (k + 1) n = (n / 256 ^ k % 256) :: be k n
  | 0, n => by simp [be]
  | k + 1, n => by
    rw [be, be_cons k (n / 256), be, List.cons_append]
    congr 1
    rw [Int.pow_succ, Int.mul_comm (256 ^ k), Int.ediv_ediv_of_nonneg (by omega)]
theorem mod_split (n M : Int) : n % (256 * M) = 256 * (n / 256 % M) + n % 256 := by
  rw [Int.emod_def n (256 * M), Int.emod_def (n / 256), Int.emod_def n 256, ← Int.ediv_ediv_of_nonneg (by omega : (0 : Int) ≤ 256), Int.mul_sub, Int.mul_assoc]
  omega
theorem be_mod : ∀ k n, be k (n % 256 ^ k) = be k n
  | 0, _ => rfl
  | k + 1, n => by
    rw [be, be, Int.pow_succ, Int.mul_comm (256 ^ k) 256, mod_split]
    have h1 : (256 * (n / 256 % 256 ^ k) + n % 256) % 256 = n % 256 := by omega
    have h2 : (256 * (n / 256 % 256 ^ k) + n % 256) / 256 = n / 256 % 256 ^ k := by omega
    rw [h1, h2, be_mod k]
theorem be_range : ∀ k n, ∀ x ∈ be k n, 0 ≤ x ∧ x < 256
  | 0, _, _, h => by simp [be] at h
  | k + 1, n, x, h => by
    simp only [be, List.mem_append, List.mem_singleton] at h
    rcases h with h | h
    · exact be_range k _ x h
    · subst h; omega
/-- the number of bytes -/
def val (l : List Int) : Int := l.foldl (fun a x => 256 * a + x) 0
theorem val_snoc (l : List Int) (x : Int) : val (l ++ [x]) = 256 * val l + x := by simp [val]
/-- bytes -/
def rng (l : List Int) : Prop := ∀ x ∈ l, 0 ≤ x ∧ x < 256
theorem val_bound : ∀ (k : Nat) (l : List Int), l.length = k → rng l → 0 ≤ val l ∧ val l < 256 ^ k
  | 0, l, h, _ => by
    obtain rfl : l = [] := List.eq_nil_of_length_eq_zero h
    simp [val]
  | k + 1, l, h, hr => by
    obtain ⟨m, x, rfl⟩ : ∃ m x, l = m ++ [x] := ⟨l.dropLast, l.getLast (by intro e; simp [e] at h), (List.dropLast_concat_getLast _).symm⟩
    have hx := hr x (by simp)
    obtain ⟨h1, h2⟩ := val_bound k m (by simpa using h) (fun y hy => hr y (by simp [hy]))
    rw [val_snoc, Int.pow_succ]
    omega
/-- a piece's bytes -/
def pc (l : List Int) : List Int := be 4 l.length ++ l
/-- pieces' bytes -/
def join (ls : List (List Int)) : List Int := ls.flatMap pc
theorem join_append (a b : List (List Int)) : join (a ++ b) = join a ++ join b := by simp [join]
theorem join_snoc (a : List (List Int)) (p : List Int) : join (a ++ [p]) = join a ++ be 4 p.length ++ p := by simp [join, pc]
theorem rng_join {ls : List (List Int)} (h : ∀ l ∈ ls, rng l) : rng (join ls) := by
  intro x hx
  simp only [join, List.mem_flatMap, pc, List.mem_append] at hx
  obtain ⟨l, hl, h1 | h1⟩ := hx
  · exact be_range _ _ x h1
  · exact h l hl x h1
theorem rng_drop {l : List Int} (h : rng l) (k : Nat) : rng (l.drop k) := fun x hx => h x (List.mem_of_mem_drop hx)
theorem rng_take {l : List Int} (h : rng l) (k : Nat) : rng (l.take k) := fun x hx => h x (List.mem_of_mem_take hx)
/-- a word of which k bytes are written, from the end on -/
def wk (n : Int) (k : Nat) : List Int := List.replicate (8 - k) 0 ++ be k n
theorem wk_length (n : Int) (k : Nat) (h : k ≤ 8) : (wk n k).length = 8 := by simp [wk, be_length]; omega
theorem wk_set (n : Int) (k : Nat) (h : k < 8) : (wk n k).set (7 - k) (n / 256 ^ k % 256) = wk n (k + 1) := by
  unfold wk
  rw [be_cons, show 8 - k = (7 - k) + 1 by omega, show 8 - (k + 1) = 7 - k by omega, List.replicate_succ', List.append_assoc, List.set_append_right _ _ (by simp)]
  simp
theorem wk_all (n : Int) : wk n 8 = be 8 n := rfl
theorem be_drop (n : Int) : (be 8 n).drop 4 = be 4 n := by
  rw [be_cons, be_cons, be_cons, be_cons]
  rfl
end
section
open Go.ChangeShapes Go.WideShapes Go.ChangeAt Go.RowKit
theorem gen_world {Q : World → Prop} (w2 : World) (P : World → Prop) (h : P w2) (k : ∀ w, P w → Q w) : Q w2 := k w2 h
/-- a row of bytes -/
def rowB (l : List Int) : Array Value := (l.map (Value.int .u8)).toArray
theorem rowB_size (l : List Int) : (rowB l).size = l.length := by simp [rowB]
theorem rowB_get (l : List Int) (i : Nat) (h : i < l.length) : (rowB l)[i]? = some (.int .u8 (l.getD i 0)) := by
  simp [rowB, h, List.getD]
theorem rowB_set (l : List Int) (i : Nat) (x : Int) : (rowB l).setIfInBounds i (.int .u8 x) = rowB (l.set i x) := by
  apply Array.ext'
  simp [rowB]
theorem rowB_one (l : List Int) : (rowB l).all (·.oneCell') = true := by
  simp [rowB, Value.oneCell']
theorem map_one (l : List Int) : ∀ v ∈ l.map (Value.int .u8), v.oneCell' = true := by
  intro v hv
  obtain ⟨x, _, rfl⟩ := List.mem_map.1 hv
  rfl
/-- n noughts -/
def zs (n : Nat) : List Int := List.replicate n 0
theorem below_setRow {B : Nat} {a w : World} (h : Below B a w) {g : Nat} (hg : B ≤ g) (cs : Array Value) : Below B a (w.setRow g cs) :=
  h.trans ⟨rfl, rfl, rfl, by simp, fun k hk => setRow_other w g k cs (by omega)⟩
/-- the world while bytes are filled into a new block g: all below w's size is as it was -/
structure Fl (w : World) (g : Nat) (t : TypeId) (l : List Int) (wr : World) : Prop where
  below : Below w.heap.size w wr
  ge : w.heap.size ≤ g
  row : wr.heap[g]? = some (.cells (rowB l) t (0, 0))
theorem Fl.drew {w wr : World} {g : Nat} {t : TypeId} {l : List Int} (h : Fl w g t l wr) : Fl w g t l wr.drew := ⟨h.below.drew, h.ge, h.row⟩
theorem Fl.drewN {w wr : World} {g : Nat} {t : TypeId} {l : List Int} (h : Fl w g t l wr) (n : Nat) : Fl w g t l (wr.drewN n) :=
  ⟨⟨h.below.os, h.below.tape, h.below.output, h.below.size, h.below.block⟩, h.ge, h.row⟩
theorem Fl.put {w wr : World} {g : Nat} {t : TypeId} {l : List Int} (h : Fl w g t l wr) (i : Nat) (x : Int) : Fl w g t (l.set i x) (wr.setCell ⟨g, i, none⟩ (.int .u8 x)) := by
  refine ⟨h.below.setCell h.ge _, h.ge, ?_⟩
  rw [heap_setCell_same _ _ _ _ _ _ h.row, rowB_set]
theorem Fl.cell {w wr : World} {g : Nat} {t : TypeId} {l : List Int} (h : Fl w g t l wr) (i : Nat) (hi : i < l.length) : wr.cell? ⟨g, i, none⟩ = some (.int .u8 (l.getD i 0)) := by
  rw [cell_of_row _ _ _ _ _ _ h.row, rowB_get _ _ hi]
theorem Fl.free {w wr : World} {g : Nat} {t : TypeId} {l : List Int} (h : Fl w g t l wr) (i : Nat) : wr.frozen? ⟨g, i, none⟩ = false := frozen_of_row _ _ _ _ _ h.row
/-- two new blocks: the answer's (at w's size), and g behind it -/
structure Two (w : World) (t : TypeId) (z : List Int) (l : List Int) (t' : TypeId) (wr : World) : Prop where
  fl : Fl w (w.heap.size + 1) t' l wr
  res : wr.heap[w.heap.size]? = some (.cells (rowB z) t (0, 0))
theorem Two.start (w : World) (t t' : TypeId) (z l : List Int) (X Y : Array Value) (hX : X = rowB z) (hY : Y = rowB l) : Two w t z l t' ((w.alloc (.cells X t)).alloc (.cells Y t')) := by
  subst hX hY
  exact ⟨⟨((Below.refl _ _).alloc (Nat.le_refl _) _).alloc (by simp) _, by omega, heap_alloc2_new _ _ _⟩, heap_alloc2_old _ _ _⟩
theorem Two.put {w wr : World} {t t' : TypeId} {z l : List Int} (h : Two w t z l t' wr) (i : Nat) (x : Int) : Two w t z (l.set i x) t' (wr.setCell ⟨w.heap.size + 1, i, none⟩ (.int .u8 x)) :=
  ⟨h.fl.put i x, by rw [heap_setCell_other _ _ _ _ (by simp)]; exact h.res⟩

/-- the values of xs lie at c from o on -/
def Lies (w : World) (c o : Nat) (xs : List Value) : Prop := ∀ i v, xs[i]? = some v → w.cell? ⟨c, o + i, none⟩ = some v
theorem add_plain (c o i : Nat) : (⟨c, o, none⟩ : Addr).add i = ⟨c, o + i, none⟩ := by unfold Addr.add; split <;> simp_all
theorem Lies.drop {w : World} {c o : Nat} {l : List Value} (h : Lies w c o l) (k : Nat) : Lies w c (o + k) (l.drop k) := by
  intro i v hv
  rw [List.getElem?_drop] at hv
  have := h _ v hv
  rwa [← Nat.add_assoc] at this
theorem Lies.take {w : World} {c o : Nat} {l : List Value} (h : Lies w c o l) (k : Nat) : Lies w c o (l.take k) := by
  intro i v hv
  rw [List.getElem?_take] at hv
  split at hv
  · exact h i v hv
  · cases hv
theorem Lies.lt {w : World} {c o : Nat} {l : List Value} (h : Lies w c o l) (h0 : 0 < l.length) : c < w.heap.size :=
  block_lt_of_cell (h 0 _ (List.getElem?_eq_getElem h0))
theorem Lies.src {w : World} {c o : Nat} {l : List Value} (h : Lies w c o l) : ∀ j v, l[j]? = some v → w.cell? ((⟨c, o, none⟩ : Addr).add j) = some v := by
  intro j v hv
  rw [add_plain]
  exact h j v hv

/-- a slice that reads as the values xs (nil: none) -/
structure Sl (w : World) (sp : Option Addr) (cap : Nat) (xs : List Value) : Prop where
  le : xs.length ≤ cap
  max : cap ≤ maxLen
  nul : sp = none → cap = 0
  lies : 0 < xs.length → ∃ c o, sp = some ⟨c, o, none⟩ ∧ Lies w c o xs
section
variable {w w' : World} {sp : Option Addr} {cap : Nat} {xs : List Value}
theorem Sl.nil (w : World) : Sl w none 0 [] := ⟨Nat.le_refl _, by unfold maxLen; omega, fun _ => rfl, fun h => absurd h (by simp)⟩
theorem Sl.kept (h : Sl w sp cap xs) (hk : ∀ a v, w.cell? a = some v → w'.cell? a = some v) : Sl w' sp cap xs :=
  ⟨h.le, h.max, h.nul, fun h0 => by
    obtain ⟨c, o, e, hl⟩ := h.lies h0
    exact ⟨c, o, e, fun i v hv => hk _ _ (hl i v hv)⟩⟩
theorem Sl.below (h : Sl w sp cap xs) {B : Nat} (hB : w.heap.size ≤ B) (hb : Below B w w') : Sl w' sp cap xs :=
  h.kept fun _ _ hc => (hb.cell (Nat.lt_of_lt_of_le (block_lt_of_cell hc) hB)).trans hc
theorem Sl.drewN (h : Sl w sp cap xs) (n : Nat) : Sl (w.drewN n) sp cap xs := h.kept fun _ _ hc => hc
theorem Sl.drew (h : Sl w sp cap xs) : Sl w.drew sp cap xs := h.kept fun _ _ hc => hc
/-- the address behind k cells -/
def cutA (sp : Option Addr) (cap k : Nat) : Option Addr := if cap = k then sp else sp.map (·.add k)
theorem Sl.cut (h : Sl w sp cap xs) (k : Nat) (hk : k ≤ xs.length) : Sl w (cutA sp cap k) (cap - k) (xs.drop k) := by
  have hle := h.le
  refine ⟨by simp; omega, by have := h.max; omega, fun e => ?_, fun h0 => ?_⟩
  · unfold cutA at e
    split at e
    · omega
    · rcases sp with _ | a
      · have := h.nul rfl; omega
      · cases e
  · simp at h0
    obtain ⟨c, o, rfl, hl⟩ := h.lies (by omega)
    refine ⟨c, o + k, ?_, hl.drop k⟩
    unfold cutA
    rw [if_neg (by omega), Option.map_some, add_plain]
theorem Sl.len (h : Sl w sp cap xs) : xs.length ≤ 9223372036854775807 := by have h1 := h.le; have h2 := h.max; unfold maxLen at h2; omega
end
/-- a slice that reads as the bytes l -/
structure Bytes (w : World) (sp : Option Addr) (cap : Nat) (l : List Int) : Prop where
  sl : Sl w sp cap (l.map (Value.int .u8))
  rng : rng l
/-- a slice that reads as numbers -/
def Nums (w : World) (sp : Option Addr) (cap : Nat) (l : List Int) : Prop := Sl w sp cap (l.map (Value.int .i64))
/-- the value of one piece -/
def PcVal (w : World) (v : Value) (l : List Int) : Prop := ∃ sp cap, v = .slice sp l.length cap ∧ Bytes w sp cap l
/-- a slice that reads as pieces -/
structure Pieces (w : World) (sp : Option Addr) (cap : Nat) (ls : List (List Int)) : Prop where
  ex : ∃ vs : List Value, vs.length = ls.length ∧ Sl w sp cap vs ∧ ∀ i v, vs[i]? = some v → PcVal w v (ls.getD i [])
section
variable {w w' : World} {sp : Option Addr} {cap : Nat}
theorem Bytes.below {l : List Int} (h : Bytes w sp cap l) (hb : Below w.heap.size w w') : Bytes w' sp cap l := ⟨h.sl.below (Nat.le_refl _) hb, h.rng⟩
theorem PcVal.below {v : Value} {l : List Int} (h : PcVal w v l) (hb : Below w.heap.size w w') : PcVal w' v l := by
  obtain ⟨sp, cap, e, hs⟩ := h
  exact ⟨sp, cap, e, hs.below hb⟩
theorem Pieces.below {ls : List (List Int)} (h : Pieces w sp cap ls) (hb : Below w.heap.size w w') : Pieces w' sp cap ls := by
  obtain ⟨vs, h1, h2, h3⟩ := h.ex
  exact ⟨vs, h1, h2.below (Nat.le_refl _) hb, fun i v hv => (h3 i v hv).below hb⟩
theorem Bytes.drewN {l : List Int} (h : Bytes w sp cap l) (n : Nat) : Bytes (w.drewN n) sp cap l := ⟨h.sl.drewN n, h.rng⟩
theorem Bytes.drew {l : List Int} (h : Bytes w sp cap l) : Bytes w.drew sp cap l := ⟨h.sl.drew, h.rng⟩
/-- one piece -/
theorem Pieces.at_ {ls : List (List Int)} (h : Pieces w sp cap ls) (k : Nat) (hk : k < ls.length) : ∃ c o s2 c2, sp = some ⟨c, o, none⟩ ∧ w.cell? ⟨c, o + k, none⟩ = some (.slice s2 (ls.getD k []).length c2) ∧ Bytes w s2 c2 (ls.getD k []) := by
  obtain ⟨vs, h1, h2, h3⟩ := h.ex
  obtain ⟨c, o, rfl, hl⟩ := h2.lies (by omega)
  have hv : vs[k]? = some vs[k] := List.getElem?_eq_getElem (by omega)
  obtain ⟨s2, c2, e, hb⟩ := h3 k _ hv
  have := hl k _ hv
  rw [e] at this
  exact ⟨c, o, s2, c2, rfl, this, hb⟩
theorem Bytes.at_ {l : List Int} (h : Bytes w sp cap l) (k : Nat) (hk : k < l.length) : ∃ c o, sp = some ⟨c, o, none⟩ ∧ w.cell? ⟨c, o + k, none⟩ = some (.int .u8 (l.getD k 0)) := by
  obtain ⟨c, o, rfl, hl⟩ := h.sl.lies (by simp; omega)
  exact ⟨c, o, rfl, hl k _ (by simp [hk])⟩
theorem Nums.at_ {l : List Int} (h : Nums w sp cap l) (k : Nat) (hk : k < l.length) : ∃ c o, sp = some ⟨c, o, none⟩ ∧ w.cell? ⟨c, o + k, none⟩ = some (.int .i64 (l.getD k 0)) := by
  obtain ⟨c, o, rfl, hl⟩ := h.lies (by simp; omega)
  exact ⟨c, o, rfl, hl k _ (by simp [hk])⟩
theorem Bytes.cut {l : List Int} (h : Bytes w sp cap l) (k : Nat) (hk : k ≤ l.length) : Bytes w (cutA sp cap k) (cap - k) (l.drop k) :=
  ⟨by have := h.sl.cut k (by simpa using hk); rwa [← List.map_drop] at this, rng_drop h.rng k⟩
theorem Bytes.len {l : List Int} (h : Bytes w sp cap l) : l.length ≤ 9223372036854775807 := by have := h.sl.len; simpa using this
theorem Bytes.le {l : List Int} (h : Bytes w sp cap l) : l.length ≤ cap := by have := h.sl.le; simpa using this
theorem Pieces.len {ls : List (List Int)} (h : Pieces w sp cap ls) : ls.length ≤ 9223372036854775807 := by
  obtain ⟨vs, h1, h2, h3⟩ := h.ex
  rw [← h1]; exact h2.len
end
theorem below_drewN {B : Nat} {a w : World} (h : Below B a w) (n : Nat) : Below B a (w.drewN n) := ⟨h.os, h.tape, h.output, h.size, h.block⟩
theorem Below.ofGrown {B : Nat} {w w' : World} {row : Option Nat} (hg : w.grownBy w' row) (hB : B ≤ w.heap.size) (hr : ∀ k, row = some k → B ≤ k) : Below B w w' :=
  ⟨hg.os, hg.tape, hg.output, hg.size, fun k hk => hg.block k (by omega) (fun e => by have := hr _ e.symm; omega)⟩
theorem info5 : (Try.prog.info? 5).map (fun i => (i.zero, i.size, i.bytes)) = some (some (.int .u8 0), 1, 1) := by kernel_rfl
theorem info3 : (Try.prog.info? 3).map (fun i => (i.zero, i.size, i.bytes)) = some (some (.int .i64 0), 1, 8) := by kernel_rfl
theorem size5 : (Try.prog.info? 5).map (·.size) = some 1 := by kernel_rfl
theorem sizeWd : (Try.prog.info? 120).map (·.size) = some 8 := by kernel_rfl
end
section
open Go.ChangeShapes Go.WideShapes Go.ChangeAt Go.RowKit
theorem Sl.all1 {w : World} {base e n : Nat} {v : Value} {xs : List Value} (h : w.ownsRow base e 1 v n xs) : ∃ sp cap, v = .slice sp n cap ∧ xs.length = n ∧ Sl w sp cap xs ∧ (∀ c o, sp = some ⟨c, o, none⟩ → base ≤ c) := by
  have hl : xs.length = n := by have := h.1; simpa using this
  rcases h.2 with ⟨rfl, rfl⟩ | ⟨g, cap, cur, rfl, hbg, hg, hnc, hcm, _, htake⟩
  · obtain rfl : xs = [] := List.eq_nil_of_length_eq_zero hl
    exact ⟨none, 0, rfl, rfl, Sl.nil w, fun _ _ h => by cases h⟩
  · refine ⟨_, cap, rfl, hl, ⟨by omega, hcm, (fun h => by cases h), fun _ => ⟨g, 0, rfl, fun i v hv => ?_⟩⟩, fun c o h => by cases h; exact hbg⟩
    have := h.cells (g := g) rfl i v hv
    rwa [add_plain] at this
section
variable {w : World} {ops : Array Oper} {rest : List Oper} {o : Oper} {a : Act} {Q : Exit → Act → World → Prop}
/-- append of what lies in a slice to a row of the call's own -/
theorem wpList_append_sl (t e : TypeId) (by_ : Nat) (z : Value) (hu : Try.prog.underlying t = some (.slice e)) (hinf : (Try.prog.info? e).map (fun i => (i.zero, i.size, i.bytes)) = some (some z, 1, by_)) (hzc : z.cells.size = 1) (hby : by_ ≤ 100)
    (hgd : o.guard = none) (s x : Operand)
    (ho : o.op = .call { callee := .builtin .append, args := #[s, x], argTypes := #[t, t] }) (base : Nat) (v : Value) (n m : Nat) (xs ys : List Value) (hs : a.eval s = v) (hown : w.ownsRow base e 1 v n xs)
    (sp : Option Addr) (cap : Nat) (hx : a.eval x = .slice sp m cap) (hm : ys.length = m) (hb : Sl w sp cap ys) (h1 : ∀ v ∈ ys, v.oneCell' = true) (hn : n + m ≤ 1000000) (hbase : base ≤ w.heap.size)
    (h : ∀ v' w', w'.ownsRow base e 1 v' (n + m) (xs ++ ys) → w.grownBy w' v.ownBlock → wpList Try.prog ops Q rest (a.put o.dst v') w') : wpList Try.prog ops Q (o :: rest) a w := by
  subst hm
  obtain ⟨i0, hi, hz0, hz1, hz2⟩ := info_parts hinf
  rcases sp with _ | ad
  · obtain rfl := hb.nul rfl
    have h0 : ys = [] := List.eq_nil_of_length_eq_zero (by have := hb.le; omega)
    subst h0
    refine wpList_append_own_none hgd s x t ho base e i0 1 hu hi v n _ hs hown hx ?_
    exact h v w (by simpa using hown) ⟨rfl, rfl, rfl, Nat.le_refl _, fun _ _ _ => rfl⟩
  · have hcells : ∀ j u, ys[j]? = some u → w.cell? (ad.add j) = some u := by
      intro j u hu
      have hj : 0 < ys.length := by
        by_cases h0 : 0 < ys.length
        · exact h0
        · have : ys = [] := List.eq_nil_of_length_eq_zero (by omega)
          subst this
          simp at hu
      obtain ⟨c, o', e, hl⟩ := hb.lies hj
      cases e
      exact hl.src j u hu
    obtain ⟨v', w', hrun, hown', hg, _⟩ := run_append_own (P := Try.prog) w base t o.type e i0 z 1 by_ hu hi hz0 hz1 hz2 hzc (by decide) v n _ hown ad ys.length cap ys (by simp) hcells h1
      (by unfold maxLen; omega) (Nat.le_trans (Nat.mul_le_mul hn hby) (by decide)) hbase
    refine wpList_plain hgd fun K hK => ?_
    unfold Oper.wp
    simp [execOp, ho, resolve, invoke, builtin, hs, hx, hrun, Result.andThen]
    exact hK _ _ (h v' w' hown' hg)
/-- make([]T, 0, c) -/
theorem wpList_make0 (t e : TypeId) (by_ : Nat) (z : Value) (hu : Try.prog.underlying t = some (.slice e)) (hinf : (Try.prog.info? e).map (fun i => (i.zero, i.size, i.bytes)) = some (some z, 1, by_)) (hby : by_ ≤ 100)
    (hgd : o.guard = none) (s x : Operand) (ho : o.op = .makeSlice t s x) (base c : Nat) (hs : a.eval s = .int .i64 0) (hx : a.eval x = .int .i64 (c : Int)) (hc : c ≤ 1000000) (hbase : base ≤ w.heap.size)
    (h : ∀ w', w'.ownsRow base e 1 (.slice (some ⟨w.heap.size, 0, none⟩) 0 c) 0 [] → w.grownBy w' none → wpList Try.prog ops Q rest (a.put o.dst (.slice (some ⟨w.heap.size, 0, none⟩) 0 c)) w') : wpList Try.prog ops Q (o :: rest) a w := by
  obtain ⟨i0, hi, hz0, hz1, hz2⟩ := info_parts hinf
  obtain ⟨w', hrun, hown, hg⟩ := run_makeSlice_owned (P := Try.prog) w base t e i0 z 1 hu hi hz0 hz1 .i64 .i64 c (by omega) (by rw [hz2]; exact Nat.le_trans (Nat.mul_le_mul hby hc) (by decide)) (by unfold maxLen; omega) hbase
  refine wpList_plain hgd fun K hK => ?_
  unfold Oper.wp
  simp [execOp, ho, hs, hx, hrun, Result.andThen]
  exact hK _ _ (h w' hown hg)
end
theorem owns_below {w w' : World} {base e n : Nat} {v : Value} {xs : List Value} (h : w.ownsRow base e 1 v n xs) (hb : Below w.heap.size w w') : w'.ownsRow base e 1 v n xs :=
  h.kept (row := none) ⟨hb.os, hb.tape, hb.output, hb.size, fun k hk _ => hb.block k hk⟩ (by cases v.ownBlock <;> simp)
end
section
open Go.ChangeShapes Go.WideShapes Go.ChangeAt Go.RowKit
variable {w : World} {ops : Array Oper} {rest : List Oper} {o : Oper} {a : Act} {Q : Exit → Act → World → Prop}
/-- make([]T, n) -/
theorem wpList_makeN (t e : TypeId) (by_ : Nat) (z : Value) (hu : Try.prog.underlying t = some (.slice e)) (hinf : (Try.prog.info? e).map (fun i => (i.zero, i.size, i.bytes)) = some (some z, 1, by_)) (hby : by_ ≤ 100)
    (hgd : o.guard = none) (s x : Operand) (ho : o.op = .makeSlice t s x) (c : Nat) (hs : a.eval s = .int .i64 (c : Int)) (hx : a.eval x = .int .i64 (c : Int)) (hc : c ≤ 1000000)
    (h : wpList Try.prog ops Q rest (a.put o.dst (.slice (some ⟨w.heap.size, 0, none⟩) c c)) (w.alloc (.cells (madeCells z.cells c) e))) : wpList Try.prog ops Q (o :: rest) a w := by
  obtain ⟨i0, hi, hz0, hz1, hz2⟩ := info_parts hinf
  have hb : (i0.bytes : Int) * (c : Int) ≤ 281474976710656 := by
    have h1 : i0.bytes * c ≤ 100 * 1000000 := Nat.mul_le_mul (by omega) hc
    have h2 : ((i0.bytes * c : Nat) : Int) ≤ 100000000 := by omega
    rw [Int.natCast_mul] at h2
    omega
  have hrun := run_makeSlice (P := Try.prog) w t e i0 z hu hi hz0 .i64 .i64 (c : Int) (c : Int) (by omega) (by omega) (by rw [hz1]; simp; omega) hb (by omega)
  rw [hz1] at hrun
  simp only [Int.toNat_natCast, Nat.mul_one] at hrun
  refine wpList_plain hgd fun K hK => ?_
  unfold Oper.wp
  simp [execOp, ho, hs, hx, hrun, Result.andThen]
  exact hK _ _ h
end
section
open Go.ChangeShapes Go.WideShapes Go.ChangeAt Go.RowKit
/-- a new block that holds bytes -/
theorem Bytes.new (w : World) (l : List Int) (cs : Array Value) (t : TypeId) (fr : Nat × Nat) (hc : cs = rowB l) (hr : Cd.rng l) (hl : l.length ≤ 1000000) : Bytes (w.alloc (.cells cs t fr)) (some ⟨w.heap.size, 0, none⟩) l.length l := by
  subst hc
  refine ⟨⟨by simp, by unfold maxLen; omega, (fun h => by cases h), fun _ => ⟨_, _, rfl, fun i v hv => ?_⟩⟩, hr⟩
  rw [cell_of_row _ _ _ _ _ _ (heap_alloc_new _ _), ← hv]
  simp [rowB]
theorem Sl.new (w : World) (l : List Value) (cs : Array Value) (t : TypeId) (fr : Nat × Nat) (hc : cs = l.toArray) (hl : l.length ≤ 1000000) : Sl (w.alloc (.cells cs t fr)) (some ⟨w.heap.size, 0, none⟩) l.length l := by
  subst hc
  refine ⟨by simp, by unfold maxLen; omega, (fun h => by cases h), fun _ => ⟨_, _, rfl, fun i v hv => ?_⟩⟩
  rw [cell_of_row _ _ _ _ _ _ (heap_alloc_new _ _), ← hv]
  simp
theorem size_alloc' (w : World) (o : Obj) : (w.alloc o).heap.size = w.heap.size + 1 := by simp
end
section
open Go.ChangeShapes Go.WideShapes Go.ChangeAt Go.RowKit
theorem pow8 (k : Nat) : (2 : Int) ^ (8 * k) = 256 ^ k := by rw [Int.pow_mul]; rfl
theorem results_cell_row {P : Program} {fn : Func} {p : Tmp} {ty : TypeId} (h : fn.results = #[.cell p ty]) (tmps : Array Value) (w : World) (g : Nat) (t : TypeId) (cs : Array Value) (fr : Nat × Nat) (d : TypeDesc)
    (hp : tmps.getD p undef = .pointer (some ⟨g, 0, none⟩)) (hg : w.heap[g]? = some (.cells cs t fr))
    (hu : P.underlying ty = some d) (hd : (match d with | .struct _ | .array _ _ => true | _ => false) = true) (hi : (P.info? ty).map (·.size) = some cs.size) :
    (results fn tmps).run P w = .ok (.agg cs) w := by
  have hp' : tmps[p]?.getD undef = .pointer (some ⟨g, 0, none⟩) := by simpa using hp
  simp [results, h, hp', asAddr, run_loadVar_row w g t ty cs fr d hg hu hd hi]
end
section
open Go.ChangeShapes Go.WideShapes Go.ChangeAt Go.RowKit
theorem take_snocI (l : List Int) (k : Nat) (h : k < l.length) : l.take (k + 1) = l.take k ++ [l.getD k 0] := by
  have e : l.getD k 0 = l[k] := by simp [h]
  rw [e, List.take_succ_eq_append_getElem h]
/-- the lists answer whether they are the same, and nothing is written -/
def Told (b : Bool) (w : World) (e : Ending) (w' : World) : Prop := e = .returned (.bool b) ∧ ∃ n, w' = w.drewN n
theorem Told.below {b : Bool} {w w' : World} {e : Ending} (h : Told b w e w') : e = .returned (.bool b) ∧ Below w.heap.size w w' := by
  obtain ⟨h1, n, rfl⟩ := h
  exact ⟨h1, below_drewN (Below.refl _ _) n⟩
end
section
open Go.ChangeShapes Go.WideShapes Go.ChangeAt Go.RowKit
theorem tm_same (x : Int) (h : 0 ≤ x ∨ x % 256 = 0) : x.tmod 256 = x % 256 ∧ x.tdiv 256 = x / 256 := by
  rw [Int.tmod_eq_emod, Int.tdiv_eq_ediv]
  rw [if_pos (by rcases h with h | h; exact Or.inl h; exact Or.inr (Int.dvd_of_emod_eq_zero h)), if_pos (by rcases h with h | h; exact Or.inl h; exact Or.inr (Int.dvd_of_emod_eq_zero h))]
  simp
theorem tm_less (x : Int) (h : ¬ (0 ≤ x ∨ x % 256 = 0)) : x.tmod 256 = x % 256 - 256 ∧ x.tdiv 256 = x / 256 + 1 := by
  have hn : ¬ (0 ≤ x ∨ (256 : Int) ∣ x) := fun e => h (by rcases e with e | e; exact Or.inl e; exact Or.inr (Int.emod_eq_zero_of_dvd e))
  rw [Int.tmod_eq_emod, Int.tdiv_eq_ediv, if_neg hn, if_neg hn]
  simp
theorem div_in (n M : Int) (hM : 1 ≤ M) (h1 : -9223372036854775808 ≤ n) (h2 : n ≤ 9223372036854775807) : -9223372036854775808 ≤ n / M ∧ n / M ≤ 9223372036854775807 := by
  by_cases h : 0 ≤ n
  · have a := Int.ediv_nonneg h (show 0 ≤ M by omega)
    have b := Int.ediv_le_self M h
    omega
  · have a : n ≤ n / M := Int.le_ediv_of_mul_le (by omega) (by
      have := Int.mul_le_mul_of_nonpos_left (a := n) (b := M) (c := 1) (by omega) hM
      omega)
    have b : n / M < 0 := Int.ediv_neg_of_neg_of_pos (by omega) (by omega)
    omega
theorem made_bytes (q : Nat) : madeCells #[Value.int .u8 0] q = rowB (List.replicate q 0) := by
  apply Array.ext
  · simp [madeCells, rowB]
  · intro i h1 h2
    simp [madeCells, rowB, Nat.mod_one]
end
section
open Go.ChangeShapes Go.WideShapes Go.ChangeAt Go.RowKit
/-- numbers' bytes -/
def nums (l : List Int) : List Int := l.flatMap (be 8)
theorem nums_snoc (l : List Int) (x : Int) : nums (l ++ [x]) = nums l ++ be 8 x := by simp [nums]
theorem rng_nums (l : List Int) : rng (nums l) := by
  intro x hx
  obtain ⟨n, _, h⟩ := List.mem_flatMap.1 hx
  exact be_range 8 n x h
end
end Go.Proofs.Ytkfkjapkcjidnaa.Cd
-- from Cb
namespace Go.Proofs.Ytkfkjapkcjidnaa.Cd
section
open Go.ChangeShapes Go.WideShapes Go.ChangeAt Go.RowKit
set_option maxRecDepth 100000 in
set_option maxHeartbeats 2000000 in
theorem word_of (n : Int) (w : World) : Calls Try.prog 55 #[.int .i64 n] w fun e w' => e = .returned (.agg (rowB (be 8 n))) ∧ Below w.heap.size w w' := by
  obtain ⟨B, hB⟩ : ∃ B, IntKind.u64.wrap n = B := ⟨_, rfl⟩
  have hBm : be 8 B = be 8 n := by
    rw [← be_mod 8 n, ← hB]
    rfl
  have HBm := Lib.hid hBm
  clear hBm
  go_enter Try.func55, Try.ntmps55
  go_wp2
  have HB := Lib.hid hB
  clear hB
  go_loopw [8] (fun i wr => ∃ k : Nat, k ≤ 8 ∧ i = .int .i64 k ∧ Two w 120 (zs 8) (wk B k) 120 wr) (fun i _ => 8 - (intOf i).toNat)
  case atStart => exact ⟨0, by omega, rfl, Two.start w 120 120 _ _ _ _ rfl rfl⟩
  case round =>
    obtain ⟨k, hk, rfl, ht⟩ := hrel
    by_cases hlt : k < 8
    · have hdt : decide ((k : Int) < 8) = true := by simp; omega
      have hs := wk_set B k hlt
      rw [← pow8] at hs
      have HS := Lib.hid hs
      have HL := Lib.hid (wk_length B k hk)
      clear hs
      obtain ⟨L, hL⟩ : ∃ L, wk B k = L := ⟨_, rfl⟩
      rw [hL] at ht HS HL
      clear hL
      have c1 := ht.fl.cell (7 - k) (by rw [HL.out]; omega)
      have f1 := ht.fl.free (7 - k)
      go_wp2
      clear c1 f1
      go_roundw
      case rel => exact ⟨k + 1, by omega, by go_num, by rw [← HS.out]; exact ht.put (7 - k) _⟩
      case measure => simp [intOf]; omega
    · obtain rfl : k = 8 := by omega
      clear hk hlt
      rw [show ((8 : Nat) : Int) = 8 from rfl]
      have hdf : decide ((8 : Int) < 8) = false := by decide
      rw [wk_all, HBm.out] at ht
      have HL := Lib.hid (be_length 8 n)
      obtain ⟨D, hD⟩ : ∃ D, be 8 n = D := ⟨_, rfl⟩
      rw [hD] at ht HL
      have HD := Lib.hid hD
      clear hD
      have HZ := Lib.hid (show (Try.prog.info? 120).map (·.size) = some (rowB D).size by rw [rowB_size, HL.out]; exact sizeWd)
      have HY := Lib.hid (show (rowB (zs 8)).size = (rowB D).size by rw [rowB_size, rowB_size, HL.out]; rfl)
      have HX := Lib.hid (rowB_one D)
      have HR := Lib.hid ht.fl.row
      have HQ := Lib.hid ht.res
      have HBl := Lib.hid ht.fl.below
      clear ht
      go_wp2_with (first
        | (refine wpList_load_row rfl 120 (.tmp 3) rfl (w.heap.size + 1) rfl 120 (rowB D) (0, 0) _ HR.out Try.underlying120 rfl HZ.out ?_)
        | (refine wpList_store_row rfl 120 (.tmp 2) (.tmp 20) rfl w.heap.size (rowB D) rfl rfl 120 _ HQ.out HZ.out HY.out HX.out ?_))
      exact bodyPost_ret (v := .agg (rowB D)) (results_cell_row Try.results55 _ _ w.heap.size 120 (rowB D) (0, 0) _ rfl (setRow_heap _ _ _ _ _ _ HQ.out) Try.underlying120 rfl HZ.out) rfl ⟨by rw [HD.out], below_setRow HBl.out (Nat.le_refl _) _⟩
end
section
open Go.ChangeShapes Go.WideShapes Go.ChangeAt Go.RowKit
theorem take_snoc (ls : List (List Int)) (k : Nat) (h : k < ls.length) : ls.take (k + 1) = ls.take k ++ [ls.getD k []] := by
  have e : ls.getD k [] = ls[k] := by simp [h]
  rw [e, List.take_succ_eq_append_getElem h]
/-- how many bytes the first k pieces have -/
def jl (ls : List (List Int)) (k : Nat) : Nat := (join (ls.take k)).length
theorem jl_succ (ls : List (List Int)) (k : Nat) (h : k < ls.length) : jl ls (k + 1) = jl ls k + (4 + (ls.getD k []).length) := by
  unfold jl
  rw [take_snoc ls k h, join_snoc]
  simp only [List.length_append, be_length]
  omega
theorem jl_le (ls : List (List Int)) (k : Nat) : jl ls k ≤ (join ls).length := by
  have h : join ls = join (ls.take k) ++ join (ls.drop k) := by rw [← join_append, List.take_append_drop]
  unfold jl
  rw [h, List.length_append]
  omega
/-- how the second loop stands -/
structure Jn (w : World) (ls : List (List Int)) (k : Nat) (v : Value) (wr : World) : Prop where
  own : wr.ownsRow w.heap.size 5 1 v (jl ls k) ((join (ls.take k)).map (Value.int .u8))
  below : Below w.heap.size w wr
theorem run_arr4 (p : Nat) (w : World) : (Instr.sliceAt 120 (.pointer (some ⟨p, 0, none⟩)) (some (.int .i64 4)) none none).run Try.prog w = .ok (.slice (some ⟨p, 4, none⟩) 4 4) w := by
  cases hq : Try.prog.info? 5 with
  | none => have := size5; simp [hq] at this
  | some i =>
    have hi : i.size = 1 := by have := size5; simpa [hq] using this
    have hadd := add_plain p 0 4
    simp only [Nat.zero_add] at hadd
    simp [Instr.sliceAt, Instr.sureAddr, run_underlying Try.underlying120, Instr.sliceBounds, Instr.sliceBound, asIntOf, sizeOf, typeInfo, hq, hi, hadd]
set_option maxRecDepth 100000 in
set_option maxHeartbeats 4000000 in
theorem join_anyB (w : World) (sp : Option Addr) (cap N : Nat) (ls : List (List Int)) (hN : ls.length = N) (hP : Pieces w sp cap ls) (hs : (join ls).length ≤ 1000000) :
    Calls Try.prog 35 #[.slice sp N cap] w fun e w' => ∃ sp' cap', e = .returned (.slice sp' (join ls).length cap') ∧ Bytes w' sp' cap' (join ls) ∧ Below w.heap.size w w' ∧ w'.ownsRow w.heap.size 5 1 (.slice sp' (join ls).length cap') (join ls).length ((join ls).map (Value.int .u8)) := by
  have hNm : N ≤ 9223372036854775807 := by rw [← hN]; exact hP.len
  have HP := Lib.hid hP
  have HN := Lib.hid hN
  clear hP hN
  go_enter Try.func35, Try.ntmps35
  go_wp2
  go_loop [3, 12] (fun s i => ∃ k : Nat, k ≤ N ∧ i = .int .i64 k ∧ s = .int .i64 (jl ls k)) (fun _ i => N - (intOf i).toNat)
  case atStart => exact ⟨0, by omega, rfl, rfl⟩
  case round =>
    obtain ⟨k, hk, rfl, rfl⟩ := hrel
    have hle := jl_le ls k
    by_cases hlt : k < N
    · have hdt : decide (k < N) = true := by simp; omega
      obtain ⟨c, o, s2, c2, rfl, hcell, hb⟩ := HP.out.at_ k (by rw [HN.out]; exact hlt)
      have hsu := jl_succ ls k (by rw [HN.out]; exact hlt)
      have hle2 := jl_le ls (k + 1)
      have hbl := hb.len
      obtain ⟨m, hm⟩ : ∃ m, (ls.getD k []).length = m := ⟨_, rfl⟩
      rw [hm] at hcell hsu hbl
      have HSu := Lib.hid hsu
      have hjm : jl ls k + (4 + m) ≤ 1000000 := by rw [← hsu]; omega
      clear hm hsu hb hle2
      obtain ⟨j, hj⟩ : ∃ j, jl ls k = j := ⟨_, rfl⟩
      rw [hj] at hjm HSu hle ⊢
      clear hj
      go_wp2
      go_round
      case rel => exact ⟨k + 1, by omega, by go_num, by rw [HSu.out]; go_num⟩
      case measure => simp [intOf]; omega
    · obtain rfl : k = N := by omega
      have hJ : jl ls k = (join ls).length := by unfold jl; rw [List.take_of_length_le (by rw [HN.out]; omega)]
      rw [hJ]
      have hdf : decide (k < k) = false := by simp
      clear hle hlt hk
      obtain ⟨J, hJ2⟩ : ∃ J, (join ls).length = J := ⟨_, rfl⟩
      rw [hJ2] at hJ hs ⊢
      have HJ := Lib.hid hJ
      have HJ2 := Lib.hid hJ2
      clear hJ hJ2
      go_wp2_with (refine wpList_make0 24 5 1 (.int .u8 0) Try.underlying24 info5 (by decide) rfl (.const (.int .i64 0)) (.tmp 22) rfl w.heap.size J rfl rfl hs (Nat.le_refl _) ?_; intro w0 hown0 hg0)
      have hjn : Jn w ls 0 (.slice (some ⟨w.heap.size, 0, none⟩) 0 J) w0 := ⟨hown0, Below.ofGrown hg0 (Nat.le_refl _) (fun _ h => by cases h)⟩
      clear hown0 hg0
      go_loopw [6, 26] (fun v i wr => ∃ j : Nat, j ≤ k ∧ i = .int .i64 j ∧ Jn w ls j v wr) (fun _ i _ => k - (intOf i).toNat)
      case atStart => exact ⟨0, by omega, rfl, hjn⟩
      case round =>
        clear hjn
        obtain ⟨j, hjk, rfl, hj⟩ := hrel
        obtain ⟨sv, cv, rfl, hxl, hsl, hbase⟩ := Sl.all1 hj.own
        have HJn := Lib.hid hj
        have HSl := Lib.hid hsl
        have hle := jl_le ls j
        rw [HJ2.out] at hle
        clear hj hsl hxl
        by_cases hlt : j < k
        · have hdt : decide (j < k) = true := by simp; omega
          obtain ⟨c, o, s2, c2, rfl, hcell, hb⟩ := HP.out.at_ j (by rw [HN.out]; exact hlt)
          have hsu := jl_succ ls j (by rw [HN.out]; exact hlt)
          have hle2 := jl_le ls (j + 1)
          rw [HJ2.out] at hle2
          have hbl := hb.len
          have hts := take_snoc ls j (by rw [HN.out]; exact hlt)
          have hjs : join (ls.take (j + 1)) = join (ls.take j) ++ be 4 ((ls.getD j []).length : Int) ++ ls.getD j [] := by rw [hts, join_snoc]
          clear hts
          obtain ⟨P, hP⟩ : ∃ P, ls.getD j [] = P := ⟨_, rfl⟩
          rw [hP] at hcell hsu hbl hjs hb
          obtain ⟨m, hm⟩ : ∃ m, P.length = m := ⟨_, rfl⟩
          rw [hm] at hcell hsu hbl hjs
          have HSu := Lib.hid hsu
          have HM := Lib.hid hm
          have HJs := Lib.hid hjs
          have HBp := Lib.hid hb
          have hjm : jl ls j + 4 + m ≤ 1000000 := by omega
          have hcl : c < w.heap.size := block_lt_of_cell hcell
          have hcr : wr.cell? ⟨c, o + j, none⟩ = some (.slice s2 m c2) := (HJn.out.below.cell hcl).trans hcell
          have hsz := HJn.out.below.size
          clear hm hsu hb hle2 hP hjs hcell
          obtain ⟨n, hn⟩ : ∃ n, jl ls j = n := ⟨_, rfl⟩
          rw [hn] at hjm HSu hle ⊢
          have HNn := Lib.hid hn
          clear hn
          go_wp2_with fail
          refine (word_of m wr).mono ?_
          rintro e w1 ⟨rfl, hb1⟩
          have HD8 := Lib.hid (be_length 8 (m : Int))
          have HD4 := Lib.hid (be_drop (m : Int))
          obtain ⟨D, hD⟩ : ∃ D, be 8 (m : Int) = D := ⟨_, rfl⟩
          rw [hD] at HD8 HD4 ⊢
          clear hD
          have HZ := Lib.hid (show (Try.prog.info? 120).map (·.size) = some (rowB D).size by rw [rowB_size, HD8.out]; exact sizeWd)
          have HY := Lib.hid (show 8 = (rowB D).size by rw [rowB_size, HD8.out])
          have HX := Lib.hid (rowB_one D)
          have hsz1 : w.heap.size ≤ w1.heap.size := Nat.le_trans hsz hb1.size
          have HB1 := Lib.hid hb1
          clear hb1
          go_upto_region 12 with (refine wpList_store_row rfl 120 (.tmp 9) (.tmp 32) rfl w1.heap.size (rowB D) rfl rfl 120 _ (heap_alloc_new _ _) HZ.out HY.out HX.out ?_)
          refine gen_world (Q := fun w => Code.wp _ _ _ _ w) _ (fun W => Below w1.heap.size w1 W ∧ W.heap[w1.heap.size]? = some (.cells (rowB D) 120 (0, 0))) ⟨below_setRow ((Below.refl _ _).alloc (Nat.le_refl _) _) (Nat.le_refl _) _, setRow_heap _ _ _ _ _ _ (heap_alloc_new _ _)⟩ ?_
          rintro W ⟨hbW, hrow⟩
          have hbr : Below wr.heap.size wr W := HB1.out.trans (hbW.mono HB1.out.size)
          have hszW : w.heap.size ≤ W.heap.size := Nat.le_trans hsz1 hbW.size
          have HO := Lib.hid (owns_below HJn.out.own hbr)
          have HBW := Lib.hid (HJn.out.below.trans (hbr.mono hsz))
          have HSrc : Hid (Sl W (some ⟨w1.heap.size, 4, none⟩) 4 ((D.drop 4).map (Value.int .u8))) := by
            refine ⟨by simp [HD8.out], by unfold maxLen; omega, (fun h => by cases h), fun _ => ⟨_, _, rfl, fun i v hv => ?_⟩⟩
            rw [cell_of_row _ _ _ _ _ _ hrow, ← hv]
            simp [rowB]
          rw [HD4.out] at HSrc
          have HB4 := Lib.hid (show ((be 4 (m : Int)).map (Value.int .u8)).length = 4 by rw [List.length_map, be_length])
          rw [HNn.out] at HO
          have hcW : W.cell? ⟨c, o + j, none⟩ = some (.slice s2 m c2) := (hbr.cell (by have := HJn.out.below.size; simp only; omega)).trans hcr
          have HCW := Lib.hid hcW
          have hr4 := run_arr4 w1.heap.size
          clear hbW hrow hbr hcr hcW HB1 HZ HY HX HD8
          go_upto_region 13 with (refine wpList_append_sl 24 5 1 (.int .u8 0) Try.underlying24 info5 rfl (by decide) rfl (.tmp 33) (.tmp 34) rfl w.heap.size (.slice sv n cv) n 4 _ _ rfl HO.out (some ⟨w1.heap.size, 4, none⟩) 4 rfl HB4.out HSrc.out (map_one _) (by omega) hszW ?_; intro v2 w2 hown2 hg2)
          have hb2 : Below w.heap.size W w2 := Below.ofGrown hg2 hszW (fun g e => (HO.out.lt g e).1)
          obtain ⟨s3, c3, rfl, hl3, hsl3, hbs3⟩ := Sl.all1 hown2
          have HO2 := Lib.hid hown2
          have HBW2 := Lib.hid (HBW.out.trans hb2)
          have hsz2 : w.heap.size ≤ w2.heap.size := HBW2.out.size
          have HPb := Lib.hid (HBp.out.below HBW2.out)
          have HMm := Lib.hid (show (P.map (Value.int .u8)).length = m by rw [List.length_map, HM.out])
          clear hg2 hb2 hown2 hsl3 hl3 hr4
          go_wp2_with (refine wpList_append_sl 24 5 1 (.int .u8 0) Try.underlying24 info5 rfl (by decide) rfl (.tmp 36) (.tmp 37) rfl w.heap.size (.slice s3 (n + 4) c3) (n + 4) m _ _ rfl HO2.out s2 c2 rfl HMm.out HPb.out.sl (map_one _) (by omega) hsz2 ?_; intro v4 w4 hown4 hg4)
          have HB4' := Lib.hid (HBW2.out.trans (Below.ofGrown hg4 hsz2 (fun g e => (HO2.out.lt g e).1)))
          have HO4 := Lib.hid hown4
          clear hg4 hown4
          go_roundw
          case rel =>
            refine ⟨j + 1, by omega, by go_num, ?_, HB4'.out⟩
            have := HO4.out
            rw [← List.map_append, ← List.map_append, ← HJs.out] at this
            rw [HSu.out, ← Nat.add_assoc]
            exact this
          case measure => simp [intOf]; omega
        · obtain rfl : j = k := by omega
          have hdf2 : decide (j < j) = false := by simp
          rw [HJ.out]
          have HSl2 := HSl
          rw [List.take_of_length_le (by rw [HN.out]; omega)] at HSl2
          have HR := Lib.hid (rng_join (ls := ls) (fun l hl => by
            obtain ⟨i, hi, rfl⟩ := List.getElem_of_mem hl
            obtain ⟨_, _, _, _, _, _, h⟩ := HP.out.at_ i hi
            have := h.rng
            simpa [hi] using this))
          clear hlt hle
          go_wp2
          go_ret
          exact ⟨sv, cv, by rw [HJ2.out]; rfl, ⟨HSl2.out, HR.out⟩, HJn.out.below, by have h9 := HJn.out.own; rw [HJ.out, List.take_of_length_le (by rw [HN.out]; omega)] at h9; rw [HJ2.out]; exact h9⟩
theorem join_any (w : World) (sp : Option Addr) (cap N : Nat) (ls : List (List Int)) (hN : ls.length = N) (hP : Pieces w sp cap ls) (hs : (join ls).length ≤ 1000000) :
    Calls Try.prog 35 #[.slice sp N cap] w fun e w' => ∃ sp' cap', e = .returned (.slice sp' (join ls).length cap') ∧ Bytes w' sp' cap' (join ls) ∧ Below w.heap.size w w' :=
  (join_anyB w sp cap N ls hN hP hs).mono fun _ _ ⟨a, b, h1, h2, h3, _⟩ => ⟨a, b, h1, h2, h3⟩
end
section
open Go.ChangeShapes Go.WideShapes Go.ChangeAt Go.RowKit
structure Nn (w : World) (l : List Int) (k : Nat) (v : Value) (wr : World) : Prop where
  own : wr.ownsRow w.heap.size 5 1 v (8 * k) ((nums (l.take k)).map (Value.int .u8))
  below : Below w.heap.size w wr
theorem run_arr0 (p : Nat) (w : World) : (Instr.sliceAt 120 (.pointer (some ⟨p, 0, none⟩)) none none none).run Try.prog w = .ok (.slice (some ⟨p, 0, none⟩) 8 8) w := by
  cases hq : Try.prog.info? 5 with
  | none => have := size5; simp [hq] at this
  | some i =>
    have hadd := add_plain p 0 0
    simp only [Nat.zero_add] at hadd
    simp [Instr.sliceAt, Instr.sureAddr, run_underlying Try.underlying120, Instr.sliceBounds, sizeOf, typeInfo, hq, hadd]
set_option maxRecDepth 100000 in
set_option maxHeartbeats 4000000 in
theorem numbers_any (w : World) (sp : Option Addr) (cap N : Nat) (l : List Int) (hN : l.length = N) (hP : Nums w sp cap l) (hs : N ≤ 1000) :
    Calls Try.prog 42 #[.slice sp N cap] w fun e w' => ∃ sp' cap', e = .returned (.slice sp' (8 * N) cap') ∧ Bytes w' sp' cap' (nums l) ∧ Below w.heap.size w w' := by
  have HP : Hid (Nums w sp cap l) := hP
  have HN := Lib.hid hN
  clear hP hN
  obtain ⟨M, hM⟩ : ∃ M, 8 * N = M := ⟨_, rfl⟩
  have he8 : (8 : Int) * (N : Int) = (M : Int) := by omega
  have hMl : M ≤ 1000000 := by omega
  rw [hM]
  have HMm := Lib.hid hM
  clear hM
  go_enter Try.func42, Try.ntmps42
  go_wp2_with (refine wpList_make0 24 5 1 (.int .u8 0) Try.underlying24 info5 (by decide) rfl (.const (.int .i64 0)) (.tmp 9) rfl w.heap.size M rfl rfl hMl (Nat.le_refl _) ?_; intro w0 hown0 hg0)
  have hjn : Nn w l 0 (.slice (some ⟨w.heap.size, 0, none⟩) 0 M) w0 := ⟨hown0, Below.ofGrown hg0 (Nat.le_refl _) (fun _ h => by cases h)⟩
  clear hown0 hg0 he8
  go_loopw [3, 13] (fun v i wr => ∃ j : Nat, j ≤ N ∧ i = .int .i64 j ∧ Nn w l j v wr) (fun _ i _ => N - (intOf i).toNat)
  case atStart => exact ⟨0, by omega, rfl, hjn⟩
  case round =>
    clear hjn
    obtain ⟨j, hjk, rfl, hj⟩ := hrel
    obtain ⟨sv, cv, rfl, hxl, hsl, hbase⟩ := Sl.all1 hj.own
    have HJn := Lib.hid hj
    have HSl := Lib.hid hsl
    clear hj hsl hxl
    by_cases hlt : j < N
    · have hdt : decide (j < N) = true := by simp; omega
      obtain ⟨c, o, rfl, hcell⟩ := HP.out.at_ j (by rw [HN.out]; exact hlt)
      have hts := take_snocI l j (by rw [HN.out]; exact hlt)
      have hjs : nums (l.take (j + 1)) = nums (l.take j) ++ be 8 (l.getD j 0) := by rw [hts, nums_snoc]
      clear hts
      obtain ⟨P, hP⟩ : ∃ P, l.getD j 0 = P := ⟨_, rfl⟩
      rw [hP] at hcell hjs
      have HJs := Lib.hid hjs
      have hcl : c < w.heap.size := block_lt_of_cell hcell
      have hcr : wr.cell? ⟨c, o + j, none⟩ = some (.int .i64 P) := (HJn.out.below.cell hcl).trans hcell
      have hsz := HJn.out.below.size
      clear hP hjs hcell
      obtain ⟨n, hn⟩ : ∃ n, 8 * j = n := ⟨_, rfl⟩
      rw [hn] 
      have hnb : n + 8 ≤ 1000000 := by omega
      have HNn := Lib.hid hn
      clear hn
      go_wp2_with fail
      refine (word_of P wr).mono ?_
      rintro e w1 ⟨rfl, hb1⟩
      have HD8 := Lib.hid (be_length 8 P)
      obtain ⟨D, hD⟩ : ∃ D, be 8 P = D := ⟨_, rfl⟩
      rw [hD] at HD8 HJs ⊢
      clear hD
      have HZ := Lib.hid (show (Try.prog.info? 120).map (·.size) = some (rowB D).size by rw [rowB_size, HD8.out]; exact sizeWd)
      have HY := Lib.hid (show 8 = (rowB D).size by rw [rowB_size, HD8.out])
      have HX := Lib.hid (rowB_one D)
      have hsz1 : w.heap.size ≤ w1.heap.size := Nat.le_trans hsz hb1.size
      have HB1 := Lib.hid hb1
      clear hb1
      go_upto_region 6 with (refine wpList_store_row rfl 120 (.tmp 6) (.tmp 18) rfl w1.heap.size (rowB D) rfl rfl 120 _ (heap_alloc_new _ _) HZ.out HY.out HX.out ?_)
      refine gen_world (Q := fun w => Code.wp _ _ _ _ w) _ (fun W => Below w1.heap.size w1 W ∧ W.heap[w1.heap.size]? = some (.cells (rowB D) 120 (0, 0))) ⟨below_setRow ((Below.refl _ _).alloc (Nat.le_refl _) _) (Nat.le_refl _) _, setRow_heap _ _ _ _ _ _ (heap_alloc_new _ _)⟩ ?_
      rintro W ⟨hbW, hrow⟩
      have hbr : Below wr.heap.size wr W := HB1.out.trans (hbW.mono HB1.out.size)
      have hszW : w.heap.size ≤ W.heap.size := Nat.le_trans hsz1 hbW.size
      have HO := Lib.hid (owns_below HJn.out.own hbr)
      have HBW := Lib.hid (HJn.out.below.trans (hbr.mono hsz))
      have HSrc : Hid (Sl W (some ⟨w1.heap.size, 0, none⟩) 8 (D.map (Value.int .u8))) := by
        refine ⟨by simp [HD8.out], by unfold maxLen; omega, (fun h => by cases h), fun _ => ⟨_, _, rfl, fun i v hv => ?_⟩⟩
        rw [cell_of_row _ _ _ _ _ _ hrow, ← hv]
        simp [rowB]
      have HB4 := Lib.hid (show (D.map (Value.int .u8)).length = 8 by rw [List.length_map, HD8.out])
      rw [HNn.out] at HO
      have hr4 := run_arr0 w1.heap.size
      clear hbW hrow hbr hcr HB1 HZ HY HX HD8
      go_wp2_with (refine wpList_append_sl 24 5 1 (.int .u8 0) Try.underlying24 info5 rfl (by decide) rfl (.tmp 19) (.tmp 20) rfl w.heap.size (.slice sv n cv) n 8 _ _ rfl HO.out (some ⟨w1.heap.size, 0, none⟩) 8 rfl HB4.out HSrc.out (map_one _) hnb hszW ?_; intro v2 w2 hown2 hg2)
      have HB4' := Lib.hid (HBW.out.trans (Below.ofGrown hg2 hszW (fun g e => (HO.out.lt g e).1)))
      have HO4 := Lib.hid hown2
      clear hg2 hown2 hr4
      go_roundw
      case rel =>
        refine ⟨j + 1, by omega, by go_num, ?_, HB4'.out⟩
        have := HO4.out
        rw [← List.map_append, ← HJs.out, ← HNn.out] at this
        exact this
      case measure => simp [intOf]; omega
    · obtain rfl : j = N := by omega
      have hdf2 : decide (j < j) = false := by simp
      have HSl2 := HSl
      rw [List.take_of_length_le (by rw [HN.out]; omega)] at HSl2
      clear hlt
      go_wp2
      go_ret
      exact ⟨sv, cv, by rw [← HMm.out]; rfl, ⟨HSl2.out, rng_nums l⟩, HJn.out.below⟩
end
end Go.Proofs.Ytkfkjapkcjidnaa.Cd
-- from Cc
namespace Go.Proofs.Ytkfkjapkcjidnaa.Cd
section
open Go.ChangeShapes Go.WideShapes Go.ChangeAt Go.RowKit
set_option maxRecDepth 100000 in
set_option maxHeartbeats 2000000 in
theorem bytes_any (w : World) (sp sq : Option Addr) (n m cp cq : Nat) (a b : List Int) (hn : a.length = n) (hm : b.length = m) (ha : Bytes w sp cp a) (hb : Bytes w sq cq b) :
    Calls Try.prog 14 #[.slice sp n cp, .slice sq m cq] w (Told (decide (a = b)) w) := by
  have hnl : n ≤ 9223372036854775807 := by rw [← hn]; exact ha.len
  have hml : m ≤ 9223372036854775807 := by rw [← hm]; exact hb.len
  have HN := Lib.hid hn
  have HM := Lib.hid hm
  have HA := Lib.hid ha
  have HB := Lib.hid hb
  clear hn hm ha hb
  by_cases hne : n = m
  · have hd : ((n : Int) != (m : Int)) = false := by rw [hne]; simp
    subst hne
    go_enter Try.func14, Try.ntmps14
    go_wp2
    go_loopw [5] (fun i wr => ∃ k : Nat, k ≤ n ∧ i = .int .i64 k ∧ a.take k = b.take k ∧ ∃ q, wr = w.drewN q) (fun i _ => n - (intOf i).toNat)
    case atStart => exact ⟨0, by omega, rfl, rfl, 0, rfl⟩
    case round =>
      obtain ⟨k, hk, rfl, heq, q, rfl⟩ := hrel
      have HEq := Lib.hid heq
      clear heq
      by_cases hlt : k < n
      · have hdt : decide (k < n) = true := by simp; omega
        obtain ⟨c, o, rfl, hc1⟩ := HA.out.at_ k (by rw [HN.out]; exact hlt)
        obtain ⟨c', o', rfl, hc2⟩ := HB.out.at_ k (by rw [HM.out]; exact hlt)
        have HS1 := Lib.hid (take_snocI a k (by rw [HN.out]; exact hlt))
        have HS2 := Lib.hid (take_snocI b k (by rw [HM.out]; exact hlt))
        obtain ⟨x, hx⟩ : ∃ x, a.getD k 0 = x := ⟨_, rfl⟩
        obtain ⟨y, hy⟩ : ∃ y, b.getD k 0 = y := ⟨_, rfl⟩
        rw [hx] at hc1 HS1
        rw [hy] at hc2 HS2
        have HX := Lib.hid hx
        have HY := Lib.hid hy
        clear hx hy
        by_cases hxy : x = y
        · subst hxy
          have hd2 : (x != x) = false := by simp
          go_wp2
          go_quiet (fail)
          go_wp2
          go_roundw
          case rel => exact ⟨k + 1, by omega, by go_num, by rw [HS1.out, HS2.out, HEq.out], _, rfl⟩
          case measure => simp [intOf]; omega
        · have hd2 : (x != y) = true := by simpa using hxy
          have HNe : Hid (decide (a = b) = false) := by
            refine Lib.hid (decide_eq_false (fun e => hxy ?_))
            rw [← HX.out, ← HY.out, e]
          clear hxy
          go_wp2
          go_quiet (fail)
          go_wp2
          go_ret
          exact ⟨by rw [HNe.out]; rfl, q + nq, by rw [World.drewN_drewN]⟩
      · obtain rfl : k = n := by omega
        have hdf : decide (k < k) = false := by simp
        have HE : Hid (decide (a = b) = true) := by
          have := HEq.out
          rw [List.take_of_length_le (by rw [HN.out]; omega), List.take_of_length_le (by rw [HM.out]; omega)] at this
          exact Lib.hid (decide_eq_true this)
        go_wp2
        go_ret
        exact ⟨by rw [HE.out]; rfl, _, rfl⟩
  · have hd : ((n : Int) != (m : Int)) = true := by simp; omega
    have HNe : Hid (decide (a = b) = false) := Lib.hid (decide_eq_false (fun e => hne (by rw [← HN.out, ← HM.out, e])))
    clear hne
    go_enter Try.func14, Try.ntmps14
    go_wp2
    go_ret
    exact ⟨by rw [HNe.out]; rfl, 0, rfl⟩
end
end Go.Proofs.Ytkfkjapkcjidnaa.Cd
-- from Ci
namespace Go.Proofs.Ytkfkjapkcjidnaa.Cd
section
open Go.ChangeShapes Go.WideShapes Go.ChangeAt Go.RowKit
/-- the number of eight bytes, read as int64 -/
def num (l : List Int) : Int := IntKind.i64.wrap (val l)
theorem or_byte (v x : Int) (h1 : 0 ≤ v) (h2 : v < 72057594037927936) (h3 : 0 ≤ x) (h4 : x < 256) : bits .or .u64 (IntKind.u64.wrap (v * 256)) x = 256 * v + x := by
  obtain ⟨a, rfl⟩ := Int.eq_ofNat_of_zero_le h1
  obtain ⟨b, rfl⟩ := Int.eq_ofNat_of_zero_le h3
  have e : IntKind.u64.wrap ((a : Int) * 256) = ((a * 256 : Nat) : Int) := by
    simp [IntKind.wrap, IntKind.bits, IntKind.signed]; omega
  rw [e, u64_or_nat _ _ (by omega) (by omega), nat_join 8 _ _ (by omega) (by omega)]
  omega
theorem pow_small : ∀ (k : Nat) (v : Int), k < 8 → v < 256 ^ k → v < 72057594037927936
  | 0, v, _, h => by simp at h; omega
  | 1, v, _, h => by simp at h; omega
  | 2, v, _, h => by simp at h; omega
  | 3, v, _, h => by simp at h; omega
  | 4, v, _, h => by simp at h; omega
  | 5, v, _, h => by simp at h; omega
  | 6, v, _, h => by simp at h; omega
  | 7, v, _, h => by simp at h; omega
  | k + 8, _, hk, _ => absurd hk (by omega)
theorem val_take (l : List Int) (k : Nat) (h : k < l.length) : val (l.take (k + 1)) = 256 * val (l.take k) + l.getD k 0 := by
  rw [List.take_succ_eq_append_getElem h, val_snoc]
  simp [h]
set_option maxRecDepth 100000 in
set_option maxHeartbeats 2000000 in
theorem number_any (l : List Int) (w : World) (hl : l.length = 8) (hr : rng l) : Calls Try.prog 64 #[.agg (rowB l)] w fun e w' => e = .returned (.int .i64 (num l)) ∧ Below w.heap.size w w' := by
  go_enter Try.func64, Try.ntmps64
  go_wp2
  have hcell : ∀ i, i < 8 → (w.alloc (.cells (rowB l) 120)).cell? ⟨w.heap.size, i, none⟩ = some (.int .u8 (l.getD i 0)) := by
    intro i hi
    rw [cell_of_row _ _ _ _ _ _ (heap_alloc_new _ _), rowB_get _ _ (by omega)]
  have HC := Lib.hid hcell
  have HL := Lib.hid hl
  have HR : Hid (rng l) := hr
  clear hcell hl hr
  go_loop [3, 5] (fun b i => ∃ k : Nat, k ≤ 8 ∧ i = .int .i64 k ∧ b = .int .u64 (val (l.take k))) (fun _ i => 8 - (intOf i).toNat)
  case atStart => exact ⟨0, by omega, rfl, rfl⟩
  case round =>
    obtain ⟨k, hk, rfl, rfl⟩ := hrel
    by_cases hlt : k < 8
    · have hdt : decide ((k : Int) < 8) = true := by simp; omega
      have c1 := HC.out k hlt
      have hx : 0 ≤ l.getD k 0 ∧ l.getD k 0 < 256 := HR.out _ (by simp [HL.out, hlt])
      obtain ⟨h1, h2⟩ := val_bound k (l.take k) (by simp [HL.out]; omega) (rng_take HR.out k)
      obtain ⟨x, hX⟩ : ∃ x, l.getD k 0 = x := ⟨_, rfl⟩
      obtain ⟨v, hV⟩ : ∃ v, val (l.take k) = v := ⟨_, rfl⟩
      rw [hX] at c1 hx
      rw [hV] at h1 h2 ⊢
      have HX := Lib.hid hX
      have HV := Lib.hid hV
      clear hX hV
      have h3 : v < 72057594037927936 := pow_small k v hlt h2
      obtain ⟨hx1, hx2⟩ := hx
      have ho := or_byte v x h1 h3 hx1 hx2
      have HT := Lib.hid (val_take l k (by rw [HL.out]; exact hlt))
      rw [HX.out, HV.out] at HT
      clear h1 h2 h3
      go_wp2
      go_round
      case rel => exact ⟨k + 1, by omega, by go_num, by rw [HT.out]⟩
      case measure => simp [intOf]; omega
    · obtain rfl : k = 8 := by omega
      clear hk hlt
      rw [show ((8 : Nat) : Int) = 8 from rfl, List.take_of_length_le (by rw [HL.out]; omega)]
      have hdf : decide ((8 : Int) < 8) = false := by decide
      have hn : IntKind.i64.wrap (val l) = num l := rfl
      go_wp2
      go_ret
      exact ⟨rfl, (Below.refl _ _).alloc (Nat.le_refl _) _⟩
end
section
open Go.ChangeShapes Go.WideShapes Go.ChangeAt Go.RowKit
/-- b[k:] -/
theorem run_cut (sp : Option Addr) (m cap k : Nat) (hk : k ≤ m) (w : World) : (Instr.slice 24 (.slice sp m cap) (some (.int .i64 (k : Int))) none none).run Try.prog w = .ok (.slice (cutA sp cap k) (m - k) (cap - k)) w := by
  cases hq : Try.prog.info? 5 with
  | none => have := size5; simp [hq] at this
  | some i =>
    have hi : i.size = 1 := by have := size5; simpa [hq] using this
    simp only [Instr.slice, run_underlying Try.underlying24, Instr.sliceBounds, Instr.sliceBound, asIntOf, sizeOf, typeInfo, Sem.run_bind, Result.andThen_ok, Sem.run_pure, Sem.run_ite]
    simp [hq, hi, hk, cutA]
end
section
open Go.ChangeShapes Go.WideShapes Go.ChangeAt Go.RowKit
theorem Bytes.srcOf {w w' : World} {sp : Option Addr} {cap : Nat} {l : List Int} (h : Bytes w sp cap l) (hk : ∀ a v, w.cell? a = some v → w'.cell? a = some v) (k g off : Nat) :
    0 < ((l.take k).map (Value.int .u8)).length → (some ⟨g, off, none⟩ : Option Addr) = some ⟨g, off, none⟩ ∧ ∃ ad, sp = some ad ∧ ∀ j v, ((l.take k).map (Value.int .u8))[j]? = some v → w'.cell? (ad.add j) = some v := by
  intro hp
  simp at hp
  obtain ⟨c, o, rfl, hl⟩ := h.sl.lies (by simp; omega)
  refine ⟨rfl, _, rfl, fun j v hv => ?_⟩
  rw [add_plain]
  refine hk _ _ (hl j v ?_)
  rw [← hv]
  have hj : j < k := by
    have := (List.getElem?_eq_some_iff.1 hv).1
    simp at this
    omega
  simp [hj]
end
section
open Go.ChangeShapes Go.WideShapes Go.ChangeAt Go.RowKit
/-- the first q numbers of bytes -/
def ints (l : List Int) (q : Nat) : List Int := (List.range q).map (fun i => num ((l.drop (8 * i)).take 8))
theorem ints_length (l : List Int) (q : Nat) : (ints l q).length = q := by simp [ints]
theorem ints_succ (l : List Int) (q : Nat) : ints l (q + 1) = ints l q ++ [num ((l.drop (8 * q)).take 8)] := by simp [ints, List.range_succ]
/-- a row of numbers -/
def rowI (l : List Int) : Array Value := (l.map (Value.int .i64)).toArray
theorem rowI_get (l : List Int) (i : Nat) (h : i < l.length) : (rowI l)[i]? = some (.int .i64 (l.getD i 0)) := by
  simp [rowI, h, List.getD]
theorem rowI_set (l : List Int) (i : Nat) (x : Int) : (rowI l).setIfInBounds i (.int .i64 x) = rowI (l.set i x) := by
  apply Array.ext'
  simp [rowI]
theorem made_nums (q : Nat) : madeCells #[Value.int .i64 0] q = rowI (List.replicate q 0) := by
  apply Array.ext
  · simp [madeCells, rowI]
  · intro i h1 h2
    simp [madeCells, rowI, Nat.mod_one]
/-- k numbers of q written -/
def part (l : List Int) (q k : Nat) : List Int := ints l k ++ List.replicate (q - k) 0
theorem part_length (l : List Int) (q k : Nat) (h : k ≤ q) : (part l q k).length = q := by simp [part, ints_length]; omega
theorem part_set (l : List Int) (q k : Nat) (h : k < q) : (part l q k).set k (num ((l.drop (8 * k)).take 8)) = part l q (k + 1) := by
  unfold part
  rw [ints_succ, show q - k = (q - (k + 1)) + 1 by omega, List.replicate_succ, List.set_append_right _ _ (by rw [ints_length]; exact Nat.le_refl _)]
  simp [ints_length]
structure Ni (w : World) (l : List Int) (q k : Nat) (wr : World) : Prop where
  below : Below w.heap.size w wr
  row : wr.heap[w.heap.size]? = some (.cells (rowI (part l q k)) 3 (0, 0))
theorem splice0 (t : List Int) (h : t.length = 8) : splice ((zs 8).map (Value.int .u8)) 0 (t.map (Value.int .u8)) = t.map (Value.int .u8) := by
  have e : zs 8 = [0, 0, 0, 0, 0, 0, 0, 0] := rfl
  simp [splice, h, e]
theorem ints_bad (w : World) (sp : Option Addr) (m cap : Nat) (hm : m % 8 ≠ 0) (hml : m ≤ 100000) :
    Calls Try.prog 65 #[.slice sp m cap] w fun e w' => e = .returned (.tuple #[.slice none 0 0, .int .i64 11]) ∧ w = w' := by
  have hd : (((m : Int) % 8) != 0) = true := by rw [bne_iff_ne]; omega
  go_enter Try.func65, Try.ntmps65
  go_wp2
  exact bodyPost_ret (v := .tuple #[.slice none 0 0, .int .i64 11]) (by simp [results, Try.results65, go_sem]) rfl ⟨rfl, rfl⟩
set_option maxRecDepth 100000 in
set_option maxHeartbeats 4000000 in
theorem ints_okB (w : World) (sp : Option Addr) (m cap q : Nat) (l : List Int) (hm : l.length = m) (hq : m = 8 * q) (hb : Bytes w sp cap l) (hml : m ≤ 100000) :
    Calls Try.prog 65 #[.slice sp m cap] w fun e w' => ∃ g, w.heap.size ≤ g ∧ e = .returned (.tuple #[.slice (some ⟨g, 0, none⟩) q q, .int .i64 0]) ∧ Nums w' (some ⟨g, 0, none⟩) q (ints l q) ∧ Below w.heap.size w w' := by
  have hd : (((m : Int) % 8) != 0) = false := by rw [hq]; simp
  have hdv : (m : Int) / 8 = (q : Int) := by omega
  have hq8 : q ≤ 100000 := by omega
  have HM := Lib.hid hm
  have HQ := Lib.hid hq
  have HB := Lib.hid hb
  have hle := hb.le
  rw [hm] at hle
  clear hm hq hb
  go_enter Try.func65, Try.ntmps65
  go_wp2_with (refine wpList_makeN 26 3 8 (.int .i64 0) Try.underlying26 info3 (by decide) rfl (.tmp 13) (.tmp 13) rfl q rfl rfl (by omega) ?_)
  have hni : Ni w l q 0 (w.alloc (.cells (madeCells #[Value.int .i64 0] q) 3)) := ⟨(Below.refl _ _).alloc (Nat.le_refl _) _, by rw [made_nums]; exact heap_alloc_new _ _⟩
  clear hdv hd
  go_loopw [17] (fun i wr => ∃ k : Nat, k ≤ q ∧ i = .int .i64 k ∧ Ni w l q k wr) (fun i _ => q - (intOf i).toNat)
  case atStart => exact ⟨0, by omega, rfl, hni⟩
  case round =>
    clear hni
    obtain ⟨k, hk, rfl, hni⟩ := hrel
    have HNi := Lib.hid hni
    clear hni
    by_cases hlt : k < q
    · have hdt : decide (k < q) = true := by simp; omega
      have h8 : 8 * k ≤ m := by rw [HQ.out]; omega
      have h88 : 8 * k + 8 ≤ m := by rw [HQ.out]; omega
      have kC := run_cut sp m cap (8 * k) h8
      have e8 : ((8 * k : Nat) : Int) = 8 * (k : Int) := by omega
      rw [e8] at kC
      clear e8
      have HBk := Lib.hid ((HB.out.below HNi.out.below).cut (8 * k) (by rw [HM.out]; exact h8))
      have HTl := Lib.hid (show ((l.drop (8 * k)).take 8).length = 8 by rw [List.length_take, List.length_drop, HM.out]; omega)
      have HTr : Hid (rng ((l.drop (8 * k)).take 8)) := Lib.hid (rng_take (rng_drop HB.out.rng _) 8)
      have HC1 := Lib.hid (show (((l.drop (8 * k)).take 8).map (Value.int .u8)).length = Nat.min (m - 8 * k) 8 by rw [List.length_map, HTl.out]; exact (Nat.min_eq_right (by omega)).symm)
      have HC2 := Lib.hid (show 0 + (((l.drop (8 * k)).take 8).map (Value.int .u8)).length ≤ ((zs 8).map (Value.int .u8)).length by rw [List.length_map, HTl.out]; decide)
      have HSp := Lib.hid (splice0 _ HTl.out)
      have HSrc := fun w' h => HBk.out.srcOf (w' := w') h 8 wr.heap.size 0
      have HSrc := Lib.hid HSrc
      have HPs := Lib.hid (part_set l q k hlt)
      have HPl := Lib.hid (part_length l q k hk)
      obtain ⟨T, hT⟩ : ∃ T, (l.drop (8 * k)).take 8 = T := ⟨_, rfl⟩
      rw [hT] at HTl HTr HC1 HC2 HSp HSrc HPs
      clear hT
      have hw8 : IntKind.i64.wrap (8 * (k : Int)) = 8 * (k : Int) := IntWalk.i64_in _ (by omega)
      have r0 := run_arr0 wr.heap.size
      go_upto_region 8 with fail
      refine gen_world (Q := fun w => Code.wp _ _ _ _ w) _ (fun W => Below wr.heap.size wr W ∧ W.heap[wr.heap.size]? = some (.cells ((zs 8).map (Value.int .u8)).toArray 120 (0, 0))) ⟨(Below.refl _ _).alloc (Nat.le_refl _) _, heap_alloc_new _ _⟩ ?_
      rintro W ⟨hbW, hrW⟩
      have HBW : Hid (Below wr.heap.size wr W.drew) := Lib.hid hbW.drew
      have HRW : Hid (W.drew.heap[wr.heap.size]? = some (.cells ((zs 8).map (Value.int .u8)).toArray 120 (0, 0))) := Lib.hid hrW
      have HKc : Hid (∀ a v, wr.cell? a = some v → W.drew.cell? a = some v) := Lib.hid (fun a v h => (hbW.drew.cell (block_lt_of_cell h)).trans h)
      clear hbW hrW
      go_still_tail 5, (by kernel_rfl)
      change wpList _ _ _ _ _ W.drew
      generalize W.drew = w1 at HBW HRW HKc ⊢
      go_upto_region 9 with (refine wpList_copy_splice rfl (.tmp 20) (.tmp 24) 24 24 rfl 5 Try.underlying24 size5 _ _ 8 8 (m - 8 * k) (cap - 8 * k) rfl rfl wr.heap.size 0 ((zs 8).map (Value.int .u8)) 120 HRW.out (T.map (Value.int .u8)) HC1.out (HSrc.out _ HKc.out) HC2.out (map_one _) wr.heap.size _ HBW.out (Nat.le_refl _) ?_; intro w2 H2 hb2)
      have hrow2 : w2.heap[wr.heap.size]? = some (.cells (rowB T) 120 (0, 0)) := by
        have := H2.out
        rw [HSp.out] at this
        exact this
      have HRow2 := Lib.hid hrow2
      have HW2 := Lib.hid hb2
      have HZ := Lib.hid (show (Try.prog.info? 120).map (·.size) = some (rowB T).size by rw [rowB_size, HTl.out]; exact sizeWd)
      have hgs : w.heap.size < wr.heap.size := (Array.getElem?_eq_some_iff.1 HNi.out.row).1
      clear hrow2 hb2 H2 HRW HBW HKc HC1 HC2 HSrc HSp kC r0 hw8
      go_wp2_with (refine wpList_load_row rfl 120 (.tmp 6) rfl wr.heap.size rfl 120 (rowB T) (0, 0) _ HRow2.out Try.underlying120 rfl HZ.out ?_)
      refine (number_any T w2 HTl.out HTr.out).mono ?_
      rintro e w3 ⟨rfl, hb3⟩
      have hrow3 : w3.heap[w.heap.size]? = some (.cells (rowI (part l q k)) 3 (0, 0)) := by
        rw [hb3.block _ (Nat.lt_of_lt_of_le hgs HW2.out.size), HW2.out.block _ hgs]
        exact HNi.out.row
      have HRow3 := Lib.hid hrow3
      have HW3 := Lib.hid (HNi.out.below.trans ((HW2.out.trans (hb3.mono HW2.out.size)).mono HNi.out.below.size))
      have c1 : w3.cell? ⟨w.heap.size, k, none⟩ = some (.int .i64 ((part l q k).getD k 0)) := by rw [cell_of_row _ _ _ _ _ _ hrow3, rowI_get _ _ (by rw [HPl.out]; exact hlt)]
      have f1 : w3.frozen? ⟨w.heap.size, k, none⟩ = false := frozen_of_row _ _ _ _ _ hrow3
      obtain ⟨x, hx⟩ : ∃ x, num T = x := ⟨_, rfl⟩
      rw [hx] at HPs ⊢
      clear hrow3 hb3 hx
      go_wp2
      clear c1 f1
      go_roundw
      case rel => exact ⟨k + 1, by omega, by go_num, HW3.out.setCell (Nat.le_refl _) _, by rw [heap_setCell_same _ _ _ _ _ _ HRow3.out, rowI_set, HPs.out]⟩
      case measure => simp [intOf]; omega
    · obtain rfl : k = q := by omega
      have hdf : decide (k < k) = false := by simp
      go_wp2
      refine bodyPost_ret (v := .tuple #[.slice (some ⟨w.heap.size, 0, none⟩) k k, .int .i64 0]) (by simp [results, Try.results65, go_sem]) rfl ⟨w.heap.size, Nat.le_refl _, rfl, ?_, HNi.out.below⟩
      refine ⟨by simp [ints_length], by unfold maxLen; omega, (fun h => by cases h), fun _ => ⟨_, _, rfl, fun i v hv => ?_⟩⟩
      rw [cell_of_row _ _ _ _ _ _ HNi.out.row, ← hv]
      simp [rowI, part]
theorem ints_ok (w : World) (sp : Option Addr) (m cap q : Nat) (l : List Int) (hm : l.length = m) (hq : m = 8 * q) (hb : Bytes w sp cap l) (hml : m ≤ 100000) :
    Calls Try.prog 65 #[.slice sp m cap] w fun e w' => ∃ g, e = .returned (.tuple #[.slice (some ⟨g, 0, none⟩) q q, .int .i64 0]) ∧ Nums w' (some ⟨g, 0, none⟩) q (ints l q) ∧ Below w.heap.size w w' :=
  (ints_okB w sp m cap q l hm hq hb hml).mono fun _ _ ⟨g, _, h⟩ => ⟨g, h⟩
end
end Go.Proofs.Ytkfkjapkcjidnaa.Cd
