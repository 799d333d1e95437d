import Derived.Laws.CopyOwn
import Derived.Laws.AppendOwnNone
import Derived.Laws.MakeOwn
import Derived.Laws.OwnMore
import Derived.Test.YtchjijifmjbgoaaDoorHb
import Derived.Test.YtchjijifmjbgoaaDoorGb
namespace Go.Proofs.YtchjijifmjbgoaaDoor.Tn
open Go.ChangeShapes Go.WideShapes Go.ChangeAt Go.RowKit Go.Proofs.YtchjijifmjbgoaaDoor.Fx Go.Proofs.YtchjijifmjbgoaaDoor.Rf

/-- the values of xs lie at c from o on -/
def Lies (w : World) (c o : Nat) (xs : List Value) : Prop := ∀ i v, xs[i]? = some v → w.cell? ⟨c, o + i, none⟩ = some v
theorem add_plain (c o i : Nat) : (⟨c, o, none⟩ : Addr).add i = ⟨c, o + i, none⟩ := by unfold Addr.add; split <;> simp_all
theorem Lies.drop {w : World} {c o : Nat} {l : List Value} (h : Lies w c o l) (k : Nat) : Lies w c (o + k) (l.drop k) := by
  intro i v hv
  rw [List.getElem?_drop] at hv
  have := h _ v hv
  rwa [← Nat.add_assoc] at this
theorem Lies.take {w : World} {c o : Nat} {l : List Value} (h : Lies w c o l) (k : Nat) : Lies w c o (l.take k) := by
  intro i v hv
  rw [List.getElem?_take] at hv
  split at hv
  · exact h i v hv
  · cases hv
theorem Lies.lt {w : World} {c o : Nat} {l : List Value} (h : Lies w c o l) (h0 : 0 < l.length) : c < w.heap.size :=
  block_lt_of_cell (h 0 _ (List.getElem?_eq_getElem h0))
theorem Lies.src {w : World} {c o : Nat} {l : List Value} (h : Lies w c o l) : ∀ j v, l[j]? = some v → w.cell? ((⟨c, o, none⟩ : Addr).add j) = some v := by
  intro j v hv
  rw [add_plain]
  exact h j v hv

/-- a slice that reads as the values xs (nil: none) -/
structure Sl (w : World) (sp : Option Addr) (cap : Nat) (xs : List Value) : Prop where
  le : xs.length ≤ cap
  max : cap ≤ maxLen
  nul : sp = none → cap = 0
  lies : 0 < xs.length → ∃ c o, sp = some ⟨c, o, none⟩ ∧ Lies w c o xs
section
variable {w w' : World} {sp : Option Addr} {cap : Nat} {xs : List Value}
theorem Sl.nil (w : World) : Sl w none 0 [] := ⟨Nat.le_refl _, by unfold maxLen; omega, fun _ => rfl, fun h => absurd h (by simp)⟩
theorem Sl.kept (h : Sl w sp cap xs) (hk : ∀ a v, w.cell? a = some v → w'.cell? a = some v) : Sl w' sp cap xs :=
  ⟨h.le, h.max, h.nul, fun h0 => by
    obtain ⟨c, o, e, hl⟩ := h.lies h0
    exact ⟨c, o, e, fun i v hv => hk _ _ (hl i v hv)⟩⟩
theorem Sl.below (h : Sl w sp cap xs) {B : Nat} (hB : w.heap.size ≤ B) (hb : Below B w w') : Sl w' sp cap xs :=
  h.kept fun _ _ hc => (hb.cell (Nat.lt_of_lt_of_le (block_lt_of_cell hc) hB)).trans hc
theorem Sl.drewN (h : Sl w sp cap xs) (n : Nat) : Sl (w.drewN n) sp cap xs := h.kept fun _ _ hc => hc
theorem Sl.drew (h : Sl w sp cap xs) : Sl w.drew sp cap xs := h.kept fun _ _ hc => hc
/-- what lies below B stays, whatever is written from B on -/
theorem Sl.under (h : Sl w sp cap xs) {B : Nat} (hs : ∀ c o, sp = some ⟨c, o, none⟩ → 0 < xs.length → c < B) (hb : Below B w w') : Sl w' sp cap xs :=
  ⟨h.le, h.max, h.nul, fun h0 => by
    obtain ⟨c, o, e, hl⟩ := h.lies h0
    exact ⟨c, o, e, fun i v hv => (hb.cell (p := ⟨c, o + i, none⟩) (hs c o e h0)).trans (hl i v hv)⟩⟩
/-- the address behind k cells -/
def cutA (sp : Option Addr) (cap k : Nat) : Option Addr := if cap = k then sp else sp.map (·.add k)
theorem Sl.cut (h : Sl w sp cap xs) (k : Nat) (hk : k ≤ xs.length) : Sl w (cutA sp cap k) (cap - k) (xs.drop k) := by
  have hle := h.le
  refine ⟨by simp; omega, by have := h.max; omega, fun e => ?_, fun h0 => ?_⟩
  · unfold cutA at e
    split at e
    · omega
    · rcases sp with _ | a
      · have := h.nul rfl; omega
      · cases e
  · simp at h0
    obtain ⟨c, o, rfl, hl⟩ := h.lies (by omega)
    refine ⟨c, o + k, ?_, hl.drop k⟩
    unfold cutA
    rw [if_neg (by omega), Option.map_some, add_plain]
theorem Sl.first (h : Sl w sp cap xs) (k : Nat) : Sl w sp cap (xs.take k) := by
  have hle := h.le
  refine ⟨by simp; omega, h.max, h.nul, fun h0 => ?_⟩
  simp at h0
  obtain ⟨c, o, rfl, hl⟩ := h.lies (by omega)
  exact ⟨c, o, rfl, hl.take k⟩
theorem Sl.len (h : Sl w sp cap xs) : xs.length ≤ 9223372036854775807 := by have h1 := h.le; have h2 := h.max; unfold maxLen at h2; omega
end
/-- a slice that reads as numbers -/
def Nums (w : World) (sp : Option Addr) (cap : Nat) (l : List Int) : Prop := Sl w sp cap (l.map (Value.int .i64))
theorem Nums.at_ {w : World} {sp : Option Addr} {cap : Nat} {l : List Int} (h : Nums w sp cap l) (k : Nat) (hk : k < l.length) : ∃ c o, sp = some ⟨c, o, none⟩ ∧ w.cell? ⟨c, o + k, none⟩ = some (.int .i64 (l.getD k 0)) := by
  obtain ⟨c, o, rfl, hl⟩ := h.lies (by simp; omega)
  exact ⟨c, o, rfl, hl k _ (by simp [hk])⟩
theorem below_drewN {B : Nat} {a w : World} (h : Below B a w) (n : Nat) : Below B a (w.drewN n) := ⟨h.os, h.tape, h.output, h.size, h.block⟩
theorem Below.ofGrown {B : Nat} {w w' : World} {row : Option Nat} (hg : w.grownBy w' row) (hB : B ≤ w.heap.size) (hr : ∀ k, row = some k → B ≤ k) : Below B w w' :=
  ⟨hg.os, hg.tape, hg.output, hg.size, fun k hk => hg.block k (by omega) (fun e => by have := hr _ e.symm; omega)⟩
theorem info3 : (Tryd.prog.info? 3).map (fun i => (i.zero, i.size, i.bytes)) = some (some (.int .i64 0), 1, 8) := by kernel_rfl
theorem size3 : (Tryd.prog.info? 3).map (·.size) = some 1 := by kernel_rfl
theorem Sl.all1 {w : World} {base e n : Nat} {v : Value} {xs : List Value} (h : w.ownsRow base e 1 v n xs) : ∃ sp cap, v = .slice sp n cap ∧ xs.length = n ∧ Sl w sp cap xs ∧ (∀ c o, sp = some ⟨c, o, none⟩ → base ≤ c) := by
  have hl : xs.length = n := by have := h.1; simpa using this
  rcases h.2 with ⟨rfl, rfl⟩ | ⟨g, cap, cur, rfl, hbg, hg, hnc, hcm, _, htake⟩
  · obtain rfl : xs = [] := List.eq_nil_of_length_eq_zero hl
    exact ⟨none, 0, rfl, rfl, Sl.nil w, fun _ _ h => by cases h⟩
  · refine ⟨_, cap, rfl, hl, ⟨by omega, hcm, (fun h => by cases h), fun _ => ⟨g, 0, rfl, fun i v hv => ?_⟩⟩, fun c o h => by cases h; exact hbg⟩
    have := h.cells (g := g) rfl i v hv
    rwa [add_plain] at this
section
variable {w : World} {ops : Array Oper} {rest : List Oper} {o : Oper} {a : Act} {Q : Exit → Act → World → Prop}
/-- append of what lies in a slice to a row of the call's own -/
theorem wpList_append_sl (t e : TypeId) (by_ : Nat) (z : Value) (hu : Tryd.prog.underlying t = some (.slice e)) (hinf : (Tryd.prog.info? e).map (fun i => (i.zero, i.size, i.bytes)) = some (some z, 1, by_)) (hzc : z.cells.size = 1) (hby : by_ ≤ 100)
    (hgd : o.guard = none) (s x : Operand)
    (ho : o.op = .call { callee := .builtin .append, args := #[s, x], argTypes := #[t, t] }) (base : Nat) (v : Value) (n m : Nat) (xs ys : List Value) (hs : a.eval s = v) (hown : w.ownsRow base e 1 v n xs)
    (sp : Option Addr) (cap : Nat) (hx : a.eval x = .slice sp m cap) (hm : ys.length = m) (hb : Sl w sp cap ys) (h1 : ∀ v ∈ ys, v.oneCell' = true) (hn : n + m ≤ 1000000) (hbase : base ≤ w.heap.size)
    (h : ∀ v' w', w'.ownsRow base e 1 v' (n + m) (xs ++ ys) → w.grownBy w' v.ownBlock → wpList Tryd.prog ops Q rest (a.put o.dst v') w') : wpList Tryd.prog ops Q (o :: rest) a w := by
  subst hm
  obtain ⟨i0, hi, hz0, hz1, hz2⟩ := info_parts hinf
  rcases sp with _ | ad
  · obtain rfl := hb.nul rfl
    have h0 : ys = [] := List.eq_nil_of_length_eq_zero (by have := hb.le; omega)
    subst h0
    refine wpList_append_own_none hgd s x t ho base e i0 1 hu hi v n _ hs hown hx ?_
    exact h v w (by simpa using hown) ⟨rfl, rfl, rfl, Nat.le_refl _, fun _ _ _ => rfl⟩
  · have hcells : ∀ j u, ys[j]? = some u → w.cell? (ad.add j) = some u := by
      intro j u hu
      have hj : 0 < ys.length := by
        by_cases h0 : 0 < ys.length
        · exact h0
        · have : ys = [] := List.eq_nil_of_length_eq_zero (by omega)
          subst this
          simp at hu
      obtain ⟨c, o', e, hl⟩ := hb.lies hj
      cases e
      exact hl.src j u hu
    obtain ⟨v', w', hrun, hown', hg, _⟩ := run_append_own (P := Tryd.prog) w base t o.type e i0 z 1 by_ hu hi hz0 hz1 hz2 hzc (by decide) v n _ hown ad ys.length cap ys (by simp) hcells h1
      (by unfold maxLen; omega) (Nat.le_trans (Nat.mul_le_mul hn hby) (by decide)) hbase
    refine wpList_plain hgd fun K hK => ?_
    unfold Oper.wp
    simp [execOp, ho, resolve, invoke, builtin, hs, hx, hrun, Result.andThen]
    exact hK _ _ (h v' w' hown' hg)
/-- make([]T, 0, c) -/
theorem wpList_make0 (t e : TypeId) (by_ : Nat) (z : Value) (hu : Tryd.prog.underlying t = some (.slice e)) (hinf : (Tryd.prog.info? e).map (fun i => (i.zero, i.size, i.bytes)) = some (some z, 1, by_)) (hby : by_ ≤ 100)
    (hgd : o.guard = none) (s x : Operand) (ho : o.op = .makeSlice t s x) (base c : Nat) (hs : a.eval s = .int .i64 0) (hx : a.eval x = .int .i64 (c : Int)) (hc : c ≤ 1000000) (hbase : base ≤ w.heap.size)
    (h : ∀ w', w'.ownsRow base e 1 (.slice (some ⟨w.heap.size, 0, none⟩) 0 c) 0 [] → w.grownBy w' none → wpList Tryd.prog ops Q rest (a.put o.dst (.slice (some ⟨w.heap.size, 0, none⟩) 0 c)) w') : wpList Tryd.prog ops Q (o :: rest) a w := by
  obtain ⟨i0, hi, hz0, hz1, hz2⟩ := info_parts hinf
  obtain ⟨w', hrun, hown, hg⟩ := run_makeSlice_owned (P := Tryd.prog) w base t e i0 z 1 hu hi hz0 hz1 .i64 .i64 c (by omega) (by rw [hz2]; exact Nat.le_trans (Nat.mul_le_mul hby hc) (by decide)) (by unfold maxLen; omega) hbase
  refine wpList_plain hgd fun K hK => ?_
  unfold Oper.wp
  simp [execOp, ho, hs, hx, hrun, Result.andThen]
  exact hK _ _ (h w' hown hg)
end
theorem owns_below {w w' : World} {base e n : Nat} {v : Value} {xs : List Value} (h : w.ownsRow base e 1 v n xs) (hb : Below w.heap.size w w') : w'.ownsRow base e 1 v n xs :=
  h.kept (row := none) ⟨hb.os, hb.tape, hb.output, hb.size, fun k hk _ => hb.block k hk⟩ (by cases v.ownBlock <;> simp)

section
variable {w : World} {ops : Array Oper} {rest : List Oper} {o : Oper} {a : Act} {Q : Exit → Act → World → Prop}
/-- make([]T, n) -/
theorem wpList_makeN (t e : TypeId) (by_ : Nat) (z : Value) (hu : Tryd.prog.underlying t = some (.slice e)) (hinf : (Tryd.prog.info? e).map (fun i => (i.zero, i.size, i.bytes)) = some (some z, 1, by_)) (hby : by_ ≤ 100)
    (hgd : o.guard = none) (s x : Operand) (ho : o.op = .makeSlice t s x) (c : Nat) (hs : a.eval s = .int .i64 (c : Int)) (hx : a.eval x = .int .i64 (c : Int)) (hc : c ≤ 1000000)
    (h : wpList Tryd.prog ops Q rest (a.put o.dst (.slice (some ⟨w.heap.size, 0, none⟩) c c)) (w.alloc (.cells (madeCells z.cells c) e))) : wpList Tryd.prog ops Q (o :: rest) a w := by
  obtain ⟨i0, hi, hz0, hz1, hz2⟩ := info_parts hinf
  have hb : (i0.bytes : Int) * (c : Int) ≤ 281474976710656 := by
    have h1 : i0.bytes * c ≤ 100 * 1000000 := Nat.mul_le_mul (by omega) hc
    have h2 : ((i0.bytes * c : Nat) : Int) ≤ 100000000 := by omega
    rw [Int.natCast_mul] at h2
    omega
  have hrun := run_makeSlice (P := Tryd.prog) w t e i0 z hu hi hz0 .i64 .i64 (c : Int) (c : Int) (by omega) (by omega) (by rw [hz1]; simp; omega) hb (by omega)
  rw [hz1] at hrun
  simp only [Int.toNat_natCast, Nat.mul_one] at hrun
  refine wpList_plain hgd fun K hK => ?_
  unfold Oper.wp
  simp [execOp, ho, hs, hx, hrun, Result.andThen]
  exact hK _ _ h
end
theorem Sl.new (w : World) (l : List Value) (cs : Array Value) (t : TypeId) (fr : Nat × Nat) (hc : cs = l.toArray) (hl : l.length ≤ 1000000) : Sl (w.alloc (.cells cs t fr)) (some ⟨w.heap.size, 0, none⟩) l.length l := by
  subst hc
  refine ⟨by simp, by unfold maxLen; omega, (fun h => by cases h), fun _ => ⟨_, _, rfl, fun i v hv => ?_⟩⟩
  rw [cell_of_row _ _ _ _ _ _ (heap_alloc_new _ _), ← hv]
  simp
theorem one_ints (l : List Int) : ∀ v ∈ l.map (Value.int .i64), v.oneCell' = true := by
  intro v hv
  obtain ⟨x, _, rfl⟩ := List.mem_map.1 hv
  rfl
theorem Nums.below {w w' : World} {sp : Option Addr} {cap : Nat} {l : List Int} (h : Nums w sp cap l) (hb : Below w.heap.size w w') : Nums w' sp cap l := Sl.below h (Nat.le_refl _) hb
theorem Nums.len {w : World} {sp : Option Addr} {cap : Nat} {l : List Int} (h : Nums w sp cap l) : l.length ≤ 9223372036854775807 := by have := Sl.len h; simpa using this
theorem Nums.cap {w : World} {sp : Option Addr} {cap : Nat} {l : List Int} (h : Nums w sp cap l) : l.length ≤ cap ∧ cap ≤ 9223372036854775807 := by
  have h1 := h.le
  have h2 := h.max
  unfold maxLen at h2
  rw [List.length_map] at h1
  omega
/-- what the call owns is a slice of numbers -/
theorem own_nums {w : World} {base n : Nat} {v : Value} {l : List Int} (h : w.ownsRow base 3 1 v n (l.map (Value.int .i64))) : ∃ sp cap, v = .slice sp n cap ∧ l.length = n ∧ Nums w sp cap l := by
  obtain ⟨sp, cap, e, hl, hs, _⟩ := Sl.all1 h
  exact ⟨sp, cap, e, by simpa using hl, hs⟩
end Go.Proofs.YtchjijifmjbgoaaDoor.Tn
