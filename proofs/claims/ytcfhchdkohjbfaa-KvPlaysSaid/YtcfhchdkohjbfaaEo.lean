/- Pools of rows in pages: what came in. -/
import Derived.Test.YtcfhchdkohjbfaaBt
import Derived.ChangeMaps5
import Derived.Deep.DeepHandedRow
import Derived.Deep.Slices
import Derived.Deep.Fields
import Derived.Deep.MidRow
import Derived.ChangeSame
import Derived.Lib.SmallJoins
import Derived.Lib.LaidTab
import Derived.Carry
import Derived.Lay
import Derived.Stop.LaidErr
namespace Go.Proofs.Ytcfhchdkohjbfaa.Kv
set_option maxRecDepth 100000
open Go.Deep Go.ChangeShapes Go.WideShapes Go.ChangeAt Go.RowKit Go.Proofs.Ytcfhchdkohjbfaa.Tn

/-! ### what came in: numbers, bytes, pairs, a book -/
theorem own : ownKnob Try.prog.godebug = none := by kernel_rfl
theorem laidOut : laidOutB Try.prog = true := by kernel_rfl
theorem cellsByte : Try.prog.cellsOf 5 = 1 := by kernel_rfl
theorem cells3 : Try.prog.cellsOf 3 = 1 := by kernel_rfl
theorem cell_plain {W : World} {a : Addr} {v : Value} (h : W.cell? a = some v) : a.spot = none := by
  obtain ⟨b, o, s⟩ := a
  cases s with
  | none => rfl
  | some k =>
    exfalso
    simp [World.cell?] at h
    split at h <;> cases h
theorem add_zero (a : Addr) : a.add 0 = a := by
  obtain ⟨b, o, s⟩ := a
  unfold Addr.add
  simp
theorem int_wfT {n : Int} (h : (Lit.int .i64 n).wf = true) : -9223372036854775808 ≤ n ∧ n ≤ 9223372036854775807 := by
  simp [Lit.wf, IntKind.min, IntKind.max, IntKind.bits, IntKind.signed] at h
  omega
/-- a slice of whole numbers, out of its cells -/
theorem sl_of {W : World} {a : Addr} {len cap : Nat} {k : IntKind} {zs : List Int} (hl : len ≤ cap) (hm : cap ≤ maxLen) (hz : zs.length = cap) (hcell : ∀ i, i < zs.length → W.cell? (a.add i) = some (.int k (zs.getD i 0))) : Sl W (some a) cap ((zs.take len).map (Value.int k)) := by
  refine ⟨by simp; omega, hm, (fun h => by cases h), fun hp => ?_⟩
  simp at hp
  have h0 := cell_plain (hcell 0 (by omega))
  rw [add_zero] at h0
  obtain ⟨b, o, s⟩ := a
  have hs : s = none := h0
  subst hs
  refine ⟨b, o, rfl, fun i v hv => ?_⟩
  have hi : i < len ∧ i < zs.length := by
    have := (List.getElem?_eq_some_iff.1 hv).1
    simp at this
    omega
  have := hcell i hi.2
  rw [Tn.add_plain] at this
  rw [this, ← hv]
  simp [hi.1, hi.2]
/-- one cell that holds a slice of numbers -/
theorem open_nums1 {H : Type} {enc : TypeId × Value → H} {W : World} {fuel : Nat} {v : Value} {x : DataW H × List MemPlace} (hf : DataW.trod enc Try.prog W 0 (fun _ => true) true fuel 40 [v] = some x) : ∃ l, VecVal W v l := by
  rcases open_ints Try.underlying40 Try.underlying3 cells3 hf with ⟨hcs, _⟩ | ⟨a, len', cap', zs, hcs, _, hl, hm, hz, _, hcell, _⟩
  · simp only [List.cons.injEq, and_true] at hcs
    exact ⟨[], none, 0, hcs, Nums.nil W⟩
  · simp only [List.cons.injEq, and_true] at hcs
    simp only [if_true] at hz
    have hlen : (zs.take len').length = len' := by simp; omega
    exact ⟨zs.take len', some a, cap', by rw [hlen]; exact hcs, sl_of hl hm hz hcell⟩
theorem open_int1T {H : Type} {enc : TypeId × Value → H} {W : World} {fuel : Nat} {v : Value} {x : DataW H × List MemPlace} (hf : DataW.trod enc Try.prog W 0 (fun _ => true) true fuel 3 [v] = some x) : ∃ n : Int, v = .int .i64 n ∧ -9223372036854775808 ≤ n ∧ n ≤ 9223372036854775807 := by
  obtain ⟨z, hc, _, hw⟩ := DataW.trod_int Try.underlying3 hf
  simp only [List.cons.injEq, and_true] at hc
  exact ⟨z, hc, int_wfT hw⟩
section
variable {H : Type} {enc : TypeId × Value → H} {W : World} {base : Nat} {v : Value} {d : DataW H} {p : List MemPlace}
theorem open_intT (hv : Value.okWide Try.prog W .any base 3 v) (h : DataW.Trod enc Try.prog W 0 (fun _ => true) true 3 v d p) : ∃ n : Int, v = .int .i64 n ∧ -9223372036854775808 ≤ n ∧ n ≤ 9223372036854775807 := by
  obtain ⟨n, rfl, _, _, hw⟩ := Go.ChangeShapes.open_int Try.underlying3 hv h
  exact ⟨n, rfl, int_wfT hw⟩
/-- numbers that came in -/
theorem open_nums (hv : Value.okWide Try.prog W .any base 40 v) (h : DataW.Trod enc Try.prog W 0 (fun _ => true) true 40 v d p) : ∃ (sp : Option Addr) (cap : Nat) (l : List Int), v = .slice sp l.length cap ∧ Nums W sp cap l := by
  obtain ⟨a0, len, cap, rfl⟩ := okWide_slice Try.underlying40 hv
  obtain ⟨fuel, hf⟩ := h
  obtain ⟨l, sp, c, h1, h2⟩ := open_nums1 (v := .slice a0 len cap) hf
  exact ⟨sp, c, l, h1, h2⟩
end
section
variable {H : Type} {enc : TypeId × Value → H} {P : Program} {w : World} {base : Nat} {spare : Nat → Bool} {held : Bool}
theorem open_slice_fields {t e : TypeId} {fs : Array Field} {fuel : Nat} {cs : List Value} {x : DataW H × List MemPlace} (ht : P.underlying t = some (.slice e)) (he : P.underlying e = some (.struct fs))
    (hone : oneCellFields P fs = true) (hC : P.cellsOf e = fs.size) (h : DataW.trod enc P w base spare held fuel t cs = some x) :
    (cs = [.slice none 0 0] ∧ x = (.nil, [])) ∨
    ∃ (a : Addr) (len cap m : Nat) (D : Nat → DataW H) (Pl : Nat → List MemPlace), cs = [.slice (some a) len cap] ∧ base ≤ a.block ∧ len ≤ cap ∧ cap ≤ maxLen ∧ m = (if spare a.block then cap else len) ∧
      x = (.slice ((List.range len).map D) ((List.range (m - len)).map fun j => D (len + j)), MemPlace.row a (m * fs.size) ++ (List.range m).flatMap Pl) ∧
      ∀ i, i < m → ∃ (ys : List (DataW H × List MemPlace)) (n : Nat), D i = .agg (ys.map (·.1)) ∧ Pl i = ys.flatMap (·.2) ∧ ys.length = fs.size ∧
        ∀ (j : Nat) (f : Field), fs[j]? = some f → ∃ (v : Value) (y : DataW H × List MemPlace), w.cell? (a.add (i * fs.size + j)) = some v ∧ ys[j]? = some y ∧ DataW.trod enc P w base spare held n f.type [v] = some y := by
  rcases open_slice ht h with h0 | ⟨a, len, cap, m, n, D, Pl, hcs, hb, hl, hm, hmm, hx, hi⟩
  · exact .inl h0
  · refine .inr ⟨a, len, cap, m, D, Pl, hcs, hb, hl, hm, hmm, by rw [hC] at hx; exact hx, fun i him => ?_⟩
    obtain ⟨cs', hc, ht'⟩ := hi i him
    rw [hC] at hc
    obtain ⟨ys, n', hn', hy, hlen, hyl, hf⟩ := DataW.trod_struct he ht'
    obtain ⟨_, hcl, hat⟩ := World.cells?_some hc
    simp only [Prod.mk.injEq] at hy
    refine ⟨ys, n', hy.1, hy.2, hyl, fun j f hj => ?_⟩
    obtain ⟨ho, hk⟩ := hone_of hone j f hj
    have hjl : j < fs.size := (Array.getElem?_eq_some_iff.1 hj).1
    have hcell := hat j hjl
    have hv : cs'[j]? = some (cs'[j]'(by omega)) := List.getElem?_eq_getElem (by omega)
    have h1 := hf j f hj
    rw [ho, hk] at h1
    have hone' : (cs'.drop j).take 1 = [cs'[j]'(by omega)] := by
      rw [List.drop_eq_getElem_cons (by omega)]
      rfl
    rw [hone'] at h1
    have hys : ys[j]? = some (ys[j]'(by omega)) := List.getElem?_eq_getElem (by omega)
    refine ⟨_, _, ?_, hys, h1.trans hys⟩
    rw [← Go.Deep.add_add, hcell, hv]
end

theorem list_of' {A : Type} [Inhabited A] {P : Nat → A → Prop} (n : Nat) (h : ∀ i, i < n → ∃ l, P i l) : ∃ ls : List A, ls.length = n ∧ ∀ i (hi : i < ls.length), P i (ls[i]) := by
  induction n generalizing P with
  | zero => exact ⟨[], rfl, fun i hi => by simp at hi⟩
  | succ n ih =>
    obtain ⟨l0, h0⟩ := h 0 (by omega)
    obtain ⟨ls, h1, h2⟩ := ih (P := fun i l => P (i + 1) l) (fun i hi => h (i + 1) (by omega))
    refine ⟨l0 :: ls, by simp [h1], fun i hi => ?_⟩
    rcases i with _ | i
    · exact h0
    · exact h2 i (by simpa using hi)
structure OpV where
  ask : Int
  id : Int
  n : Int
def OpV.cells (x : OpV) : List Value := [.int .i64 x.ask, .int .i64 x.id, .int .i64 x.n]
def OpV.fits (x : OpV) : Prop := (-9223372036854775808 ≤ x.ask ∧ x.ask ≤ 9223372036854775807) ∧ (-9223372036854775808 ≤ x.id ∧ x.id ≤ 9223372036854775807) ∧ (-9223372036854775808 ≤ x.n ∧ x.n ≤ 9223372036854775807)
/-- a slice that reads as operations -/
structure Ops (W : World) (sp : Option Addr) (os : List OpV) : Prop where
  len : os.length ≤ maxLen
  fits : ∀ x ∈ os, x.fits
  lies : 0 < os.length → ∃ c o, sp = some ⟨c, o, none⟩ ∧ ∀ k (hk : k < os.length), W.rangeAt c (o + 3 * k) (os[k]).cells
theorem cellsOp : Try.prog.cellsOf 35 = 3 := by kernel_rfl
instance : Inhabited OpV := ⟨⟨0, 0, 0⟩⟩
set_option maxRecDepth 100000 in
theorem open_ops {H : Type} {enc : TypeId × Value → H} {W : World} {b0 : Nat} {v : Value} {d : DataW H} {p : List MemPlace} (hv : Value.okWide Try.prog W .any b0 23 v) (h : DataW.Trod enc Try.prog W 0 (fun _ => true) true 23 v d p) :
    ∃ (sp : Option Addr) (cap : Nat) (os : List OpV), v = .slice sp os.length cap ∧ Ops W sp os := by
  obtain ⟨fuel, hf⟩ := h
  obtain ⟨sp0, n0, c0, rfl⟩ := okWide_slice Try.underlying23 hv
  have hcl : (Value.slice sp0 n0 c0).cells.toList = [.slice sp0 n0 c0] := rfl
  rw [hcl] at hf
  rcases open_slice_fields Try.underlying23 Try.underlying35 (by kernel_rfl) cellsOp hf with ⟨hcs, _⟩ | ⟨a, len, cap, m, D, Pl, hcs, _, hl, hm, hmm, _, hx⟩
  · simp only [List.cons.injEq, and_true] at hcs
    exact ⟨none, 0, [], hcs, by unfold maxLen; simp, fun x hx => by simp at hx, fun h0 => by simp at h0⟩
  · simp only [List.cons.injEq, and_true] at hcs
    simp only [if_true] at hmm
    obtain ⟨os, hos, hk⟩ := list_of' (P := fun i (x : OpV) => x.fits ∧ W.cell? (a.add (i * 3 + 0)) = some (.int .i64 x.ask) ∧ W.cell? (a.add (i * 3 + 1)) = some (.int .i64 x.id) ∧ W.cell? (a.add (i * 3 + 2)) = some (.int .i64 x.n)) len (fun i hi => by
      obtain ⟨ys, n, _, _, hyl, hff⟩ := hx i (by omega)
      obtain ⟨v0, y0, c0, _, t0⟩ := hff 0 _ rfl
      obtain ⟨v1, y1, c1, _, t1⟩ := hff 1 _ rfl
      obtain ⟨v2, y2, c2, _, t2⟩ := hff 2 _ rfl
      obtain ⟨N, rfl, hN⟩ := open_int1T t0
      obtain ⟨I, rfl, hI⟩ := open_int1T t1
      obtain ⟨M, rfl, hM⟩ := open_int1T t2
      exact ⟨⟨N, I, M⟩, ⟨hN, hI, hM⟩, c0, c1, c2⟩)
    have hx0 : 0 < os.length → ∃ c o, a = ⟨c, o, none⟩ := fun h0 => by
      have c0 := cell_plain (hk 0 h0).2.1
      rw [Nat.zero_mul, Nat.zero_add, add_zero] at c0
      obtain ⟨b, o, s⟩ := a
      have hs : s = none := c0
      subst hs
      exact ⟨b, o, rfl⟩
    refine ⟨some a, cap, os, by rw [hos]; exact hcs, by omega, fun x hx => ?_, fun h0 => ?_⟩
    · obtain ⟨i, hi, rfl⟩ := List.mem_iff_getElem.1 hx
      exact (hk i hi).1
    · obtain ⟨c, o, rfl⟩ := hx0 h0
      refine ⟨c, o, rfl, fun k hki => ?_⟩
      obtain ⟨_, c0, c1, c2⟩ := hk k hki
      rw [Tn.add_plain] at c0 c1 c2
      intro j v hv
      rcases j with _ | _ | _ | j
      · cases hv
        rw [← c0]
        congr 2
        omega
      · cases hv
        rw [← c1]
        congr 2
        omega
      · cases hv
        rw [← c2]
        congr 2
        omega
      · cases hv

theorem Ops.range {W : World} {sp : Option Addr} {os : List OpV} (h : Ops W sp os) (k : Nat) (hk : k < os.length) : ∃ c o, sp = some ⟨c, o, none⟩ ∧ W.rangeAt c (o + 3 * k) (os[k]).cells := by
  obtain ⟨c, o, e, hl⟩ := h.lies (by omega)
  exact ⟨c, o, e, hl k hk⟩
theorem rangeAt_below {W W' : World} {c o : Nat} {cs : List Value} (h : W.rangeAt c o cs) (hb : Below W.heap.size W W') : W'.rangeAt c o cs := fun j v hv => (hb.cell (block_lt_of_cell (h j v hv))).trans (h j v hv)
theorem cellsTwo : Try.prog.cellsOf 22 = 2 := by kernel_rfl
set_option maxRecDepth 100000 in
theorem open_two {H : Type} {enc : TypeId × Value → H} {W : World} {base : Nat} {v : Value} {d : DataW H} {p : List MemPlace} (hv : Value.okWide Try.prog W .any base 22 v) (h : DataW.Trod enc Try.prog W 0 (fun _ => true) true 22 v d p) :
    ∃ x y : Int, v = .agg #[.int .i64 x, .int .i64 y] ∧ (-9223372036854775808 ≤ x ∧ x ≤ 9223372036854775807) ∧ (-9223372036854775808 ≤ y ∧ y ≤ 9223372036854775807) := by
  simp only [Value.okWide, Try.underlying22] at hv
  obtain ⟨cs, rfl, hsz, _⟩ := hv
  rw [cellsTwo] at hsz
  obtain ⟨fuel, hf⟩ := h
  obtain ⟨xs, m, _, _, hl, hxl, hx⟩ := DataW.trod_array Try.underlying22 hf
  have key : ∀ i (hi : i < cs.size), ∃ z : Int, cs[i] = .int .i64 z ∧ -9223372036854775808 ≤ z ∧ z ≤ 9223372036854775807 := by
    intro i hi
    have h1 := hx i (by omega)
    rw [cells3, Nat.mul_one] at h1
    have h2 : ((Value.agg cs).cells.toList.drop i).take 1 = [cs[i]] := by
      have : (Value.agg cs).cells = cs := rfl
      rw [this, List.drop_eq_getElem_cons (by simpa using hi)]
      simp
    rw [h2] at h1
    have h3 : xs[i]? = some (xs[i]'(by omega)) := List.getElem?_eq_getElem (by omega)
    rw [h3] at h1
    obtain ⟨z, hc, hw⟩ := open_int1T h1
    exact ⟨z, hc, hw⟩
  obtain ⟨x, hx0, hx1⟩ := key 0 (by omega)
  obtain ⟨y, hy0, hy1⟩ := key 1 (by omega)
  refine ⟨x, y, ?_, hx1, hy1⟩
  congr 1
  apply Array.ext
  · simpa using hsz
  · intro i h1 h2
    have hi : i < 2 := by simpa using h2
    rcases i with _ | _ | i
    · simpa using hx0
    · simpa using hy0
    · omega
theorem cellsSl : Try.prog.cellsOf 40 = 1 := by kernel_rfl
theorem cellsLsl : Try.prog.cellsOf 52 = 2 := by kernel_rfl
set_option maxRecDepth 100000 in
theorem open_lsl {H : Type} {enc : TypeId × Value → H} {W : World} {base : Nat} {v : Value} {d : DataW H} {p : List MemPlace} (hv : Value.okWide Try.prog W .any base 52 v) (h : DataW.Trod enc Try.prog W 0 (fun _ => true) true 52 v d p) :
    ∃ (sp : Option Addr) (cp : Nat) (l : List Int) (sq : Option Addr) (cq : Nat) (m : List Int), v = .agg #[.slice sp l.length cp, .slice sq m.length cq] ∧ Nums W sp cp l ∧ Nums W sq cq m := by
  simp only [Value.okWide, Try.underlying52] at hv
  obtain ⟨cs, rfl, hsz, _⟩ := hv
  rw [cellsLsl] at hsz
  obtain ⟨fuel, hf⟩ := h
  obtain ⟨xs, m, _, _, hl, hxl, hx⟩ := DataW.trod_array Try.underlying52 hf
  have key : ∀ i (hi : i < cs.size), ∃ l, VecVal W cs[i] l := by
    intro i hi
    have h1 := hx i (by omega)
    rw [cellsSl, Nat.mul_one] at h1
    have h2 : ((Value.agg cs).cells.toList.drop i).take 1 = [cs[i]] := by
      have : (Value.agg cs).cells = cs := rfl
      rw [this, List.drop_eq_getElem_cons (by simpa using hi)]
      simp
    rw [h2] at h1
    have h3 : xs[i]? = some (xs[i]'(by omega)) := List.getElem?_eq_getElem (by omega)
    rw [h3] at h1
    exact open_nums1 h1
  obtain ⟨l, sp, cp, hx0, hl0⟩ := key 0 (by omega)
  obtain ⟨m, sq, cq, hy0, hm0⟩ := key 1 (by omega)
  refine ⟨sp, cp, l, sq, cq, m, ?_, hl0, hm0⟩
  congr 1
  apply Array.ext
  · simpa using hsz
  · intro i h1 h2
    have hi : i < 2 := by simpa using h2
    rcases i with _ | _ | i
    · simpa using hx0
    · simpa using hy0
    · omega
theorem open_str {H : Type} {enc : TypeId × Value → H} {W : World} {base : Nat} {v : Value} {d : DataW H} {p : List MemPlace} (hv : Value.okWide Try.prog W .any base 9 v) (h : DataW.Trod enc Try.prog W 0 (fun _ => true) true 9 v d p) : ∃ s : ByteArray, v = .string s := by
  obtain ⟨s, rfl, _⟩ := Go.ChangeMaps.open_string Try.underlying9 hv h
  exact ⟨s, rfl⟩
end Go.Proofs.Ytcfhchdkohjbfaa.Kv
