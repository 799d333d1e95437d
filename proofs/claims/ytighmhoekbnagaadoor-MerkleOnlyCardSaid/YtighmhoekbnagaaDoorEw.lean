import Derived.Test.YtighmhoekbnagaaDoorEr
import Derived.Lib.SmallJoins
import Derived.Deep.Slices
namespace Go.Proofs.YtighmhoekbnagaaDoor
open Go.ChangeShapes Go.WideShapes Go.ChangeAt Go.RowKit

/-! ### what came in: digests in a slice, a way -/
theorem array_dig {H : Type} {enc : TypeId × Value → H} {W : World} {fuel : Nat} {cs : List Value} {x : DataW H × List MemPlace} (hf : DataW.trod enc Tryd.prog W 0 (fun _ => true) true fuel 24 cs = some x) :
    ∃ l : List Int, cs = l.map (Value.int .u8) ∧ l.length = 32 ∧ rng l := by
  obtain ⟨xs, m, _, _, hl, hxl, hx⟩ := DataW.trod_array Tryd.underlying24 hf
  rw [cellsDigest] at hl
  have key : ∀ i (hi : i < cs.length), ∃ z : Int, cs[i] = .int .u8 z ∧ 0 ≤ z ∧ z < 256 := by
    intro i hi
    have h1 := hx i (by omega)
    rw [cellsByte, Nat.mul_one] at h1
    have h2 : (cs.drop i).take 1 = [cs[i]] := by
      rw [List.drop_eq_getElem_cons hi]
      rfl
    rw [h2] at h1
    have h3 : xs[i]? = some (xs[i]'(by omega)) := List.getElem?_eq_getElem (by omega)
    rw [h3] at h1
    obtain ⟨z, hc, _, hw⟩ := DataW.trod_int Tryd.underlying5 h1
    simp only [List.cons.injEq, and_true] at hc
    have hb : 0 ≤ z ∧ z ≤ 255 := bounds_u8 hw
    exact ⟨z, hc, by omega, by omega⟩
  refine ⟨cs.map intOf, ?_, by simpa using hl, ?_⟩
  · apply List.ext_getElem
    · simp
    · intro i h1 h2
      obtain ⟨z, hz, _⟩ := key i h1
      simp [hz, intOf]
  · intro x hx
    obtain ⟨v, hv, rfl⟩ := List.mem_map.1 hx
    obtain ⟨i, hi, rfl⟩ := List.mem_iff_getElem.1 hv
    obtain ⟨z, hz, h0, h1⟩ := key i hi
    rw [hz]
    exact ⟨h0, h1⟩
/-- one cell that holds a slice of digests -/
theorem open_digs1 {H : Type} {enc : TypeId × Value → H} {W : World} {fuel : Nat} {v : Value} {x : DataW H × List MemPlace} (hf : DataW.trod enc Tryd.prog W 0 (fun _ => true) true fuel 33 [v] = some x) :
    ∃ (sp : Option Addr) (cap : Nat) (ds : List (List Int)), v = .slice sp ds.length cap ∧ Digs W sp cap ds ∧ ∀ d ∈ ds, rng d := by
  rcases Go.Deep.open_slice Tryd.underlying33 hf with ⟨hcs, _⟩ | ⟨a, len, cap, m, n, Dt, Pl, hcs, _, hl, hm, hmm, _, hx⟩
  · simp only [List.cons.injEq, and_true] at hcs
    exact ⟨none, 0, [], hcs, Digs.nil W, fun d hd => by cases hd⟩
  · simp only [List.cons.injEq, and_true] at hcs
    simp only [if_true] at hmm
    rw [cellsDigest] at hx
    obtain ⟨ls, hls, hk⟩ := list_of (P := fun i l => l.length = 32 ∧ rng l ∧ ∀ j, j < 32 → W.cell? ((a.add (i * 32)).add j) = some (.int .u8 (l.getD j 0))) len (fun i hi => by
      obtain ⟨cs, h1, h2⟩ := hx i (by omega)
      obtain ⟨l, rfl, h3, h4⟩ := array_dig h2
      obtain ⟨_, _, h5⟩ := World.cells?_some h1
      refine ⟨l, h3, h4, fun j hj => ?_⟩
      rw [h5 j hj]
      have : j < l.length := by omega
      simp [this])
    have hall : ∀ d ∈ ls, d.length = 32 ∧ rng d := fun d hd => by
      obtain ⟨i, hi, rfl⟩ := List.mem_iff_getElem.1 hd
      have := hk i (by omega)
      rw [List.getD_eq_getElem?_getD, List.getElem?_eq_getElem hi] at this
      exact ⟨this.1, this.2.1⟩
    refine ⟨some a, cap, ls, by rw [hls]; exact hcs, ⟨by omega, hm, (fun h => by cases h), fun d hd => (hall d hd).1, fun h0 => ?_⟩, fun d hd => (hall d hd).2⟩
    have c0 := (hk 0 (by omega)).2.2 0 (by omega)
    have h0' := cell_plain c0
    rw [Nat.zero_mul, add_zero, add_zero] at h0'
    obtain ⟨b, o, s⟩ := a
    have hs : s = none := h0'
    subst hs
    refine ⟨b, o, rfl, fun i hi => ?_⟩
    rw [flat_len ls (fun d hd => (hall d hd).1)] at hi
    have e1 : i = 32 * (i / 32) + i % 32 := (Nat.div_add_mod i 32).symm
    have hi2 : i / 32 < ls.length := by omega
    have h6 := (hk (i / 32) (by omega)).2.2 (i % 32) (Nat.mod_lt _ (by omega))
    rw [add_plain, add_plain] at h6
    have h7 := flat_at ls (i / 32) (i % 32) (fun d hd => (hall d hd).1) hi2 (Nat.mod_lt _ (by omega))
    rw [← e1] at h7
    rw [h7, ← h6]
    congr 2
    omega
theorem cellsWay : Tryd.prog.cellsOf 35 = 4 := by kernel_rfl
theorem open_int1 {H : Type} {enc : TypeId × Value → H} {W : World} {fuel : Nat} {v : Value} {x : DataW H × List MemPlace} (hf : DataW.trod enc Tryd.prog W 0 (fun _ => true) true fuel 3 [v] = some x) : ∃ n : Int, v = .int .i64 n ∧ -9223372036854775808 ≤ n ∧ n ≤ 9223372036854775807 := by
  obtain ⟨z, hc, _, hw⟩ := DataW.trod_int Tryd.underlying3 hf
  simp only [List.cons.injEq, and_true] at hc
  exact ⟨z, hc, int_wf hw⟩
set_option maxRecDepth 100000 in
/-- a way that came in -/
theorem open_way {H : Type} {enc : TypeId × Value → H} {W : World} {base : Nat} {v : Value} {d : DataW H} {p : List MemPlace} (hv : Value.okWide Tryd.prog W .any base 35 v) (h : DataW.Trod enc Tryd.prog W 0 (fun _ => true) true 35 v d p) :
    ∃ (N I : Int) (s1 s2 : Option Addr) (c1 c2 : Nat) (l : List Int) (q : List (List Int)), v = .agg #[.int .i64 N, .int .i64 I, .slice s1 l.length c1, .slice s2 q.length c2] ∧ (-9223372036854775808 ≤ N ∧ N ≤ 9223372036854775807) ∧ (-9223372036854775808 ≤ I ∧ I ≤ 9223372036854775807) ∧
      Byt W s1 c1 l ∧ rng l ∧ Digs W s2 c2 q ∧ ∀ d ∈ q, rng d := by
  obtain ⟨v0, v1, v2, v3, y0, y1, y2, y3, n, rfl, _, _, h0, h1, h2, h3⟩ := Go.Joins.open_agg4 Tryd.underlying35 (by kernel_rfl) cellsWay hv h
  obtain ⟨N, rfl, hN⟩ := open_int1 h0
  obtain ⟨I, rfl, hI⟩ := open_int1 h1
  obtain ⟨s1, c1, l, rfl, hb, hr⟩ := open_bytes1R h2
  obtain ⟨s2, c2, q, rfl, hq, hqr⟩ := open_digs1 h3
  exact ⟨N, I, s1, s2, c1, c2, l, q, rfl, hN, hI, hb, hr, hq, hqr⟩
end Go.Proofs.YtighmhoekbnagaaDoor
