import Derived.Test.YtighmhoekbnagaaDoorEv
import Derived.Test.YtighmhoekbnagaaDoorRb
import Derived.ChangeMaps5
namespace Go.Proofs.YtighmhoekbnagaaDoor
open Go.ChangeShapes Go.WideShapes Go.ChangeAt Go.RowKit

theorem cellsDigest : Tryd.prog.cellsOf 24 = 32 := by kernel_rfl
theorem byte_wf {n : Int} (h : (Lit.int .u8 n).wf = true) : 0 ≤ n ∧ n < 256 := by
  simp [Lit.wf, IntKind.min, IntKind.max, IntKind.bits, IntKind.signed] at h
  omega
/-- one cell that holds a slice of bytes -/
theorem open_bytes1R {H : Type} {enc : TypeId × Value → H} {W : World} {fuel : Nat} {v : Value} {x : DataW H × List MemPlace} (hf : DataW.trod enc Tryd.prog W 0 (fun _ => true) true fuel 28 [v] = some x) :
    ∃ (sp : Option Addr) (cap : Nat) (l : List Int), v = .slice sp l.length cap ∧ Byt W sp cap l ∧ rng l := by
  rcases open_ints Tryd.underlying28 Tryd.underlying5 cellsByte hf with ⟨hcs, _⟩ | ⟨a, len', cap', zs, hcs, _, hl, hm, hz, _, hcell, hwf⟩
  · simp only [List.cons.injEq, and_true] at hcs
    exact ⟨none, 0, [], hcs, Byt.nil W, fun x hx => by cases hx⟩
  · simp only [List.cons.injEq, and_true] at hcs
    simp only [if_true] at hz
    have hlen : (zs.take len').length = len' := by simp; omega
    refine ⟨some a, cap', zs.take len', by rw [hlen]; exact hcs, ⟨⟨by rw [hlen]; exact hl, hm, fun hp => ?_⟩, fun h => by cases h⟩, fun n hn => byte_wf (hwf n (List.mem_of_mem_take hn))⟩
    have h0 := cell_plain (hcell 0 (by omega))
    rw [add_zero] at h0
    obtain ⟨b, o, s⟩ := a
    have hs : s = none := h0
    subst hs
    refine ⟨b, o, rfl, fun i hi => ?_⟩
    have hi' : i < len' := by omega
    have := hcell i (by omega)
    rw [add_plain] at this
    rw [this]
    simp [hi']
set_option maxRecDepth 100000 in
/-- pieces that came in, of bytes -/
theorem open_piecesR {H : Type} {enc : TypeId × Value → H} {W : World} {base : Nat} {v : Value} {d : DataW H} {p : List MemPlace} (hv : Value.okWide Tryd.prog W .any base 22 v) (h : DataW.Trod enc Tryd.prog W 0 (fun _ => true) true 22 v d p) :
    ∃ (A : Option Addr) (C : Nat) (ls : List (List Int)), v = .slice A ls.length C ∧ Pcs W A C ls ∧ ∀ l ∈ ls, rng l := by
  obtain ⟨a0, len, cap, rfl⟩ := okWide_slice Tryd.underlying22 hv
  obtain ⟨fuel, hf⟩ := h
  rcases Go.Deep.open_slice1 Tryd.underlying22 cellsBytes hf with ⟨hcs, _⟩ | ⟨a, len', cap', m, n, V, D, Pl, hcs, _, hl, hm, hmm, _, hx⟩
  · simp [Value.cells] at hcs
    obtain ⟨rfl, rfl, rfl⟩ := hcs
    exact ⟨none, 0, [], rfl, Pcs.nil W, fun l hl => by cases hl⟩
  · simp [Value.cells] at hcs
    obtain ⟨rfl, rfl, rfl⟩ := hcs
    simp only [if_true] at hmm
    obtain ⟨ls, hls, hk⟩ := list_of (P := fun i l => PcVal W (V i) l ∧ rng l) len (fun i hi => by
      obtain ⟨sp, c, l, h1, h2, h3⟩ := open_bytes1R (hx i (by omega)).2
      exact ⟨l, ⟨sp, c, h1, h2⟩, h3⟩)
    refine ⟨some a, cap, ls, by rw [hls], ⟨(List.range len).map V, by simp [hls], ⟨by simpa using hl, hm, (fun h => by cases h), fun hp => ?_⟩, fun i v hv => ?_⟩, fun l hl => ?_⟩
    · simp at hp
      have h0 := cell_plain (hx 0 (by omega)).1
      rw [add_zero] at h0
      obtain ⟨b, o, s⟩ := a
      have hs : s = none := h0
      subst hs
      refine ⟨b, o, rfl, fun i v hv => ?_⟩
      have hi : i < len := by
        have := (List.getElem?_eq_some_iff.1 hv).1
        simpa using this
      have hc := (hx i (by omega)).1
      rw [add_plain] at hc
      rw [hc, ← hv]
      simp [hi]
    · have hi : i < len := by
        have := (List.getElem?_eq_some_iff.1 hv).1
        simpa using this
      have e : v = V i := by
        rw [List.getElem?_map, List.getElem?_range hi] at hv
        exact (Option.some.inj hv).symm
      rw [e]
      exact (hk i hi).1
    · obtain ⟨i, hi, rfl⟩ := List.mem_iff_getElem.1 hl
      have := (hk i (by omega)).2
      simpa [hi] using this
set_option maxRecDepth 100000 in
/-- a digest that came in -/
theorem open_digest {H : Type} {enc : TypeId × Value → H} {W : World} {base : Nat} {v : Value} {d : DataW H} {p : List MemPlace} (hv : Value.okWide Tryd.prog W .any base 24 v) (h : DataW.Trod enc Tryd.prog W 0 (fun _ => true) true 24 v d p) :
    ∃ l : List Int, v = .agg (rowB l) ∧ l.length = 32 ∧ rng l := by
  simp only [Value.okWide, Tryd.underlying24] at hv
  obtain ⟨cs, rfl, hsz, _⟩ := hv
  rw [cellsDigest] at hsz
  obtain ⟨fuel, hf⟩ := h
  obtain ⟨xs, m, _, _, hl, hxl, hx⟩ := DataW.trod_array Tryd.underlying24 hf
  have key : ∀ i (hi : i < cs.size), ∃ z : Int, cs[i] = .int .u8 z ∧ 0 ≤ z ∧ z < 256 := by
    intro i hi
    have h1 := hx i (by omega)
    rw [cellsByte, Nat.mul_one] at h1
    have h2 : ((Value.agg cs).cells.toList.drop i).take 1 = [cs[i]] := by
      have : (Value.agg cs).cells = cs := rfl
      rw [this, List.drop_eq_getElem_cons (by simpa using hi)]
      simp
    rw [h2] at h1
    have h3 : xs[i]? = some (xs[i]'(by omega)) := List.getElem?_eq_getElem (by omega)
    rw [h3] at h1
    obtain ⟨z, hc, _, hw⟩ := DataW.trod_int Tryd.underlying5 h1
    simp only [List.cons.injEq, and_true] at hc
    have hb : 0 ≤ z ∧ z ≤ 255 := bounds_u8 hw
    exact ⟨z, hc, by omega, by omega⟩
  refine ⟨cs.toList.map intOf, ?_, by simpa using hsz, ?_⟩
  · congr 1
    apply Array.ext'
    apply List.ext_getElem
    · simp [rowB]
    · intro i h1 h2
      have hi : i < cs.size := by simpa using h1
      obtain ⟨z, hz, _⟩ := key i hi
      simp [rowB, hz, intOf]
  · intro x hx
    obtain ⟨v, hv, rfl⟩ := List.mem_map.1 hx
    obtain ⟨i, hi, rfl⟩ := List.mem_iff_getElem.1 hv
    obtain ⟨z, hz, h0, h1⟩ := key i (by simpa using hi)
    have e : cs.toList[i] = .int .u8 z := by simpa using hz
    rw [e]
    exact ⟨h0, h1⟩
end Go.Proofs.YtighmhoekbnagaaDoor
