import Derived.Test.YtmolkbmdfkeniaaDoorTa
import Derived.ChangeMaps5
import Derived.Deep.DeepHandedRow
import Derived.Deep.Slices
import Derived.Lib.SmallJoins
import Derived.Lib.LaidTab
import Derived.Carry
import Derived.Lay
import Derived.Stop.LaidErr
-- from Go
namespace Go.Proofs.YtmolkbmdfkeniaaDoor.Tn
set_option maxRecDepth 100000
open Go.ChangeShapes Go.WideShapes Go.ChangeAt Go.RowKit
/-! ### what came in: numbers, vectors, a matrix -/
theorem cells3 : Tryd.prog.cellsOf 3 = 1 := by kernel_rfl
theorem cell_plain {W : World} {a : Addr} {v : Value} (h : W.cell? a = some v) : a.spot = none := by
  obtain ⟨b, o, s⟩ := a
  cases s with
  | none => rfl
  | some k =>
    exfalso
    simp [World.cell?] at h
    split at h <;> cases h
theorem add_zero (a : Addr) : a.add 0 = a := by
  obtain ⟨b, o, s⟩ := a
  unfold Addr.add
  simp
theorem int_wfT {n : Int} (h : (Lit.int .i64 n).wf = true) : -9223372036854775808 ≤ n ∧ n ≤ 9223372036854775807 := by
  simp [Lit.wf, IntKind.min, IntKind.max, IntKind.bits, IntKind.signed] at h
  omega
/-- a slice of whole numbers, out of its cells -/
theorem sl_of {W : World} {a : Addr} {len cap : Nat} {k : IntKind} {zs : List Int} (hl : len ≤ cap) (hm : cap ≤ maxLen) (hz : zs.length = cap) (hcell : ∀ i, i < zs.length → W.cell? (a.add i) = some (.int k (zs.getD i 0))) : Sl W (some a) cap ((zs.take len).map (Value.int k)) := by
  refine ⟨by simp; omega, hm, (fun h => by cases h), fun hp => ?_⟩
  simp at hp
  have h0 := cell_plain (hcell 0 (by omega))
  rw [add_zero] at h0
  obtain ⟨b, o, s⟩ := a
  have hs : s = none := h0
  subst hs
  refine ⟨b, o, rfl, fun i v hv => ?_⟩
  have hi : i < len ∧ i < zs.length := by
    have := (List.getElem?_eq_some_iff.1 hv).1
    simp at this
    omega
  have := hcell i hi.2
  rw [add_plain] at this
  rw [this, ← hv]
  simp [hi.1, hi.2]
theorem list_ofN {P : Nat → List Int → Prop} : ∀ n : Nat, (∀ i, i < n → ∃ l, P i l) → ∃ ls : List (List Int), ls.length = n ∧ ∀ i, i < n → P i (ls.getD i [])
  | 0, _ => ⟨[], rfl, fun i hi => absurd hi (by omega)⟩
  | n + 1, h => by
    obtain ⟨ls, hl, hp⟩ := list_ofN n (fun i hi => h i (by omega))
    obtain ⟨l, hl'⟩ := h n (by omega)
    refine ⟨ls ++ [l], by simp [hl], fun i hi => ?_⟩
    by_cases hin : i < n
    · have e : (ls ++ [l]).getD i [] = ls.getD i [] := by simp [List.getElem?_append, hl, hin]
      rw [e]
      exact hp i hin
    · obtain rfl : i = n := by omega
      have e : (ls ++ [l]).getD i [] = l := by simp [hl]
      rw [e]
      exact hl'
/-- one cell that holds a slice of numbers -/
theorem open_nums1 {H : Type} {enc : TypeId × Value → H} {W : World} {fuel : Nat} {v : Value} {x : DataW H × List MemPlace} (hf : DataW.trod enc Tryd.prog W 0 (fun _ => true) true fuel 39 [v] = some x) : ∃ l, VecVal W v l := by
  rcases open_ints Tryd.underlying39 Tryd.underlying3 cells3 hf with ⟨hcs, _⟩ | ⟨a, len', cap', zs, hcs, _, hl, hm, hz, _, hcell, _⟩
  · simp only [List.cons.injEq, and_true] at hcs
    exact ⟨[], none, 0, hcs, Nums.nil W⟩
  · simp only [List.cons.injEq, and_true] at hcs
    simp only [if_true] at hz
    have hlen : (zs.take len').length = len' := by simp; omega
    exact ⟨zs.take len', some a, cap', by rw [hlen]; exact hcs, sl_of hl hm hz hcell⟩
theorem open_int1T {H : Type} {enc : TypeId × Value → H} {W : World} {fuel : Nat} {v : Value} {x : DataW H × List MemPlace} (hf : DataW.trod enc Tryd.prog W 0 (fun _ => true) true fuel 3 [v] = some x) : ∃ n : Int, v = .int .i64 n ∧ -9223372036854775808 ≤ n ∧ n ≤ 9223372036854775807 := by
  obtain ⟨z, hc, _, hw⟩ := DataW.trod_int Tryd.underlying3 hf
  simp only [List.cons.injEq, and_true] at hc
  exact ⟨z, hc, int_wfT hw⟩
section
variable {H : Type} {enc : TypeId × Value → H} {W : World} {base : Nat} {v : Value} {d : DataW H} {p : List MemPlace}
theorem open_intT (hv : Value.okWide Tryd.prog W .any base 3 v) (h : DataW.Trod enc Tryd.prog W 0 (fun _ => true) true 3 v d p) : ∃ n : Int, v = .int .i64 n ∧ -9223372036854775808 ≤ n ∧ n ≤ 9223372036854775807 := by
  obtain ⟨n, rfl, _, _, hw⟩ := Go.ChangeShapes.open_int Tryd.underlying3 hv h
  exact ⟨n, rfl, int_wfT hw⟩
/-- numbers that came in -/
theorem open_nums (hv : Value.okWide Tryd.prog W .any base 39 v) (h : DataW.Trod enc Tryd.prog W 0 (fun _ => true) true 39 v d p) : ∃ (sp : Option Addr) (cap : Nat) (l : List Int), v = .slice sp l.length cap ∧ Nums W sp cap l := by
  obtain ⟨a0, len, cap, rfl⟩ := okWide_slice Tryd.underlying39 hv
  obtain ⟨fuel, hf⟩ := h
  obtain ⟨l, sp, c, h1, h2⟩ := open_nums1 (v := .slice a0 len cap) hf
  exact ⟨sp, c, l, h1, h2⟩
end
end Go.Proofs.YtmolkbmdfkeniaaDoor.Tn
