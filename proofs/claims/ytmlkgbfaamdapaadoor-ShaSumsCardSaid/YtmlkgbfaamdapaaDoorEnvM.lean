import Derived.Test.YtmlkgbfaamdapaaDoorEnvL
import Derived.Test.YtmlkgbfaamdapaaDoorPcW
import Derived.Deep.Slices
namespace Go.Proofs.YtmlkgbfaamdapaaDoor
open Go.ChangeShapes Go.WideShapes Go.ChangeAt Go.RowKit

theorem cell_plain {W : World} {a : Addr} {v : Value} (h : W.cell? a = some v) : a.spot = none := by
  obtain ⟨b, o, s⟩ := a
  cases s with
  | none => rfl
  | some k =>
    exfalso
    simp [World.cell?] at h
    split at h <;> cases h
/-- one cell that holds a slice of bytes -/
theorem open_bytes1 {H : Type} {enc : TypeId × Value → H} {W : World} {fuel : Nat} {v : Value} {x : DataW H × List MemPlace} (hf : DataW.trod enc Tryd.prog W 0 (fun _ => true) true fuel 22 [v] = some x) :
    ∃ (sp : Option Addr) (cap : Nat) (l : List Int), v = .slice sp l.length cap ∧ Bytes W sp cap l ∧ (sp = none → cap = 0) := by
  rcases open_ints Tryd.underlying22 Tryd.underlying5 cells5 hf with ⟨hcs, _⟩ | ⟨a, len', cap', zs, hcs, _, hl, hm, hz, _, hcell, _⟩
  · simp only [List.cons.injEq, and_true] at hcs
    exact ⟨none, 0, [], hcs, Bytes.nil W, fun _ => rfl⟩
  · simp only [List.cons.injEq, and_true] at hcs
    simp only [if_true] at hz
    have hlen : (zs.take len').length = len' := by simp; omega
    refine ⟨some a, cap', zs.take len', by rw [hlen]; exact hcs, ⟨by rw [hlen]; exact hl, hm, fun hp => ?_⟩, fun h => by cases h⟩
    have h0 := cell_plain (hcell 0 (by omega))
    obtain ⟨b, o, s⟩ := a
    have hs : s = none := by
      have h1 : ((⟨b, o, s⟩ : Addr).add 0) = ⟨b, o, s⟩ := by unfold Addr.add; simp
      rw [h1] at h0
      exact h0
    subst hs
    refine ⟨b, o, rfl, fun i hi => ?_⟩
    have hi' : i < len' := by omega
    have hadd : (⟨b, o, none⟩ : Addr).add i = ⟨b, o + i, none⟩ := by unfold Addr.add; split <;> simp_all
    have := hcell i (by omega)
    rw [hadd] at this
    rw [this]
    simp [hi']
theorem list_of {P : Nat → List Int → Prop} : ∀ n : Nat, (∀ i, i < n → ∃ l, P i l) → ∃ ls : List (List Int), ls.length = n ∧ ∀ i, i < n → P i (ls.getD i [])
  | 0, _ => ⟨[], rfl, fun i hi => absurd hi (by omega)⟩
  | n + 1, h => by
    obtain ⟨ls, hl, hp⟩ := list_of n (fun i hi => h i (by omega))
    obtain ⟨l, hl'⟩ := h n (by omega)
    refine ⟨ls ++ [l], by simp [hl], fun i hi => ?_⟩
    by_cases hin : i < n
    · have e : (ls ++ [l]).getD i [] = ls.getD i [] := by simp [List.getElem?_append, hl, hin]
      rw [e]
      exact hp i hin
    · obtain rfl : i = n := by omega
      have e : (ls ++ [l]).getD i [] = l := by simp [hl]
      rw [e]
      exact hl'
theorem cells22 : Tryd.prog.cellsOf 22 = 1 := by kernel_rfl
/-- pieces that came in -/
theorem open_pieces {H : Type} {enc : TypeId × Value → H} {W : World} {base : Nat} {v : Value} {d : DataW H} {p : List MemPlace} (hv : Value.okWide Tryd.prog W .any base 28 v) (h : DataW.Trod enc Tryd.prog W 0 (fun _ => true) true 28 v d p) :
    ∃ (A : Option Addr) (C : Nat) (ls : List (List Int)), v = .slice A ls.length C ∧ ls.length ≤ 9223372036854775807 ∧ Pieces W A ls := by
  obtain ⟨a0, len, cap, rfl⟩ := okWide_slice Tryd.underlying28 hv
  obtain ⟨fuel, hf⟩ := h
  rcases Go.Deep.open_slice1 Tryd.underlying28 cells22 hf with ⟨hcs, _⟩ | ⟨a, len', cap', m, n, V, D, Pl, hcs, _, hl, hm, hmm, _, hx⟩
  · simp [Value.cells] at hcs
    obtain ⟨rfl, rfl, rfl⟩ := hcs
    exact ⟨none, 0, [], rfl, by simp, fun i hi => absurd hi (by simp)⟩
  · simp [Value.cells] at hcs
    obtain ⟨rfl, rfl, rfl⟩ := hcs
    simp only [if_true] at hmm
    obtain ⟨ls, hls, hk⟩ := list_of (P := fun i l => ∃ (sp : Option Addr) (c : Nat), V i = .slice sp l.length c ∧ Bytes W sp c l ∧ (sp = none → c = 0)) len (fun i hi => by
      obtain ⟨sp, c, l, h1, h2, h3⟩ := open_bytes1 (hx i (by omega)).2
      exact ⟨l, sp, c, h1, h2, h3⟩)
    refine ⟨some a, cap, ls, by rw [hls], by unfold maxLen at hm; omega, fun i hi => ?_⟩
    have hi' : i < len := by omega
    obtain ⟨sp, c, hk1, hk2, hk3⟩ := hk i hi'
    have hc := (hx i (by omega)).1
    obtain ⟨b, o, s⟩ := a
    have hs : s = none := by
      have h0 := cell_plain (hx 0 (by omega)).1
      have h1 : ((⟨b, o, s⟩ : Addr).add 0) = ⟨b, o, s⟩ := by unfold Addr.add; simp
      rw [h1] at h0
      exact h0
    subst hs
    have hadd : (⟨b, o, none⟩ : Addr).add i = ⟨b, o + i, none⟩ := by unfold Addr.add; split <;> simp_all
    rw [hadd] at hc
    exact ⟨b, o, sp, c, rfl, by rw [hc, hk1], hk2, hk3⟩
end Go.Proofs.YtmlkgbfaamdapaaDoor
