import Derived.Test.YtighmhoekbnagaaDoorKi
import Derived.Test.YtighmhoekbnagaaDoorCards
import Derived.Test.YtighmhoekbnagaaDoorTie
import Derived.Deep.DeepHandedRow
import Derived.Deep.Slices
import Derived.Lib.LaidTab
import Derived.Carry
import Derived.Lay
import Derived.Stop.LaidErr
namespace Go.Proofs.YtighmhoekbnagaaDoor
open Go.ChangeShapes Go.WideShapes Go.ChangeAt Go.RowKit

theorem own : ownKnob Tryd.prog.godebug = none := by kernel_rfl
theorem laidOut : laidOutB Tryd.prog = true := by kernel_rfl
theorem gStart : Tryd.prog.globalNamed "cupel/sha.start" = some 0 := by kernel_rfl
theorem gStartType : (Tryd.prog.globals[0]?).map (·.type) = some 90 := by kernel_rfl
theorem gKc : Tryd.prog.globalNamed "cupel/sha.roundConstants" = some 1 := by kernel_rfl
theorem gKcType : (Tryd.prog.globals[1]?).map (·.type) = some 105 := by kernel_rfl
theorem cellsState : Tryd.prog.cellsOf 90 = 8 := by kernel_rfl
theorem cellsKc : Tryd.prog.cellsOf 105 = 64 := by kernel_rfl
theorem cellsU32 : Tryd.prog.cellsOf 88 = 1 := by kernel_rfl
theorem cellsByte : Tryd.prog.cellsOf 5 = 1 := by kernel_rfl
theorem cellsBytes : Tryd.prog.cellsOf 28 = 1 := by kernel_rfl

/-- the variables that every row of this seat lists -/
def laidBoth : List (String × DataW Unit) := [("cupel/sha.start", Rows.laid_cupel_sha_start), ("cupel/sha.roundConstants", Rows.laid_cupel_sha_roundConstants)]

theorem env_of_laid {W : World} (h : laidMetH Tryd.prog laidBoth W) : Env W := by
  have h' : laidMet Tryd.prog [("cupel/sha.start", Lib.tabData .u32 start.list), ("cupel/sha.roundConstants", Lib.tabData .u32 kc)] W := h
  have t1 : Lib.TabIs Tryd.prog W "cupel/sha.start" .u32 start.list := Lib.tabIs_of_head gStart gStartType Tryd.underlying90 Tryd.underlying88 cellsU32 cellsState h'
  have t2 : Lib.TabIs Tryd.prog W "cupel/sha.roundConstants" .u32 kc := Lib.tabIs_of_head gKc gKcType Tryd.underlying105 Tryd.underlying88 cellsU32 cellsKc (laidMet.tail h')
  refine ⟨fun i hi => t2.cell gKc i hi, ?_⟩
  unfold Lib.TabIs World.var? at t1
  rw [gStart] at t1
  simp only [Option.bind_some] at t1
  split at t1
  · rename_i cs t fr hc
    refine ⟨t, fr, ?_⟩
    rw [hc, Option.some.inj t1]
    rfl
  · cases t1
theorem cell_plain {W : World} {a : Addr} {v : Value} (h : W.cell? a = some v) : a.spot = none := by
  obtain ⟨b, o, s⟩ := a
  cases s with
  | none => rfl
  | some k =>
    exfalso
    simp [World.cell?] at h
    split at h <;> cases h
theorem add_zero (a : Addr) : a.add 0 = a := by
  obtain ⟨b, o, s⟩ := a
  unfold Addr.add
  simp
theorem int_wf {n : Int} (h : (Lit.int .i64 n).wf = true) : -9223372036854775808 ≤ n ∧ n ≤ 9223372036854775807 := by
  simp [Lit.wf, IntKind.min, IntKind.max, IntKind.bits, IntKind.signed] at h
  omega
/-- one cell that holds a slice of bytes -/
theorem open_bytes1 {H : Type} {enc : TypeId × Value → H} {W : World} {fuel : Nat} {v : Value} {x : DataW H × List MemPlace} (hf : DataW.trod enc Tryd.prog W 0 (fun _ => true) true fuel 28 [v] = some x) :
    ∃ (sp : Option Addr) (cap : Nat) (l : List Int), v = .slice sp l.length cap ∧ Byt W sp cap l := by
  rcases open_ints Tryd.underlying28 Tryd.underlying5 cellsByte hf with ⟨hcs, _⟩ | ⟨a, len', cap', zs, hcs, _, hl, hm, hz, _, hcell, _⟩
  · simp only [List.cons.injEq, and_true] at hcs
    exact ⟨none, 0, [], hcs, Byt.nil W⟩
  · simp only [List.cons.injEq, and_true] at hcs
    simp only [if_true] at hz
    have hlen : (zs.take len').length = len' := by simp; omega
    refine ⟨some a, cap', zs.take len', by rw [hlen]; exact hcs, ⟨by rw [hlen]; exact hl, hm, fun hp => ?_⟩, fun h => by cases h⟩
    have h0 := cell_plain (hcell 0 (by omega))
    rw [add_zero] at h0
    obtain ⟨b, o, s⟩ := a
    have hs : s = none := h0
    subst hs
    refine ⟨b, o, rfl, fun i hi => ?_⟩
    have hi' : i < len' := by omega
    have := hcell i (by omega)
    rw [add_plain] at this
    rw [this]
    simp [hi']
set_option maxRecDepth 100000 in
/-- a slice of bytes that came in -/
theorem open_bytes {H : Type} {enc : TypeId × Value → H} {W : World} {base : Nat} {v : Value} {d : DataW H} {p : List MemPlace} (hv : Value.okWide Tryd.prog W .any base 28 v) (h : DataW.Trod enc Tryd.prog W 0 (fun _ => true) true 28 v d p) :
    ∃ (sp : Option Addr) (cap : Nat) (l : List Int), v = .slice sp l.length cap ∧ Byt W sp cap l := by
  obtain ⟨a0, len, cap, rfl⟩ := okWide_slice Tryd.underlying28 hv
  obtain ⟨fuel, hf⟩ := h
  exact open_bytes1 hf
theorem list_of {P : Nat → List Int → Prop} : ∀ n : Nat, (∀ i, i < n → ∃ l, P i l) → ∃ ls : List (List Int), ls.length = n ∧ ∀ i, i < n → P i (ls.getD i [])
  | 0, _ => ⟨[], rfl, fun i hi => absurd hi (by omega)⟩
  | n + 1, h => by
    obtain ⟨ls, hl, hp⟩ := list_of n (fun i hi => h i (by omega))
    obtain ⟨l, hl'⟩ := h n (by omega)
    refine ⟨ls ++ [l], by simp [hl], fun i hi => ?_⟩
    by_cases hin : i < n
    · have e : (ls ++ [l]).getD i [] = ls.getD i [] := by simp [List.getElem?_append, hl, hin]
      rw [e]
      exact hp i hin
    · obtain rfl : i = n := by omega
      have e : (ls ++ [l]).getD i [] = l := by simp [hl]
      rw [e]
      exact hl'
set_option maxRecDepth 100000 in
/-- pieces that came in -/
theorem open_pieces {H : Type} {enc : TypeId × Value → H} {W : World} {base : Nat} {v : Value} {d : DataW H} {p : List MemPlace} (hv : Value.okWide Tryd.prog W .any base 22 v) (h : DataW.Trod enc Tryd.prog W 0 (fun _ => true) true 22 v d p) :
    ∃ (A : Option Addr) (C : Nat) (ls : List (List Int)), v = .slice A ls.length C ∧ Pcs W A C ls := by
  obtain ⟨a0, len, cap, rfl⟩ := okWide_slice Tryd.underlying22 hv
  obtain ⟨fuel, hf⟩ := h
  rcases Go.Deep.open_slice1 Tryd.underlying22 cellsBytes hf with ⟨hcs, _⟩ | ⟨a, len', cap', m, n, V, D, Pl, hcs, _, hl, hm, hmm, _, hx⟩
  · simp [Value.cells] at hcs
    obtain ⟨rfl, rfl, rfl⟩ := hcs
    exact ⟨none, 0, [], rfl, Pcs.nil W⟩
  · simp [Value.cells] at hcs
    obtain ⟨rfl, rfl, rfl⟩ := hcs
    simp only [if_true] at hmm
    obtain ⟨ls, hls, hk⟩ := list_of (P := fun i l => PcVal W (V i) l) len (fun i hi => by
      obtain ⟨sp, c, l, h1, h2⟩ := open_bytes1 (hx i (by omega)).2
      exact ⟨l, sp, c, h1, h2⟩)
    refine ⟨some a, cap, ls, by rw [hls], ⟨(List.range len).map V, by simp [hls], ⟨by simpa using hl, hm, (fun h => by cases h), fun hp => ?_⟩, fun i v hv => ?_⟩⟩
    · simp at hp
      have h0 := cell_plain (hx 0 (by omega)).1
      rw [add_zero] at h0
      obtain ⟨b, o, s⟩ := a
      have hs : s = none := h0
      subst hs
      refine ⟨b, o, rfl, fun i v hv => ?_⟩
      have hi : i < len := by
        have := (List.getElem?_eq_some_iff.1 hv).1
        simpa using this
      have hc := (hx i (by omega)).1
      rw [add_plain] at hc
      rw [hc, ← hv]
      simp [hi]
    · have hi : i < len := by
        have := (List.getElem?_eq_some_iff.1 hv).1
        simpa using this
      have e : v = V i := by
        rw [List.getElem?_map, List.getElem?_range hi] at hv
        exact (Option.some.inj hv).symm
      rw [e]
      exact hk i hi
end Go.Proofs.YtighmhoekbnagaaDoor
