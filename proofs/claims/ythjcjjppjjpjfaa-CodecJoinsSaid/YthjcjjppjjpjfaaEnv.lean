import Derived.Test.YthjcjjppjjpjfaaPi
import Derived.Test.YthjcjjppjjpjfaaRows
import Derived.Deep.DeepHandedRow
import Derived.Deep.Slices
import Derived.Carry
import Derived.Lay
import Derived.Stop.LaidErr
namespace Go.Proofs.Ythjcjjppjjpjfaa
open Go.ChangeShapes Go.WideShapes Go.ChangeAt Go.RowKit

theorem own : ownKnob Try.prog.godebug = none := by kernel_rfl
theorem laidOut : laidOutB Try.prog = true := by kernel_rfl
theorem cells5 : Try.prog.cellsOf 5 = 1 := by kernel_rfl
theorem cells3 : Try.prog.cellsOf 3 = 1 := by kernel_rfl
theorem cells23 : Try.prog.cellsOf 23 = 1 := by kernel_rfl
theorem cell_plain {W : World} {a : Addr} {v : Value} (h : W.cell? a = some v) : a.spot = none := by
  obtain ⟨b, o, s⟩ := a
  cases s with
  | none => rfl
  | some k =>
    exfalso
    simp [World.cell?] at h
    split at h <;> cases h
/-- a slice of whole numbers, out of its cells -/
theorem sl_of {W : World} {a : Addr} {len cap : Nat} {k : IntKind} {zs : List Int} (hl : len ≤ cap) (hm : cap ≤ maxLen) (hz : zs.length = cap) (hcell : ∀ i, i < zs.length → W.cell? (a.add i) = some (.int k (zs.getD i 0))) : Sl W (some a) cap ((zs.take len).map (Value.int k)) := by
  refine ⟨by simp; omega, hm, (fun h => by cases h), fun hp => ?_⟩
  simp at hp
  have h0 := cell_plain (hcell 0 (by omega))
  obtain ⟨b, o, s⟩ := a
  have hs : s = none := by
    have h1 : ((⟨b, o, s⟩ : Addr).add 0) = ⟨b, o, s⟩ := by unfold Addr.add; simp
    rw [h1] at h0
    exact h0
  subst hs
  refine ⟨b, o, rfl, fun i v hv => ?_⟩
  have hi : i < len ∧ i < zs.length := by
    have := (List.getElem?_eq_some_iff.1 hv).1
    simp at this
    omega
  have := hcell i hi.2
  rw [add_plain] at this
  rw [this, ← hv]
  simp [hi.1, hi.2]
theorem byte_wf {n : Int} (h : (Lit.int .u8 n).wf = true) : 0 ≤ n ∧ n < 256 := by
  simp [Lit.wf, IntKind.min, IntKind.max, IntKind.bits, IntKind.signed] at h
  omega
theorem int_wf {n : Int} (h : (Lit.int .i64 n).wf = true) : -9223372036854775808 ≤ n ∧ n ≤ 9223372036854775807 := by
  simp [Lit.wf, IntKind.min, IntKind.max, IntKind.bits, IntKind.signed] at h
  omega
/-- one cell that holds a slice of bytes -/
theorem open_bytes1 {H : Type} {enc : TypeId × Value → H} {W : World} {fuel : Nat} {v : Value} {x : DataW H × List MemPlace} (hf : DataW.trod enc Try.prog W 0 (fun _ => true) true fuel 23 [v] = some x) : ∃ l, PcVal W v l := by
  rcases open_ints Try.underlying23 Try.underlying5 cells5 hf with ⟨hcs, _⟩ | ⟨a, len', cap', zs, hcs, _, hl, hm, hz, _, hcell, hwf⟩
  · simp only [List.cons.injEq, and_true] at hcs
    exact ⟨[], none, 0, hcs, Sl.nil W, fun x hx => by cases hx⟩
  · simp only [List.cons.injEq, and_true] at hcs
    simp only [if_true] at hz
    have hlen : (zs.take len').length = len' := by simp; omega
    exact ⟨zs.take len', some a, cap', by rw [hlen]; exact hcs, sl_of hl hm hz hcell, fun n hn => byte_wf (hwf n (List.mem_of_mem_take hn))⟩
theorem list_of {P : Nat → List Int → Prop} : ∀ n : Nat, (∀ i, i < n → ∃ l, P i l) → ∃ ls : List (List Int), ls.length = n ∧ ∀ i, i < n → P i (ls.getD i [])
  | 0, _ => ⟨[], rfl, fun i hi => absurd hi (by omega)⟩
  | n + 1, h => by
    obtain ⟨ls, hl, hp⟩ := list_of n (fun i hi => h i (by omega))
    obtain ⟨l, hl'⟩ := h n (by omega)
    refine ⟨ls ++ [l], by simp [hl], fun i hi => ?_⟩
    by_cases hin : i < n
    · have e : (ls ++ [l]).getD i [] = ls.getD i [] := by simp [List.getElem?_append, hl, hin]
      rw [e]
      exact hp i hin
    · obtain rfl : i = n := by omega
      have e : (ls ++ [l]).getD i [] = l := by simp [hl]
      rw [e]
      exact hl'
section
variable {H : Type} {enc : TypeId × Value → H} {W : World} {base : Nat} {v : Value} {d : DataW H} {p : List MemPlace}
/-- bytes that came in -/
theorem open_bytes (hv : Value.okWide Try.prog W .any base 23 v) (h : DataW.Trod enc Try.prog W 0 (fun _ => true) true 23 v d p) :
    ∃ (sp : Option Addr) (cap : Nat) (l : List Int), v = .slice sp l.length cap ∧ Bytes W sp cap l := by
  obtain ⟨a0, len, cap, rfl⟩ := okWide_slice Try.underlying23 hv
  obtain ⟨fuel, hf⟩ := h
  obtain ⟨l, sp, c, h1, h2⟩ := open_bytes1 (v := .slice a0 len cap) hf
  exact ⟨sp, c, l, h1, h2⟩
/-- numbers that came in -/
theorem open_nums (hv : Value.okWide Try.prog W .any base 36 v) (h : DataW.Trod enc Try.prog W 0 (fun _ => true) true 36 v d p) :
    ∃ (sp : Option Addr) (cap : Nat) (l : List Int), v = .slice sp l.length cap ∧ Nums W sp cap l ∧ ∀ x ∈ l, -9223372036854775808 ≤ x ∧ x ≤ 9223372036854775807 := by
  obtain ⟨a0, len, cap, rfl⟩ := okWide_slice Try.underlying36 hv
  obtain ⟨fuel, hf⟩ := h
  rcases open_ints Try.underlying36 Try.underlying3 cells3 hf with ⟨hcs, _⟩ | ⟨a, len', cap', zs, hcs, _, hl, hm, hz, _, hcell, hwf⟩
  · simp [Value.cells] at hcs
    obtain ⟨rfl, rfl, rfl⟩ := hcs
    exact ⟨none, 0, [], rfl, Sl.nil W, fun x hx => by cases hx⟩
  · simp [Value.cells] at hcs
    obtain ⟨rfl, rfl, rfl⟩ := hcs
    simp only [if_true] at hz
    have hlen : (zs.take len).length = len := by simp; omega
    exact ⟨some a, cap, zs.take len, by rw [hlen], sl_of hl hm hz hcell, fun n hn => int_wf (hwf n (List.mem_of_mem_take hn))⟩
/-- pieces that came in -/
theorem open_pieces (hv : Value.okWide Try.prog W .any base 22 v) (h : DataW.Trod enc Try.prog W 0 (fun _ => true) true 22 v d p) :
    ∃ (A : Option Addr) (C : Nat) (ls : List (List Int)), v = .slice A ls.length C ∧ Pieces W A C ls := by
  obtain ⟨a0, len, cap, rfl⟩ := okWide_slice Try.underlying22 hv
  obtain ⟨fuel, hf⟩ := h
  rcases Go.Deep.open_slice1 Try.underlying22 cells23 hf with ⟨hcs, _⟩ | ⟨a, len', cap', m, n, V, D, Pl, hcs, _, hl, hm, hmm, _, hx⟩
  · simp [Value.cells] at hcs
    obtain ⟨rfl, rfl, rfl⟩ := hcs
    exact ⟨none, 0, [], rfl, [], rfl, Sl.nil W, fun i v hv => by simp at hv⟩
  · simp [Value.cells] at hcs
    obtain ⟨rfl, rfl, rfl⟩ := hcs
    simp only [if_true] at hmm
    obtain ⟨ls, hls, hk⟩ := list_of (P := fun i l => PcVal W (V i) l) len (fun i hi => open_bytes1 (hx i (by omega)).2)
    refine ⟨some a, cap, ls, by rw [hls], (List.range len).map V, by simp [hls], ?_, fun i v hv => ?_⟩
    · refine ⟨by simp; omega, hm, (fun h => by cases h), fun hp => ?_⟩
      simp at hp
      obtain ⟨b, o, s⟩ := a
      have hs : s = none := by
        have h0 := cell_plain (hx 0 (by omega)).1
        have h1 : ((⟨b, o, s⟩ : Addr).add 0) = ⟨b, o, s⟩ := by unfold Addr.add; simp
        rw [h1] at h0
        exact h0
      subst hs
      refine ⟨b, o, rfl, fun i v hv => ?_⟩
      have hi : i < len := by
        have := (List.getElem?_eq_some_iff.1 hv).1
        simpa using this
      have hc := (hx i (by omega)).1
      rw [add_plain] at hc
      rw [hc, ← hv]
      simp [hi]
    · have hi : i < len := by
        have := (List.getElem?_eq_some_iff.1 hv).1
        simpa using this
      have e : v = V i := by
        simp [hi] at hv
        exact hv.symm
      rw [e]
      exact hk i hi
end
end Go.Proofs.Ythjcjjppjjpjfaa
