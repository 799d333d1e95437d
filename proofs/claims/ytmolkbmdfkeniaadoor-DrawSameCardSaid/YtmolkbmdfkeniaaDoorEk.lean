import Derived.Test.YtmolkbmdfkeniaaDoorEo
import Derived.Test.YtmolkbmdfkeniaaDoorNd
import Derived.Test.YtmolkbmdfkeniaaDoorCards
import Derived.Test.YtmolkbmdfkeniaaDoorTie
namespace Go.Proofs.YtmolkbmdfkeniaaDoor.Dr
set_option maxRecDepth 100000
open Go.ChangeShapes Go.WideShapes Go.ChangeAt Go.RowKit Go.Proofs.YtmolkbmdfkeniaaDoor.Tn

/-! ### what came in; what the listed variables hold -/
theorem own : ownKnob Tryd.prog.godebug = none := by kernel_rfl
theorem laidOut : laidOutB Tryd.prog = true := by kernel_rfl
theorem gStart : Tryd.prog.globalNamed "cupel/sha.start" = some 0 := by kernel_rfl
theorem gStartType : (Tryd.prog.globals[0]?).map (·.type) = some 88 := by kernel_rfl
theorem gKc : Tryd.prog.globalNamed "cupel/sha.roundConstants" = some 1 := by kernel_rfl
theorem gKcType : (Tryd.prog.globals[1]?).map (·.type) = some 115 := by kernel_rfl
theorem cellsState : Tryd.prog.cellsOf 88 = 8 := by kernel_rfl
theorem cellsKc : Tryd.prog.cellsOf 115 = 64 := by kernel_rfl
theorem cellsU32 : Tryd.prog.cellsOf 86 = 1 := by kernel_rfl
theorem cellsByte : Tryd.prog.cellsOf 5 = 1 := by kernel_rfl
theorem gSteps : Tryd.prog.globalNamed "cupel/fixed.expSteps" = some 2 := by kernel_rfl
theorem gStepsType : (Tryd.prog.globals[2]?).map (·.type) = some 122 := by kernel_rfl
theorem cellsSteps : Tryd.prog.cellsOf 122 = 20 := by kernel_rfl
/-- the variables that every row of this seat lists -/
def laidBoth : List (String × DataW Unit) := [("cupel/fixed.expSteps", Rows.laid_cupel_fixed_expSteps), ("cupel/sha.start", Rows.laid_cupel_sha_start), ("cupel/sha.roundConstants", Rows.laid_cupel_sha_roundConstants)]
theorem tab_heap {W : World} {name : String} {g : Nat} {k : IntKind} {zs : List Int} (hg : Tryd.prog.globalNamed name = some g) (h : Lib.TabIs Tryd.prog W name k zs) : ∃ (t : TypeId) (fr : Nat × Nat), W.heap[g]? = some (.cells ((zs.map (Value.int k)).toArray) t fr) := by
  unfold Lib.TabIs World.var? at h
  rw [hg] at h
  simp only [Option.bind_some] at h
  split at h
  · rename_i cs t fr hc
    refine ⟨t, fr, ?_⟩
    rw [hc]
    have := Option.some.inj h
    rw [← this]
  · cases h
theorem e8_of_laid {W : World} (h : laidMetH Tryd.prog laidBoth W) : E8 W := by
  have h' : laidMet Tryd.prog [("cupel/fixed.expSteps", Lib.tabData .i64 Fx.stepsL), ("cupel/sha.start", Lib.tabData .u32 start.list), ("cupel/sha.roundConstants", Lib.tabData .u32 kc)] W := h
  have h1 := laidMet.tail h'
  have t0 : Lib.TabIs Tryd.prog W "cupel/fixed.expSteps" .i64 Fx.stepsL := Lib.tabIs_of_head gSteps gStepsType Tryd.underlying122 Tryd.underlying3 cells3 cellsSteps h'
  have t1 : Lib.TabIs Tryd.prog W "cupel/sha.start" .u32 start.list := Lib.tabIs_of_head gStart gStartType Tryd.underlying88 Tryd.underlying86 cellsU32 cellsState h1
  have t2 : Lib.TabIs Tryd.prog W "cupel/sha.roundConstants" .u32 kc := Lib.tabIs_of_head gKc gKcType Tryd.underlying115 Tryd.underlying86 cellsU32 cellsKc (laidMet.tail h1)
  obtain ⟨a, b, hab⟩ := tab_heap gSteps t0
  obtain ⟨a1, b1, hab1⟩ := tab_heap gStart t1
  refine ⟨⟨fun i hi => t2.cell gKc i hi, a1, b1, hab1⟩, ⟨⟨a, b, hab⟩⟩⟩
theorem cellsDigest : Tryd.prog.cellsOf 23 = 32 := by kernel_rfl
theorem byte_wf {n : Int} (h : (Lit.int .u8 n).wf = true) : 0 ≤ n ∧ n < 256 := by
  simp [Lit.wf, IntKind.min, IntKind.max, IntKind.bits, IntKind.signed] at h
  omega
set_option maxRecDepth 100000 in
/-- a digest that came in -/
theorem open_digest {H : Type} {enc : TypeId × Value → H} {W : World} {base : Nat} {v : Value} {d : DataW H} {p : List MemPlace} (hv : Value.okWide Tryd.prog W .any base 23 v) (h : DataW.Trod enc Tryd.prog W 0 (fun _ => true) true 23 v d p) :
    ∃ l : List Int, v = .agg (rowB l) ∧ l.length = 32 ∧ Cd.rng l := by
  simp only [Value.okWide, Tryd.underlying23] at hv
  obtain ⟨cs, rfl, hsz, _⟩ := hv
  rw [cellsDigest] at hsz
  obtain ⟨fuel, hf⟩ := h
  obtain ⟨xs, m, _, _, hl, hxl, hx⟩ := DataW.trod_array Tryd.underlying23 hf
  have key : ∀ i (hi : i < cs.size), ∃ z : Int, cs[i] = .int .u8 z ∧ 0 ≤ z ∧ z < 256 := by
    intro i hi
    have h1 := hx i (by omega)
    rw [cellsByte, Nat.mul_one] at h1
    have h2 : ((Value.agg cs).cells.toList.drop i).take 1 = [cs[i]] := by
      have : (Value.agg cs).cells = cs := rfl
      rw [this, List.drop_eq_getElem_cons (by simpa using hi)]
      simp
    rw [h2] at h1
    have h3 : xs[i]? = some (xs[i]'(by omega)) := List.getElem?_eq_getElem (by omega)
    rw [h3] at h1
    obtain ⟨z, hc, _, hw⟩ := DataW.trod_int Tryd.underlying5 h1
    simp only [List.cons.injEq, and_true] at hc
    have hb : 0 ≤ z ∧ z ≤ 255 := bounds_u8 hw
    exact ⟨z, hc, by omega, by omega⟩
  refine ⟨cs.toList.map intOf, ?_, by simpa using hsz, ?_⟩
  · congr 1
    apply Array.ext'
    apply List.ext_getElem
    · simp [rowB]
    · intro i h1 h2
      have hi : i < cs.size := by simpa using h1
      obtain ⟨z, hz, _⟩ := key i hi
      simp [rowB, hz, intOf]
  · intro x hx
    obtain ⟨v, hv, rfl⟩ := List.mem_map.1 hx
    obtain ⟨i, hi, rfl⟩ := List.mem_iff_getElem.1 hv
    obtain ⟨z, hz, h0, h1⟩ := key i (by simpa using hi)
    have e : cs.toList[i] = .int .u8 z := by simpa using hz
    rw [e]
    exact ⟨h0, h1⟩

theorem seed_of {l : List Int} (h : l.length = 32) (hr : Cd.rng l) : Seed l := ⟨h, hr⟩
end Go.Proofs.YtmolkbmdfkeniaaDoor.Dr
