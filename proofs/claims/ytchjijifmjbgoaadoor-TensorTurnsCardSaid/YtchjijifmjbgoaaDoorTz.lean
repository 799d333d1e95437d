import Derived.Test.YtchjijifmjbgoaaDoorTk
import Derived.Test.YtchjijifmjbgoaaDoorPf
namespace Go.Proofs.YtchjijifmjbgoaaDoor.Tn
set_option maxRecDepth 100000
open Go.ChangeShapes Go.WideShapes Go.ChangeAt Go.RowKit Go.Proofs.YtchjijifmjbgoaaDoor.Fx

/-! ### the fourth of the variables that TensorTurns lists: the angles of the first four pairs -/
def laidFour : List (String × DataW Unit) := [("math/bits.deBruijn32tab", Rows.laid_math_bits_deBruijn32tab), ("math/bits.deBruijn64tab", Rows.laid_math_bits_deBruijn64tab), ("cupel/fixed.expSteps", Rows.laid_cupel_fixed_expSteps), ("cupel/tensor.angles", Rows.laid_cupel_tensor_angles)]
theorem gAngles : Tryd.prog.globalNamed "cupel/tensor.angles" = some 0 := by kernel_rfl
theorem gAnglesType : (Tryd.prog.globals[0]?).map (·.type) = some 98 := by kernel_rfl
theorem cellsPair : Tryd.prog.cellsOf 72 = 2 := by kernel_rfl
theorem cellsAngles : Tryd.prog.cellsOf 98 = 8 := by kernel_rfl
section
variable {H : Type} {enc : TypeId × Value → H} {w : World} {base : Nat} {sp : Nat → Bool} {held : Bool} {fuel : Nat}
theorem lit_cell {cs : List Value} {a : Int} {p : List MemPlace} (h : DataW.trod enc Tryd.prog w base sp held fuel 3 cs = some (.lit (.int .i64 a), p)) : cs = [.int .i64 a] := by
  obtain ⟨z, hc, hx, _⟩ := DataW.trod_int Tryd.underlying3 h
  simp only [Prod.mk.injEq, DataW.lit.injEq, Lit.int.injEq, true_and] at hx
  rw [hc, hx.1]
theorem pair_cells {cs : List Value} {a b : Int} {p : List MemPlace} (h : DataW.trod enc Tryd.prog w base sp held fuel 72 cs = some (.agg [.lit (.int .i64 a), .lit (.int .i64 b)], p)) : cs = [.int .i64 a, .int .i64 b] := by
  obtain ⟨xs, n, rfl, hx, hl, hxl, hf⟩ := DataW.trod_struct Tryd.underlying72 h
  simp only [Prod.mk.injEq, DataW.agg.injEq] at hx
  rw [cellsPair] at hl
  have e0 : DataW.trod enc Tryd.prog w base sp held n 3 ((cs.drop 0).take (Tryd.prog.cellsOf 3)) = xs[0]? := hf 0 _ rfl
  have e1 : DataW.trod enc Tryd.prog w base sp held n 3 ((cs.drop 1).take (Tryd.prog.cellsOf 3)) = xs[1]? := hf 1 _ rfl
  rw [cells3] at e0 e1
  rcases xs with _ | ⟨x0, _ | ⟨x1, _ | ⟨x2, xs⟩⟩⟩
  · simp at hx
  · simp at hx
  · simp only [List.map_cons, List.map_nil, List.cons.injEq, and_true] at hx
    obtain ⟨⟨h0, h1⟩, _⟩ := hx
    obtain ⟨x0, q0⟩ := x0
    obtain ⟨x1, q1⟩ := x1
    simp only at h0 h1
    subst h0 h1
    have g0 := lit_cell e0
    have g1 := lit_cell e1
    rcases cs with _ | ⟨c0, _ | ⟨c1, _ | ⟨c2, cs⟩⟩⟩
    · simp at hl
    · simp at hl
    · simp at g0 g1
      rw [g0, g1]
    · simp at hl
  · simp at hx
theorem angles_cells {cs : List Value} {p : List MemPlace} (h : DataW.trod enc Tryd.prog w base sp held fuel 98 cs = some (Rows.laid_cupel_tensor_angles, p)) :
    cs = [.int .i64 39322, .int .i64 52429, .int .i64 60495, .int .i64 25206, .int .i64 57826, .int .i64 30840, .int .i64 62915, .int .i64 18350] := by
  cases fuel with
  | zero => simp [DataW.trod] at h
  | succ fuel =>
    simp only [DataW.trod, Tryd.underlying98, cellsPair, cellsAngles] at h
    split at h
    · rename_i hl
      obtain ⟨xs, hm, hx⟩ := Option.map_eq_some_iff.1 h
      have hxs := congrArg Prod.fst hx
      simp only [Rows.laid_cupel_tensor_angles, DataW.agg.injEq] at hxs
      obtain ⟨b0, k0, f0⟩ := Lib.mapM_at hm 0 0 rfl
      obtain ⟨b1, k1, f1⟩ := Lib.mapM_at hm 1 1 rfl
      obtain ⟨b2, k2, f2⟩ := Lib.mapM_at hm 2 2 rfl
      obtain ⟨b3, k3, f3⟩ := Lib.mapM_at hm 3 3 rfl
      have m0 : (xs.map (·.1))[0]? = some b0.1 := by simp [k0]
      have m1 : (xs.map (·.1))[1]? = some b1.1 := by simp [k1]
      have m2 : (xs.map (·.1))[2]? = some b2.1 := by simp [k2]
      have m3 : (xs.map (·.1))[3]? = some b3.1 := by simp [k3]
      rw [hxs] at m0 m1 m2 m3
      obtain ⟨b0, q0⟩ := b0
      obtain ⟨b1, q1⟩ := b1
      obtain ⟨b2, q2⟩ := b2
      obtain ⟨b3, q3⟩ := b3
      cases m0
      cases m1
      cases m2
      cases m3
      have g0 := pair_cells f0
      have g1 := pair_cells f1
      have g2 := pair_cells f2
      have g3 := pair_cells f3
      rcases cs with _ | ⟨c0, _ | ⟨c1, _ | ⟨c2, _ | ⟨c3, _ | ⟨c4, _ | ⟨c5, _ | ⟨c6, _ | ⟨c7, _ | ⟨c8, cs⟩⟩⟩⟩⟩⟩⟩⟩⟩
      all_goals first
        | (simp at hl; done)
        | (simp at g0 g1 g2 g3
           rw [g0.1, g0.2, g1.1, g1.2, g2.1, g2.2, g3.1, g3.2])
    · cases h
end
theorem ang_of_met {rest : List (String × DataW Unit)} {W : World} (h : laidMet Tryd.prog (("cupel/tensor.angles", Rows.laid_cupel_tensor_angles) :: rest) W) : AngTab W := by
  obtain ⟨ps, ⟨g', t', cs, fuel, p, q, hg', ht', hvar, hd, _, _⟩, _⟩ := h
  obtain rfl := Option.some.inj (gAngles.symm.trans hg')
  obtain rfl := Option.some.inj (gAnglesType.symm.trans ht')
  have hcs := angles_cells hd
  unfold World.var? at hvar
  rw [gAngles] at hvar
  simp only [Option.bind_some] at hvar
  split at hvar
  · rename_i cs2 t fr hc
    refine ⟨t, fr, ?_⟩
    rw [hc]
    have h2 := Option.some.inj hvar
    have h3 : cs = #[.int .i64 39322, .int .i64 52429, .int .i64 60495, .int .i64 25206, .int .i64 57826, .int .i64 30840, .int .i64 62915, .int .i64 18350] := by
      apply Array.ext'
      exact hcs
    rw [h2, h3]
  · cases hvar
theorem e1_of_laid {W : World} (h : laidMetH Tryd.prog laidFour W) : E0 W := by
  have h' : laidMet Tryd.prog [("math/bits.deBruijn32tab", Rows.laid_math_bits_deBruijn32tab), ("math/bits.deBruijn64tab", Lib.tabData .u8 deB), ("cupel/fixed.expSteps", Lib.tabData .i64 stepsL), ("cupel/tensor.angles", Rows.laid_cupel_tensor_angles)] W := h
  have h1 := laidMet.tail h'
  have h2 := laidMet.tail h1
  have t1 : Lib.TabIs Tryd.prog W "math/bits.deBruijn64tab" .u8 deB := Lib.tabIs_of_head gDeb gDebType Tryd.underlying112 Tryd.underlying5 cellsU8 cellsDeb h1
  have t2 : Lib.TabIs Tryd.prog W "cupel/fixed.expSteps" .i64 stepsL := Lib.tabIs_of_head gSteps gStepsType Tryd.underlying108 Tryd.underlying3 cells3 cellsSteps h2
  obtain ⟨a, b, hab⟩ := tab_heap gSteps t2
  exact ⟨⟨⟨a, b, hab⟩⟩, tab_heap gDeb t1⟩
theorem ang_of_laid {W : World} (h : laidMetH Tryd.prog laidFour W) : AngTab W := by
  have h' : laidMet Tryd.prog [("math/bits.deBruijn32tab", Rows.laid_math_bits_deBruijn32tab), ("math/bits.deBruijn64tab", Lib.tabData .u8 deB), ("cupel/fixed.expSteps", Lib.tabData .i64 stepsL), ("cupel/tensor.angles", Rows.laid_cupel_tensor_angles)] W := h
  exact ang_of_met (laidMet.tail (laidMet.tail (laidMet.tail h')))
theorem rot_ok : RotOK E0 := fun w sp cap l at_ _ hA hl h1 h2 => rot_any w sp cap l.length l at_ rfl hA hl h1 h2
end Go.Proofs.YtchjijifmjbgoaaDoor.Tn
