import Derived.Test.YtchjijifmjbgoaaDoorJk
import Derived.RangeFuncNested
import Derived.RangeFuncBound
import Derived.RangeFuncCalls
import Derived.RangeFuncLeaves
import Derived.Shelf.Abstract
import Derived.Shelf.RegionOpen
import Derived.OwnWalkIn
import Derived.TacticsInMore
import Derived.LoopNIn
import Derived.LoopIn
import Derived.Maps.AppendAt
import Derived.Sort.QuietIn
namespace Go.Proofs.YtchjijifmjbgoaaDoor.Tn
set_option maxRecDepth 100000
open Go.ChangeShapes Go.WideShapes Go.ChangeAt Go.RowKit Go.Shelf Go.Proofs.YtchjijifmjbgoaaDoor.Fx Go.Proofs.YtchjijifmjbgoaaDoor.Rf
attribute [local go_sem] Oper.semAt_some

/-! ### the landed code: rows of a matrix, by slices.Chunk -/
/-- the q-th row's slice -/
def rowS (sp : Option Addr) (cap C q : Nat) : Value := .slice (cutA sp cap (q * C)) C C
set_option maxHeartbeats 4000000 in
theorem chunk_any (w : World) (sp : Option Addr) (cap N C : Nat) (hC : 1 ≤ C) (hC2 : C ≤ 64) : Calls Tryd.prog 45 #[.slice sp N cap, .int .i64 C] w fun e w' => e = .returned (.func (.func 72) #[] #[.pointer (some ⟨w.heap.size, 0, none⟩), .pointer (some ⟨w.heap.size + 1, 0, none⟩)]) ∧ w' = (w.alloc (.cells #[.slice sp N cap] 22)).alloc (.cells #[.int .i64 C] 3) := by
  have d1 : decide ((C : Int) < 1) = false := by simp; omega
  go_enter Tryd.func45, Tryd.ntmps45
  go_wp2
  go_ret
  exact ⟨rfl, rfl⟩
theorem noGoto_normal {Q : Exit → Act → World → Prop} {a : Act} {w : World} (h : Q .normal a w) : Exit.noGoto Q .normal a w := h
/-- s[k:] of a slice of numbers -/
theorem run_tail (sp : Option Addr) (m cap k : Nat) (hk : k ≤ m) (_hm : m ≤ cap) (w : World) : (Instr.slice 22 (.slice sp m cap) (some (.int .i64 (k : Int))) none none).run Tryd.prog w = .ok (.slice (cutA sp cap k) (m - k) (cap - k)) w := by
  cases hq : Tryd.prog.info? 3 with
  | none => have := size3; simp [hq] at this
  | some i =>
    have hi : i.size = 1 := by have := size3; simpa [hq] using this
    simp only [Instr.slice, run_underlying Tryd.underlying22, Instr.sliceBounds, Instr.sliceBound, asIntOf, sizeOf, typeInfo, Sem.run_bind, Result.andThen_ok, Sem.run_pure, Sem.run_ite]
    simp [hq, hi, hk, cutA]
/-- s[k:h:h] of a slice of numbers -/
theorem run_three (sp : Option Addr) (m cap k h : Nat) (hk : k < h) (hh : h ≤ cap) (w : World) : (Instr.slice 22 (.slice sp m cap) (some (.int .i64 (k : Int))) (some (.int .i64 (h : Int))) (some (.int .i64 (h : Int)))).run Tryd.prog w = .ok (.slice (cutA sp cap k) (h - k) (h - k)) w := by
  cases hq : Tryd.prog.info? 3 with
  | none => have := size3; simp [hq] at this
  | some i =>
    have hi : i.size = 1 := by have := size3; simpa [hq] using this
    have hle : k ≤ h := by omega
    have hne : ¬ h = k := by omega
    have hne2 : ¬ cap = k := by omega
    simp only [Instr.slice, run_underlying Tryd.underlying22, Instr.sliceBounds, Instr.sliceBound, asIntOf, sizeOf, typeInfo, Sem.run_bind, Result.andThen_ok, Sem.run_pure, Sem.run_ite]
    simp [hq, hi, hle, hh, cutA, hne, hne2]
end Go.Proofs.YtchjijifmjbgoaaDoor.Tn
