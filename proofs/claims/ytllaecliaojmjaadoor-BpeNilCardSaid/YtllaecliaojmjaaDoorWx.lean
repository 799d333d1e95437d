import Derived.Test.YtllaecliaojmjaaDoorDh
import Derived.Test.YtllaecliaojmjaaDoorDi
import Derived.Test.YtllaecliaojmjaaDoorDf
namespace Go.Proofs.YtllaecliaojmjaaDoor.Bp
set_option maxRecDepth 100000
open Go.ChangeShapes Go.WideShapes Go.ChangeAt Go.RowKit Go.Proofs.YtllaecliaojmjaaDoor.Tn

/-! ### what the laws of the door share -/
/-- the law's box: the book -/
structure Bx (B : Nat) (s1 : Option Addr) (n c1 : Nat) (s2 : Option Addr) (P cq : Nat) (w W : World) : Prop where
  below : Below B w W
  box : W.heap[B]? = some (.cells #[.slice s1 n c1, .slice s2 P cq] 25 (0, 0))
section
variable {B n c1 P cq : Nat} {s1 s2 : Option Addr} {w W W' : World}
theorem Bx.lt (h : Bx B s1 n c1 s2 P cq w W) : B < W.heap.size := (Array.getElem?_eq_some_iff.1 h.box).1
theorem Bx.later (h : Bx B s1 n c1 s2 P cq w W) (hb : Below W.heap.size W W') : Bx B s1 n c1 s2 P cq w W' := ⟨h.below.trans (hb.mono (Nat.le_of_lt h.lt)), (hb.block _ h.lt).trans h.box⟩
theorem Bx.cells (h : Bx B s1 n c1 s2 P cq w W) : W.cell? ⟨B, 0, none⟩ = some (.slice s1 n c1) ∧ W.cell? ⟨B, 1, none⟩ = some (.slice s2 P cq) := by
  constructor
  · rw [cell_of_row _ _ _ _ _ _ h.box]; rfl
  · rw [cell_of_row _ _ _ _ _ _ h.box]; rfl
theorem Bx.made (w : World) : Bx w.heap.size s1 n c1 s2 P cq w (w.alloc (.cells #[.slice s1 n c1, .slice s2 P cq] 25)) := ⟨(Below.refl _ _).alloc (Nat.le_refl _) _, heap_alloc_new _ _⟩
end
/-- bytes as a text -/
theorem conv_text {W : World} {b cap : Nat} {u : List Int} (h : Byts W (some ⟨b, 0, none⟩) cap u) : (convert 22 9 (.slice (some ⟨b, 0, none⟩) u.length cap)).run Tryd.prog W = .ok (.string (strOfNums u)) W :=
  run_convert_bytes_arg (P := Tryd.prog) W 22 5 Tryd.underlying22 Tryd.underlying5 b 0 u.length cap u rfl (fun i hi => h.cell i hi) 9 Tryd.underlying9
/-- what stands while texts are gone through -/
structure Wk (w : World) (s1 : Option Addr) (n c1 : Nat) (s2 : Option Addr) (P cq g : Nat) (al : List Int) (ps : List (Int × Int)) (T : List (List Int)) (st : Option Addr) (ct R : Nat) (sq : Option Addr) (cq2 : Nat) (W : World) : Prop where
  bx : Bx w.heap.size s1 n c1 s2 P cq w W
  cd : Cd g al ps T W
  strs : Strs W st ct T
  row : W.heap[R]? = some (.cells #[.slice st T.length ct, .slice sq P cq2, .int .i64 (n : Int)] 36 (0, 0))
section
variable {w W W' : World} {s1 s2 st sq : Option Addr} {n c1 P cq g ct R cq2 : Nat} {al : List Int} {ps : List (Int × Int)} {T : List (List Int)}
theorem Wk.later (h : Wk w s1 n c1 s2 P cq g al ps T st ct R sq cq2 W) (hb : Below W.heap.size W W') : Wk w s1 n c1 s2 P cq g al ps T st ct R sq cq2 W' := ⟨h.bx.later hb, h.cd.later hb, h.strs.below hb, (hb.block _ (Array.getElem?_eq_some_iff.1 h.row).1).trans h.row⟩
theorem Wk.t0 (h : Wk w s1 n c1 s2 P cq g al ps T st ct R sq cq2 W) : W.cell? ⟨R, 0, none⟩ = some (.slice st T.length ct) := by rw [cell_of_row _ _ _ _ _ _ h.row]; rfl
end
/-- any bytes as a text -/
theorem conv_any {W : World} {sp : Option Addr} {cap : Nat} {u : List Int} (h : Byts W sp cap u) : (convert 22 9 (.slice sp u.length cap)).run Tryd.prog W = .ok (.string (strOfNums u)) W := by
  rcases Nat.eq_zero_or_pos u.length with h0 | h0
  · obtain rfl := List.eq_nil_of_length_eq_zero h0
    rw [run_convert_bytes_string W 22 9 5 _ _ cap Tryd.underlying22 Tryd.underlying5 Tryd.underlying9]
    cases sp <;> simp [Conv.bytesToString, loadCells]
    all_goals rfl
  · obtain ⟨c, o, rfl, _⟩ := h.at_ 0 h0
    exact run_convert_bytes_arg (P := Tryd.prog) W 22 5 Tryd.underlying22 Tryd.underlying5 c o u.length cap u rfl (fun i hi => h.cell i hi) 9 Tryd.underlying9
end Go.Proofs.YtllaecliaojmjaaDoor.Bp
