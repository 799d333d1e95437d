import Derived.Test.YtchjijifmjbgoaaDoorJt
import Derived.Sort.Defs
import Derived.Sort.LotA
namespace Go.Proofs.YtchjijifmjbgoaaDoor.Tn
set_option maxRecDepth 100000
open Go.ChangeShapes Go.WideShapes Go.ChangeAt Go.RowKit Go.Sort Go.Proofs.YtchjijifmjbgoaaDoor.Fx Go.Proofs.YtchjijifmjbgoaaDoor.Rf

/-! ### the library's sort, at places: what its worlds hold -/
/-- below 0: less -/
def ltc (cf : Nat → Nat → Int) (x y : Nat) : Bool := decide (cf x y < 0)
def rowA (d : Array Nat) : Array Value := d.map fun i : Nat => Value.int .i64 (i : Int)
theorem rowA_size (d : Array Nat) : (rowA d).size = d.size := by simp [rowA]
theorem rowA_get (d : Array Nat) (k : Nat) (hk : k < d.size) : (rowA d)[k]? = some (.int .i64 ((d[k]! : Nat) : Int)) := by
  unfold rowA
  simp [hk]
theorem rowA_set (d : Array Nat) (k x : Nat) : (rowA d).setIfInBounds k (.int .i64 (x : Int)) = rowA (d.setIfInBounds k x) := by
  unfold rowA
  simp
theorem rowN_rowA (l : List Nat) : rowN l = rowA l.toArray := by
  unfold rowN rowA
  simp
/-- the comparison, as the sort is handed it -/
structure Srt (wb : World) (g : FuncId) (recv : Value) (n : Nat) (cf : Nat → Nat → Int) : Prop where
  eg : ∀ args w, (callFunc g args).run Tryd.prog w = .ok (.enter g args) w
  cmp : CmpOK wb g recv n cf
  le : n ≤ 1000
/-- a world of the sort's: places d lie at P, and nothing else of w0 has turned -/
structure SrtW (wb : World) (P n : Nat) (w0 : World) (d : Array Nat) (W : World) : Prop where
  below : Below wb.heap.size wb W
  grown : w0.grownBy W (some P)
  row : W.heap[P]? = some (.cells (rowA d) 3 (0, 0))
  size : d.size = n
  all : ∀ i, i < n → d[i]! < n
  big : wb.heap.size ≤ P
section
variable {wb w0 W W' : World} {P n : Nat} {d : Array Nat}
theorem SrtW.start (h : SrtW wb P n w0 d W) : SrtW wb P n W d W := ⟨h.below, ⟨rfl, rfl, rfl, Nat.le_refl _, fun _ _ _ => rfl⟩, h.row, h.size, h.all, h.big⟩
theorem grown_trans {A B C : World} {r : Option Nat} (h1 : A.grownBy B r) (h2 : B.grownBy C r) : A.grownBy C r :=
  ⟨h2.os.trans h1.os, h2.tape.trans h1.tape, h2.output.trans h1.output, Nat.le_trans h1.size h2.size, fun k hk hne => (h2.block k (Nat.lt_of_lt_of_le hk h1.size) hne).trans (h1.block k hk hne)⟩
theorem SrtW.trans {d' : Array Nat} (h : SrtW wb P n w0 d W) (h2 : SrtW wb P n W d' W') : SrtW wb P n w0 d' W' := ⟨h2.below, grown_trans h.grown h2.grown, h2.row, h2.size, h2.all, h2.big⟩
theorem SrtW.lt (h : SrtW wb P n w0 d W) : P < W.heap.size := (Array.getElem?_eq_some_iff.1 h.row).1
theorem SrtW.later (h : SrtW wb P n w0 d W) (hb : Below W.heap.size W W') : SrtW wb P n w0 d W' :=
  ⟨h.below.trans (hb.mono h.below.size), grown_trans h.grown ⟨hb.os, hb.tape, hb.output, hb.size, fun k hk _ => hb.block k hk⟩, (hb.block _ h.lt).trans h.row, h.size, h.all, h.big⟩
theorem SrtW.drew (h : SrtW wb P n w0 d W) : SrtW wb P n w0 d W.drew := h.later ⟨rfl, rfl, rfl, Nat.le_refl _, fun _ _ => rfl⟩
theorem SrtW.drewN (h : SrtW wb P n w0 d W) (k : Nat) : SrtW wb P n w0 d (W.drewN k) := h.later ⟨rfl, rfl, rfl, Nat.le_refl _, fun _ _ => rfl⟩
theorem SrtW.regrown (h : SrtW wb P n w0 d W) (q : Nat) (os : Array Obj) : SrtW wb P n w0 d (grow (redrawn W q) os) := h.later (below_regrown W q os)
theorem SrtW.cell (h : SrtW wb P n w0 d W) (k : Nat) (hk : k < n) : W.cell? ⟨P, k, none⟩ = some (.int .i64 ((d[k]! : Nat) : Int)) := by
  rw [cell_of_row _ _ _ _ _ _ h.row]
  exact rowA_get _ _ (by rw [h.size]; exact hk)
theorem SrtW.frozen (h : SrtW wb P n w0 d W) (k : Nat) : W.frozen? ⟨P, k, none⟩ = false := frozen_of_row _ _ _ _ _ h.row
theorem swp_at (d : Array Nat) {i j : Nat} (hi : i < d.size) (hj : j < d.size) (k : Nat) : (swp d i j)[k]! = if k = j then d[i]! else if k = i then d[j]! else d[k]! := swp_get d hi hj k
theorem SrtW.swap (h : SrtW wb P n w0 d W) (i j : Nat) (hi : i < n) (hj : j < n) : SrtW wb P n w0 (swp d i j) ((W.setCell ⟨P, i, none⟩ (.int .i64 ((d[j]! : Nat) : Int))).setCell ⟨P, j, none⟩ (.int .i64 ((d[i]! : Nat) : Int))).drew := by
  have hs := h.size
  have hl := h.lt
  have r1 := heap_setCell_same W P i (rowA d) 3 (.int .i64 ((d[j]! : Nat) : Int)) h.row
  rw [rowA_set] at r1
  have r2 := heap_setCell_same (W.setCell ⟨P, i, none⟩ (.int .i64 ((d[j]! : Nat) : Int))) P j _ 3 (.int .i64 ((d[i]! : Nat) : Int)) r1
  rw [rowA_set] at r2
  have hb : Below wb.heap.size wb ((W.setCell ⟨P, i, none⟩ (.int .i64 ((d[j]! : Nat) : Int))).setCell ⟨P, j, none⟩ (.int .i64 ((d[i]! : Nat) : Int))) :=
    (h.below.setCell (p := ⟨P, i, none⟩) h.big _).setCell (p := ⟨P, j, none⟩) h.big _
  refine ⟨hb.trans ⟨rfl, rfl, rfl, Nat.le_refl _, fun _ _ => rfl⟩, grown_trans h.grown ⟨rfl, rfl, rfl, by simp, fun k _ hk => ?_⟩, r2, by rw [swp_size]; exact hs, fun k hk => ?_, h.big⟩
  · have hne : k ≠ P := fun e => hk (by rw [e])
    show ((W.setCell ⟨P, i, none⟩ _).setCell ⟨P, j, none⟩ _).heap[k]? = _
    rw [heap_setCell_other _ ⟨P, j, none⟩ _ _ (by simpa using hne), heap_setCell_other _ ⟨P, i, none⟩ _ _ (by simpa using hne)]
  · rw [swp_at d (by omega) (by omega)]
    split
    · exact h.all i hi
    · split
      · exact h.all j hj
      · exact h.all k hk
theorem SrtW.cell2 (h : SrtW wb P n w0 d W) (i j : Nat) (hj : j < n) (hij : i ≠ j) (v : Value) : (W.setCell ⟨P, i, none⟩ v).cell? ⟨P, j, none⟩ = some (.int .i64 ((d[j]! : Nat) : Int)) :=
  (World.cell?_setCell_other _ _ _ _ (by intro e; simp only [Addr.mk.injEq] at e; omega)).trans (h.cell j hj)
theorem SrtW.frozen2 (h : SrtW wb P n w0 d W) (i j : Nat) (v : Value) : (W.setCell ⟨P, i, none⟩ v).frozen? ⟨P, j, none⟩ = false := by
  rw [World.frozen?_setCell]
  exact h.frozen j
end
theorem Srt.at_ {wb w0 W : World} {g : FuncId} {recv : Value} {P n : Nat} {cf : Nat → Nat → Int} {d : Array Nat} (S : Srt wb g recv n cf) (h : SrtW wb P n w0 d W) (i j : Nat) (hi : i < n) (hj : j < n) (q : Nat) (os : Array Obj) :
    Calls Tryd.prog g #[recv, .int .i64 ((d[i]! : Nat) : Int), .int .i64 ((d[j]! : Nat) : Int)] (grow (redrawn W q) os) fun e w'' => e = .returned (.int .i64 (cf d[i]! d[j]!)) ∧ ∃ p : Regrown, w'' = grow (redrawn W p.d) p.os :=
  Calls.regrown_of (S.cmp _ (h.regrown q os).below _ _ (h.all i hi) (h.all j hj))
theorem insInner_go (lt : Nat → Nat → Bool) (a j : Nat) (d : Array Nat) (h1 : a < j + 1) (h2 : lt d[j + 1]! d[j]! = true) : insInner lt a (j + 1) d = insInner lt a j (swp d (j + 1) j) := by
  rw [insInner, if_pos (by simp [h1, h2])]
theorem insInner_stop (lt : Nat → Nat → Bool) (a j : Nat) (d : Array Nat) (h : a < j + 1 → lt d[j + 1]! d[j]! = false) : insInner lt a (j + 1) d = d := by
  rw [insInner, if_neg]
  intro hh
  simp only [gt_iff_lt, Bool.and_eq_true, decide_eq_true_eq] at hh
  rw [h hh.1] at hh
  exact absurd hh.2 (by simp)
theorem insOuter_go (lt : Nat → Nat → Bool) (a b i : Nat) (d : Array Nat) (h : i < b) : insOuter lt a b i d = insOuter lt a b (i + 1) (insInner lt a i d) := by
  rw [insOuter, if_pos h]
theorem insOuter_end (lt : Nat → Nat → Bool) (a b i : Nat) (d : Array Nat) (h : ¬ i < b) : insOuter lt a b i d = d := by
  rw [insOuter, if_neg h]
end Go.Proofs.YtchjijifmjbgoaaDoor.Tn
