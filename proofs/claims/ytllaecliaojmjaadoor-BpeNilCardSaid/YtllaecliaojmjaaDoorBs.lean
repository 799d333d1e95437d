import Derived.Test.YtllaecliaojmjaaDoorBn
import Derived.Laws.BytesArg
import Derived.Great.BuildSlice
import Derived.Deep.MidRow
namespace Go.Proofs.YtllaecliaojmjaaDoor.Bp
set_option maxRecDepth 100000
open Go.ChangeShapes Go.WideShapes Go.ChangeAt Go.RowKit Go.Proofs.YtllaecliaojmjaaDoor.Tn

/-! ### texts, pairs and bytes in memory -/
def strV (t : List Int) : Value := .string (strOfNums t)
/-- a slice that reads as texts -/
def Strs (w : World) (sp : Option Addr) (cap : Nat) (T : List (List Int)) : Prop := Sl w sp cap (T.map strV)
/-- a slice that reads as bytes -/
structure Byts (w : World) (sp : Option Addr) (cap : Nat) (b : List Int) : Prop where
  sl : Sl w sp cap (b.map (Value.int .u8))
  rng : ∀ x ∈ b, 0 ≤ x ∧ x < 256
/-- a slice that reads as pairs (two cells each) -/
structure Prs (w : World) (sp : Option Addr) (cap : Nat) (ps : List (Int × Int)) : Prop where
  le : ps.length ≤ cap
  max : cap ≤ maxLen
  nul : sp = none → cap = 0
  lies : 0 < ps.length → ∃ c o, sp = some ⟨c, o, none⟩ ∧ ∀ k, k < ps.length → w.rangeAt c (o + k * 2) [.int .i64 (ps.getD k (0, 0)).1, .int .i64 (ps.getD k (0, 0)).2]
section
variable {w w' : World} {sp : Option Addr} {cap : Nat}
theorem Strs.below {T : List (List Int)} (h : Strs w sp cap T) (hb : Below w.heap.size w w') : Strs w' sp cap T := Sl.below h (Nat.le_refl _) hb
theorem Byts.below {b : List Int} (h : Byts w sp cap b) (hb : Below w.heap.size w w') : Byts w' sp cap b := ⟨Sl.below h.sl (Nat.le_refl _) hb, h.rng⟩
theorem Prs.below {ps : List (Int × Int)} (h : Prs w sp cap ps) (hb : Below w.heap.size w w') : Prs w' sp cap ps :=
  ⟨h.le, h.max, h.nul, fun h0 => by
    obtain ⟨c, o, e, hl⟩ := h.lies h0
    exact ⟨c, o, e, fun k hk j v hv => (hb.cell (block_lt_of_cell (hl k hk j v hv))).trans (hl k hk j v hv)⟩⟩
theorem Strs.at_ {T : List (List Int)} (h : Strs w sp cap T) (k : Nat) (hk : k < T.length) : ∃ c o, sp = some ⟨c, o, none⟩ ∧ w.cell? ⟨c, o + k, none⟩ = some (strV (T.getD k [])) := by
  obtain ⟨c, o, rfl, hl⟩ := h.lies (by simp; omega)
  exact ⟨c, o, rfl, hl k _ (by simp [hk])⟩
theorem Byts.at_ {b : List Int} (h : Byts w sp cap b) (k : Nat) (hk : k < b.length) : ∃ c o, sp = some ⟨c, o, none⟩ ∧ w.cell? ⟨c, o + k, none⟩ = some (.int .u8 (b.getD k 0)) := by
  obtain ⟨c, o, rfl, hl⟩ := h.sl.lies (by simp; omega)
  exact ⟨c, o, rfl, hl k _ (by simp [hk])⟩
end
theorem str_inj {a b : Int} (ha : 0 ≤ a ∧ a < 256) (hb : 0 ≤ b ∧ b < 256) (h : strOfNums [a] = strOfNums [b]) : a = b := by
  have h1 := congrArg (fun s : ByteArray => s.data.toList) h
  simp only [strOfNums_data, List.map_cons, List.map_nil, List.cons.injEq, and_true] at h1
  have h2 := congrArg UInt8.toNat h1
  simp at h2
  omega
theorem idx_yes {al : List Int} (hn : al.Nodup) {k : Nat} (hk : k < al.length) {x : Int} (h : al.getD k 0 = x) : al.idxOf x = k := by
  have e : al[k] = x := by simpa [hk] using h
  rw [← e]
  exact hn.idxOf_getElem k hk
theorem idx_no {al : List Int} {k : Nat} (hk : k < al.length) {x : Int} (h : al.getD k 0 ≠ x) : al.idxOf x ≠ k := fun e => by
  apply h
  have h1 : al.idxOf x < al.length := by omega
  have h2 := List.getElem_idxOf h1
  subst e
  simp [hk]
/-- a coder in a block of its own -/
structure Cb (w : World) (st : Option Addr) (nt ct : Nat) (sq : Option Addr) (nq cq n : Nat) (W : World) : Prop where
  below : Below w.heap.size w W
  row : W.heap[w.heap.size]? = some (.cells #[.slice st nt ct, .slice sq nq cq, .int .i64 (n : Int)] 36 (0, 0))
section
variable {w W W' : World} {st sq : Option Addr} {nt ct nq cq n : Nat}
theorem Cb.later (h : Cb w st nt ct sq nq cq n W) (hb : Below W.heap.size W W') : Cb w st nt ct sq nq cq n W' := ⟨h.below.trans (hb.mono h.below.size), (hb.block _ (Array.getElem?_eq_some_iff.1 h.row).1).trans h.row⟩
theorem Cb.cells (h : Cb w st nt ct sq nq cq n W) : W.cell? ⟨w.heap.size, 0, none⟩ = some (.slice st nt ct) ∧ W.cell? ⟨w.heap.size, 1, none⟩ = some (.slice sq nq cq) ∧ W.cell? ⟨w.heap.size, 2, none⟩ = some (.int .i64 (n : Int)) := by
  refine ⟨?_, ?_, ?_⟩
  · rw [cell_of_row _ _ _ _ _ _ h.row]; rfl
  · rw [cell_of_row _ _ _ _ _ _ h.row]; rfl
  · rw [cell_of_row _ _ _ _ _ _ h.row]; rfl
end
end Go.Proofs.YtllaecliaojmjaaDoor.Bp
