import Derived.Test.YtmolkbmdfkeniaaDoorSa
import Derived.Test.YtmolkbmdfkeniaaDoorCa
import Derived.Test.YtmolkbmdfkeniaaDoorMb
import Derived.StillTailTactics
import Derived.Great.BuildSlice
import Derived.BigRegion
import Derived.IntWalk
namespace Go.Proofs.YtmolkbmdfkeniaaDoor.Dr
set_option maxRecDepth 100000
open Go.ChangeShapes Go.WideShapes Go.ChangeAt Go.RowKit Go.Proofs.YtmolkbmdfkeniaaDoor.Tn

/-! ### numbers of a seed -/
/-- the bytes of a seed and a count -/
def numB (s : List Int) (c : Int) : List Int := Cd.join [s, Cd.nums [c]]
def numD (s : List Int) (c : Int) : List Int := sum (numB s c)
/-- the number of a seed and a count -/
def numV (s : List Int) (c : Int) : Int := Cd.val ((numD s c).take 8) % 9223372036854775808
theorem numB_length {s : List Int} (hs : s.length = 32) (c : Int) : (numB s c).length = 48 := by
  simp [numB, Cd.join, Cd.pc, Cd.nums, Cd.be_length, hs]
theorem numD_length (s : List Int) (c : Int) : (numD s c).length = 32 := sum_length _
theorem rng_set {l : List Int} (h : Cd.rng l) (i : Nat) (x : Int) (h0 : 0 ≤ x) (h1 : x < 256) : Cd.rng (l.set i x) := fun y hy => by
  rcases List.mem_or_eq_of_mem_set hy with hy | rfl
  · exact h y hy
  · exact ⟨h0, h1⟩
theorem rng_dig (s : List Int) : ∀ n, Cd.rng (dig s n)
  | 0 => fun x hx => by
    have := List.eq_of_mem_replicate hx
    omega
  | n + 1 => by
    rw [dig]
    exact rng_set (rng_set (rng_set (rng_set (rng_dig s n) _ _ (by omega) (by omega)) _ _ (by omega) (by omega)) _ _ (by omega) (by omega)) _ _ (by omega) (by omega)
theorem rng_numD (s : List Int) (c : Int) : Cd.rng (numD s c) := rng_dig _ _
theorem rng_numB {s : List Int} (hr : Cd.rng s) (c : Int) : Cd.rng (numB s c) := by
  refine Cd.rng_join (fun l hl => ?_)
  simp only [List.mem_cons, List.not_mem_nil, or_false] at hl
  rcases hl with rfl | rfl
  · exact hr
  · exact Cd.rng_nums _
theorem numV_in (s : List Int) (c : Int) : 0 ≤ numV s c ∧ numV s c ≤ 9223372036854775807 := by
  unfold numV
  omega
/-- a digest in a block of its own -/
def Dg (W : World) (g : Nat) (d : List Int) : Prop := W.heap[g]? = some (.cells (rowB d) 23 (0, 0))
theorem Dg.below {W W' : World} {g : Nat} {d : List Int} (h : Dg W g d) (hb : Below W.heap.size W W') : Dg W' g d := (hb.block g (Array.getElem?_eq_some_iff.1 h).1).trans h
theorem Dg.lt {W : World} {g : Nat} {d : List Int} (h : Dg W g d) : g < W.heap.size := (Array.getElem?_eq_some_iff.1 h).1
theorem Dg.bytes {W : World} {g : Nat} {d : List Int} (h : Dg W g d) (hd : d.length = 32) (hr : Cd.rng d) : Cd.Bytes W (some ⟨g, 0, none⟩) 32 d := by
  refine ⟨⟨by simp; omega, by unfold maxLen; omega, (fun h => by cases h), fun _ => ⟨g, 0, rfl, fun i v hv => ?_⟩⟩, hr⟩
  rw [cell_of_row _ _ _ _ _ _ h, Nat.zero_add, ← hv]
  simp [rowB]
theorem bytes_of {W : World} {sp : Option Addr} {cap : Nat} {l : List Int} (h : Cd.Bytes W sp cap l) : Bytes W sp cap l := by
  refine ⟨h.le, h.sl.max, fun h0 => ?_⟩
  obtain ⟨c, o, e, hl⟩ := h.sl.lies (by simpa using h0)
  exact ⟨c, o, e, fun i hi => hl i _ (by simp [hi])⟩
theorem row_dig {d : List Int} (h : d.length = 32) : (Tryd.prog.info? 23).map (·.size) = some (rowB d).size := by rw [rowB_size, h]; exact size25
theorem row_dig0 {d : List Int} (h : d.length = 32) : (rowB (zs 32)).size = (rowB d).size := by rw [rowB_size, rowB_size, h]; rfl
theorem run_digest (p : Nat) (w : World) : (Instr.sliceAt 23 (.pointer (some ⟨p, 0, none⟩)) none none none).run Tryd.prog w = .ok (.slice (some ⟨p, 0, none⟩) 32 32) w := by
  cases hq : Tryd.prog.info? 5 with
  | none => have := Cd.size5; simp [hq] at this
  | some i =>
    have hadd := Cd.add_plain p 0 0
    simp [Instr.sliceAt, Instr.sureAddr, run_underlying Tryd.underlying23, Instr.sliceBounds, sizeOf, typeInfo, hq]
    try simpa using hadd
theorem run_first8 (p : Nat) (w : World) : (Instr.sliceAt 23 (.pointer (some ⟨p, 0, none⟩)) none (some (.int .i64 8)) (some (.int .i64 8))).run Tryd.prog w = .ok (.slice (some ⟨p, 0, none⟩) 8 8) w := by
  cases hq : Tryd.prog.info? 5 with
  | none => have := Cd.size5; simp [hq] at this
  | some i =>
    have hadd := Cd.add_plain p 0 0
    simp [Instr.sliceAt, Instr.sureAddr, run_underlying Tryd.underlying23, Instr.sliceBounds, Instr.sliceBound, asIntOf, sizeOf, typeInfo, hq]
    try simpa using hadd
theorem infoSl : (Tryd.prog.info? 57).map (fun i => (i.zero, i.size, i.bytes)) = some (some (.slice none 0 0), 1, 24) := by kernel_rfl
section
variable {a : Act} {o : Oper} {W : World}
theorem exec_slD (x : Operand) (ho : o.op = .slice 23 x none none none) (g : Nat) (hx : a.eval x = .pointer (some ⟨g, 0, none⟩)) : (execOp a.eval o).run Tryd.prog W = .ok (.value (.slice (some ⟨g, 0, none⟩) 32 32)) W := by
  have r := run_digest g W
  unfold execOp
  simp [ho, hx, r]
theorem exec_oneI (x : Operand) (ho : o.op = .buildSlice 39 1 #[(0, x)]) (u : Int) (hx : a.eval x = .int .i64 u) :
    (execOp a.eval o).run Tryd.prog W = .ok (.value (.slice (some ⟨W.heap.size, 0, none⟩) 1 1)) (W.alloc (.cells #[.int .i64 u] 3)) := by
  obtain ⟨i0, hi, hz0, hz1, hz2⟩ := info_parts Cd.info3
  unfold execOp
  have hr := run_buildSlice (P := Tryd.prog) W 39 3 1 #[(0, .int .i64 u)] #[.int .i64 u] i0 _ Tryd.underlying39 hi hz0 (by rw [hz1]; decide) (by rw [hz1]; decide) (by rw [hz1]; kernel_rfl)
  have e : (#[((0 : Nat), x)].map fun (i, x) => (i, a.eval x)) = #[(0, .int .i64 u)] := by simp [hx]
  simp only [ho, e, Sem.run_bind, hr, Result.andThen_ok, Sem.run_pure]
theorem exec_twoS (x y : Operand) (ho : o.op = .buildSlice 60 2 #[(0, x), (1, y)]) (s1 s2 : Option Addr) (n1 n2 c1 c2 : Nat) (hx : a.eval x = .slice s1 n1 c1) (hy : a.eval y = .slice s2 n2 c2) :
    (execOp a.eval o).run Tryd.prog W = .ok (.value (.slice (some ⟨W.heap.size, 0, none⟩) 2 2)) (W.alloc (.cells #[.slice s1 n1 c1, .slice s2 n2 c2] 57)) := by
  obtain ⟨i0, hi, hz0, hz1, hz2⟩ := info_parts infoSl
  unfold execOp
  have hr := run_buildSlice (P := Tryd.prog) W 60 57 2 #[(0, .slice s1 n1 c1), (1, .slice s2 n2 c2)] #[.slice s1 n1 c1, .slice s2 n2 c2] i0 _ Tryd.underlying60 hi hz0 (by rw [hz1]; decide) (by rw [hz1]; decide) (by rw [hz1]; kernel_rfl)
  have e : (#[((0 : Nat), x), (1, y)].map fun (i, x) => (i, a.eval x)) = #[(0, .slice s1 n1 c1), (1, .slice s2 n2 c2)] := by simp [hx, hy]
  simp only [ho, e, Sem.run_bind, hr, Result.andThen_ok, Sem.run_pure]
theorem exec_allocD (ho : o.op = .alloc 23) : (execOp a.eval o).run Tryd.prog W = .ok (.value (.pointer (some ⟨W.heap.size, 0, none⟩))) (W.alloc (.cells (rowB (zs 32)) 23)) := by
  unfold execOp
  rw [ho]
  kernel_rfl
end
theorem one_new (W : World) (u : Int) : Cd.Nums (W.alloc (.cells #[.int .i64 u] 3)) (some ⟨W.heap.size, 0, none⟩) 1 [u] :=
  Cd.Sl.new W [.int .i64 u] _ 3 (0, 0) rfl (by simp)
theorem pieces_new {W : World} {s1 s2 : Option Addr} {n1 n2 c1 c2 : Nat} {l1 l2 : List Int} (h1 : Cd.Bytes W s1 c1 l1) (h2 : Cd.Bytes W s2 c2 l2) (e1 : l1.length = n1) (e2 : l2.length = n2) : Cd.Pieces (W.alloc (.cells #[.slice s1 n1 c1, .slice s2 n2 c2] 57)) (some ⟨W.heap.size, 0, none⟩) 2 [l1, l2] := by
  have hs := Cd.Sl.new W [.slice s1 n1 c1, .slice s2 n2 c2] #[.slice s1 n1 c1, .slice s2 n2 c2] 57 (0, 0) rfl (by simp)
  have hb : Below W.heap.size W (W.alloc (.cells #[.slice s1 n1 c1, .slice s2 n2 c2] 57)) := (Below.refl _ _).alloc (Nat.le_refl _) _
  refine ⟨_, rfl, hs, fun i v hv => ?_⟩
  rcases i with _ | _ | i
  · simp at hv
    subst hv
    exact ⟨_, _, by rw [show ([l1, l2].getD 0 []).length = n1 from e1], h1.below hb⟩
  · simp at hv
    subst hv
    exact ⟨_, _, by rw [show ([l1, l2].getD 1 []).length = n2 from e2], h2.below hb⟩
  · simp at hv
/-- what each operation yields ahead of a number -/
def nbP (g0 B : Nat) (s : List Int) (c : Int) : Nat → World → Value → Prop
  | 0, _, v => v = .slice (some ⟨g0, 0, none⟩) 32 32
  | 1, _, v => v = .int .i64 c
  | 2, w, v => ∃ g, v = .slice (some ⟨g, 0, none⟩) 1 1 ∧ Cd.Nums w (some ⟨g, 0, none⟩) 1 [c]
  | 3, w, v => ∃ sp cap, v = .slice sp 8 cap ∧ Cd.Bytes w sp cap (Cd.nums [c])
  | 4, w, v => ∃ g, v = .slice (some ⟨g, 0, none⟩) 2 2 ∧ Cd.Pieces w (some ⟨g, 0, none⟩) 2 [s, Cd.nums [c]]
  | 5, w, v => ∃ sp cap, v = .slice sp 48 cap ∧ Cd.Bytes w sp cap (numB s c)
  | 6, _, v => v = .agg (rowB (numD s c))
  | 7, w, v => ∃ g, v = .pointer (some ⟨g, 0, none⟩) ∧ B ≤ g ∧ Dg w g (zs 32)
  | _ + 8, _, _ => True
theorem nbP_le (g0 B : Nat) (s : List Int) (c : Int) : ∀ (j : Nat) (w w' : World) (v : Value), Below w.heap.size w w' → nbP g0 B s c j w v → nbP g0 B s c j w' v
  | 0, _, _, _, _, h => h
  | 1, _, _, _, _, h => h
  | 2, _, _, _, hb, ⟨g, e, h⟩ => ⟨g, e, Cd.Sl.below h (Nat.le_refl _) hb⟩
  | 3, _, _, _, hb, ⟨sp, cap, e, h⟩ => ⟨sp, cap, e, h.below hb⟩
  | 4, _, _, _, hb, ⟨g, e, h⟩ => ⟨g, e, h.below hb⟩
  | 5, _, _, _, hb, ⟨sp, cap, e, h⟩ => ⟨sp, cap, e, h.below hb⟩
  | 6, _, _, _, _, h => h
  | 7, _, _, _, hb, ⟨g, e, h1, h2⟩ => ⟨g, e, h1, h2.below hb⟩
  | _ + 8, _, _, _, _, h => h
def nbX (g0 : Nat) (s : List Int) (c : Int) : Nat → Option Value
  | 0 => some (.slice (some ⟨g0, 0, none⟩) 32 32) | 1 => some (.int .i64 c) | 6 => some (.agg (rowB (numD s c))) | _ => none
theorem nbP_val (g0 B : Nat) (s : List Int) (c : Int) : ∀ (j : Nat) (w : World) (v : Value), nbP g0 B s c j w v → ∀ x, nbX g0 s c j = some x → v = x
  | 0, _, _, h, x, e => by cases e; exact h
  | 1, _, _, h, x, e => by cases e; exact h
  | 2, _, _, _, _, e => by cases e
  | 3, _, _, _, _, e => by cases e
  | 4, _, _, _, _, e => by cases e
  | 5, _, _, _, _, e => by cases e
  | 6, _, _, h, x, e => by cases e; exact h
  | 7, _, _, _, _, e => by cases e
  | _ + 8, _, _, _, _, e => by cases e
/-- a seed's block -/
structure H1 (w : World) (d : List Int) (W : World) : Prop where
  below : Below w.heap.size w W
  d : Dg W w.heap.size d
theorem H1.made (w : World) (d : List Int) : H1 w d (w.alloc (.cells (rowB d) 23)) := ⟨(Below.refl _ _).alloc (Nat.le_refl _) _, heap_alloc_new _ _⟩
theorem H1.later {w W W' : World} {d : List Int} (h : H1 w d W) (hb : Below W.heap.size W W') : H1 w d W' := ⟨h.below.trans (hb.mono h.below.size), h.d.below hb⟩
theorem gen_w {Q : World → Prop} (w2 : World) (P : World → Prop) (h : P w2) (k : ∀ w, P w → Q w) : Q w2 := k w2 h
end Go.Proofs.YtmolkbmdfkeniaaDoor.Dr
