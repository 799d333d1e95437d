import Derived.Test.YtighmhoekbnagaaDoorKh
import Derived.Test.YtighmhoekbnagaaDoorLs
import Derived.Lib.SmallJoins
import Derived.Great.BuildSlice
import Derived.Deep.MidRow
namespace Go.Proofs.YtighmhoekbnagaaDoor
open Go.ChangeShapes Go.WideShapes Go.ChangeAt Go.RowKit

/-- every block of cells keeps its cells -/
structure Lk (w w' : World) : Prop where
  size : w.heap.size ≤ w'.heap.size
  cells : ∀ (g : Nat) (C : Array Value) (t : TypeId) (fr : Nat × Nat), w.heap[g]? = some (.cells C t fr) → ∃ fr', w'.heap[g]? = some (Obj.cells C t fr')
theorem Lk.of_below {w w' : World} (h : Below w.heap.size w w') : Lk w w' := ⟨h.size, fun g _ _ fr hg => ⟨fr, (h.block g (Array.getElem?_eq_some_iff.1 hg).1).trans hg⟩⟩
theorem cell_at {w : World} {c o : Nat} {v : Value} (h : w.cell? ⟨c, o, none⟩ = some v) : ∃ (C : Array Value) (t : TypeId) (fr : Nat × Nat), w.heap[c]? = some (.cells C t fr) ∧ C[o]? = some v := by
  simp only [World.cell?] at h
  split at h
  · rename_i C t fr hg
    exact ⟨C, t, fr, hg, by simpa using h⟩
  · cases h
theorem Lk.cell {w w' : World} (h : Lk w w') {c o : Nat} {v : Value} (hc : w.cell? ⟨c, o, none⟩ = some v) : w'.cell? ⟨c, o, none⟩ = some v := by
  obtain ⟨C, t, fr, hg, hv⟩ := cell_at hc
  obtain ⟨fr', hg'⟩ := h.cells c C t fr hg
  rw [cell_of_row _ _ _ _ _ _ hg']
  exact hv
theorem Lk.sl {w w' : World} {sp : Option Addr} {cap : Nat} {xs : List Value} (h : Lk w w') (hs : Sl w sp cap xs) : Sl w' sp cap xs :=
  ⟨hs.le, hs.max, hs.nul, fun h0 => by
    obtain ⟨c, o, e, hl⟩ := hs.lies h0
    exact ⟨c, o, e, fun i v hv => h.cell (hl i v hv)⟩⟩
theorem Lk.byt {w w' : World} {sp : Option Addr} {cap : Nat} {l : List Int} (h : Lk w w') (hb : Byt w sp cap l) : Byt w' sp cap l := byt_iff.2 (h.sl (byt_iff.1 hb))
theorem Lk.pcs {w w' : World} {sp : Option Addr} {cap : Nat} {ls : List (List Int)} (h : Lk w w') (hp : Pcs w sp cap ls) : Pcs w' sp cap ls := by
  obtain ⟨vs, h1, h2, h3⟩ := hp.ex
  exact ⟨vs, h1, h.sl h2, fun i v hv => by
    obtain ⟨sp2, cap2, e, hb⟩ := h3 i v hv
    exact ⟨sp2, cap2, e, h.byt hb⟩⟩
theorem Lk.digs {w w' : World} {sp : Option Addr} {cap : Nat} {ds : List (List Int)} (h : Lk w w') (hd : Digs w sp cap ds) : Digs w' sp cap ds :=
  ⟨hd.le, hd.max, hd.nul, hd.all, fun h0 => by
    obtain ⟨c, o, e, hl⟩ := hd.lies h0
    exact ⟨c, o, e, fun i hi => h.cell (hl i hi)⟩⟩
/-- the mark behind a literal's row -/
theorem freeze_lk (w : World) (a : Addr) (n : Nat) : Lk w (w.freeze a n) := by
  unfold World.freeze
  split
  · exact ⟨Nat.le_refl _, fun g C t fr h => ⟨fr, h⟩⟩
  · refine ⟨by simp, fun g C t fr h => ?_⟩
    by_cases hg : a.block = g
    · subst hg
      obtain ⟨hlt, he⟩ := Array.getElem?_eq_some_iff.1 h
      simp only [Array.getElem?_modify, if_pos, h, Option.map_some]
      exact ⟨_, rfl⟩
    · exact ⟨fr, by simp only [Array.getElem?_modify, if_neg hg, h]⟩
theorem freeze_below {B : Nat} (w : World) (a : Addr) (n : Nat) (hB : B ≤ a.block) : Below B w (w.freeze a n) := by
  unfold World.freeze
  split
  · exact Below.refl _ _
  · exact ⟨rfl, rfl, rfl, by simp, fun k hk => by simp only [Array.getElem?_modify, if_neg (show ¬ a.block = k by omega)]⟩
/-- a literal of one byte -/
def Lit (B : Nat) (x : Int) (w : World) (v : Value) : Prop := ∃ g fr, B ≤ g ∧ v = .slice (some ⟨g, 0, none⟩) 1 1 ∧ w.heap[g]? = some (.cells #[.int .u8 x] 5 fr)
theorem Lk.lit {w w' : World} {B : Nat} {x : Int} {v : Value} (h : Lk w w') (hl : Lit B x w v) : Lit B x w' v := by
  obtain ⟨g, fr, h1, h2, h3⟩ := hl
  obtain ⟨fr', h4⟩ := h.cells g _ _ fr h3
  exact ⟨g, fr', h1, h2, h4⟩
theorem Lit.byt {w : World} {B g : Nat} {x : Int} (h : Lit B x w (.slice (some ⟨g, 0, none⟩) 1 1)) : Byt w (some ⟨g, 0, none⟩) 1 [x] := by
  obtain ⟨g', fr, _, h2, h3⟩ := h
  cases h2
  refine ⟨⟨Nat.le_refl _, by unfold maxLen; omega, fun _ => ⟨g, 0, rfl, fun i hi => ?_⟩⟩, fun h => by cases h⟩
  have : i = 0 := by simp at hi; omega
  subst this
  rw [cell_of_row _ _ _ _ _ _ h3]
  rfl
section
variable {a : Act} {o : Oper} {W : World}
theorem exec_lit (x : Int) (ho : o.op = .buildSlice 28 1 #[(0, .const (.int .u8 x))]) : (execOp a.eval o).run Tryd.prog W = .ok (.value (.slice (some ⟨W.heap.size, 0, none⟩) 1 1)) (W.alloc (.cells #[.int .u8 x] 5)) := by
  obtain ⟨i0, hi, hz0, hz1, hz2⟩ := info_parts info5
  unfold execOp
  have hr := run_buildSlice (P := Tryd.prog) W 28 5 1 #[(0, .int .u8 x)] #[.int .u8 x] i0 _ Tryd.underlying28 hi hz0 (by rw [hz1]; decide) (by rw [hz1]; decide) (by rw [hz1]; kernel_rfl)
  have e : (#[((0 : Nat), Operand.const (Value.int .u8 x))].map fun (i, x) => (i, a.eval x)) = #[(0, .int .u8 x)] := by simp; rfl
  simp only [ho, e, Sem.run_bind, hr, Result.andThen_ok, Sem.run_pure]
theorem exec_conv (x : Operand) (ho : o.op = .convert 28 28 x) (g : Nat) (C : Array Value) (t : TypeId) (fr : Nat × Nat) (n c : Nat) (hx : a.eval x = .slice (some ⟨g, 0, none⟩) n c) (hg : W.heap[g]? = some (.cells C t fr)) :
    (execOp a.eval o).run Tryd.prog W = .ok (.value (.slice (some ⟨g, 0, none⟩) n c)) (W.freeze ⟨g, C.size, none⟩ 1) := by
  have hsh : W.shape? g = some (t, C.size) := by unfold World.shape?; rw [hg]
  unfold execOp
  simp [ho, hx, convert, run_underlying Tryd.underlying28, run_underlying Tryd.underlying5, markStringish, hsh]
theorem exec_three (x y z : Operand) (ho : o.op = .buildSlice 22 3 #[(0, x), (1, y), (2, z)]) (s1 s2 s3 : Option Addr) (n1 n2 n3 c1 c2 c3 : Nat) (hx : a.eval x = .slice s1 n1 c1) (hy : a.eval y = .slice s2 n2 c2) (hz : a.eval z = .slice s3 n3 c3) :
    (execOp a.eval o).run Tryd.prog W = .ok (.value (.slice (some ⟨W.heap.size, 0, none⟩) 3 3)) (W.alloc (.cells #[.slice s1 n1 c1, .slice s2 n2 c2, .slice s3 n3 c3] 28)) := by
  obtain ⟨i0, hi, hz0, hz1, hz2⟩ := info_parts info28
  unfold execOp
  have hr := run_buildSlice (P := Tryd.prog) W 22 28 3 #[(0, .slice s1 n1 c1), (1, .slice s2 n2 c2), (2, .slice s3 n3 c3)] #[.slice s1 n1 c1, .slice s2 n2 c2, .slice s3 n3 c3] i0 _ Tryd.underlying22 hi hz0 (by rw [hz1]; decide) (by rw [hz1]; decide) (by rw [hz1]; kernel_rfl)
  have e : (#[((0 : Nat), x), (1, y), (2, z)].map fun (i, x) => (i, a.eval x)) = #[(0, .slice s1 n1 c1), (1, .slice s2 n2 c2), (2, .slice s3 n3 c3)] := by simp [hx, hy, hz]
  simp only [ho, e, Sem.run_bind, hr, Result.andThen_ok, Sem.run_pure]
theorem exec_load_mid (x : Operand) (ho : o.op = .load 24 x) (c k : Nat) (hx : a.eval x = .pointer (some ⟨c, k, none⟩)) (d : List Int) (hd : d.length = 32) (hr : W.rangeAt c k (d.map (Value.int .u8))) : (execOp a.eval o).run Tryd.prog W = .ok (.value (.agg (rowB d))) W := by
  have h := run_loadVar_mid (P := Tryd.prog) W c k 24 (d.map (Value.int .u8)) _ hr Tryd.underlying24 rfl (by rw [List.length_map, hd]; exact size25)
  unfold execOp
  simp only [ho, hx, Instr.loadAt, Instr.sureAddr, Sem.run_bind, Sem.run_pure, Result.andThen_ok, h]
  rfl
/-- the address of the i-th digest -/
theorem exec_dig_at (x y : Operand) (ho : o.op = .indexAddr 33 x y) (c k n cap i : Nat) (hx : a.eval x = .slice (some ⟨c, k, none⟩) n cap) (hy : a.eval y = .int .i64 (i : Int)) (hi : i < n) : (execOp a.eval o).run Tryd.prog W = .ok (.value (.pointer (some ⟨c, k + 32 * i, none⟩))) W := by
  have hadd := add_plain c k (i * 32)
  cases hq : Tryd.prog.info? 24 with
  | none => have := size25; simp [hq] at this
  | some j =>
    have hj : j.size = 32 := by have := size25; simpa [hq] using this
    unfold execOp
    simp [ho, hx, hy, Instr.indexAt, asIntOf, run_underlying Tryd.underlying33, sizeOf, typeInfo, hq, hj, hi, hadd]
theorem exec_lenD (x : Operand) (ho : o.op = .call { callee := .builtin .len, args := #[x], argTypes := #[33] }) (sp : Option Addr) (n cap : Nat) (hx : a.eval x = .slice sp n cap) : (execOp a.eval o).run Tryd.prog W = .ok (.value (.int .i64 n)) W := by
  unfold execOp
  simp only [ho, resolve, invoke, Sem.run_bind, Sem.run_pure, Result.andThen_ok, List.map_toArray, List.map_cons, List.map_nil, hx, BigFrame.builtin_len]
  simp [go_sem]
theorem guard24 (op : BinOp) (x y : Operand) (d e : Array Value) : (eqGuard op 24 x y (.agg d) (.agg e)).run Tryd.prog W = .ok () W := by
  unfold eqGuard
  cases op <;> simp
theorem exec_eqD (x y : Operand) (ho : o.op = .binOp .eql 24 x y 24) (d e : List Int) (hx : a.eval x = .agg (rowB d)) (hy : a.eval y = .agg (rowB e)) (hd : d.length = 32) (he : e.length = 32) : (execOp a.eval o).run Tryd.prog W = .ok (.value (.bool (d == e))) W :=
  exec_binOp .eql 24 24 x y ho _ _ _ hx hy (guard24 _ _ _ _ _) (run_eql_row (P := Tryd.prog) 24 5 32 .u8 Tryd.underlying24 Tryd.underlying5 size5 d e hd he W)
theorem exec_neD (x y : Operand) (ho : o.op = .binOp .neq 24 x y 24) (d e : List Int) (hx : a.eval x = .agg (rowB d)) (hy : a.eval y = .agg (rowB e)) (hd : d.length = 32) (he : e.length = 32) : (execOp a.eval o).run Tryd.prog W = .ok (.value (.bool (!(d == e)))) W :=
  exec_binOp .neq 24 24 x y ho _ _ _ hx hy (guard24 _ _ _ _ _) (run_neq_row (P := Tryd.prog) 24 5 32 .u8 Tryd.underlying24 Tryd.underlying5 size5 d e hd he W)
end
end Go.Proofs.YtighmhoekbnagaaDoor
