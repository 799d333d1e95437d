/- Steps: the walk of StepsRows. -/
import Derived.Test.YtdffbjjiojheoaaSx
import Derived.Deep.RegionHeld3
namespace Go.Proofs.Ytdffbjjiojheoaa.St
set_option maxRecDepth 100000
open Go.ChangeShapes Go.WideShapes Go.ChangeAt Go.RowKit Go.Shelf Go.Proofs.Ytdffbjjiojheoaa.Tn Go.Proofs.Ytdffbjjiojheoaa.Wg
set_option maxHeartbeats 4000000 in
theorem ints_same (w : World) (sp sq : Option Addr) (cap caq N : Nat) (l : List Int) (hN : l.length = N) (hl : Nums w sp cap l) (hm : Nums w sq caq l) :
    Calls Try.prog 17 #[.slice sp N cap, .slice sq N caq] w fun e w' => e = .returned (.bool true) ∧ Below w.heap.size w w' := by
  have hNm : N ≤ 9223372036854775807 := by rw [← hN]; exact hl.len
  have HL := Lib.hid hl
  have HM := Lib.hid hm
  have HN := Lib.hid hN
  clear hl hm hN
  go_enter Try.func17, Try.ntmps17
  go_wp2
  go_loopw [5] (fun i wr => ∃ k m : Nat, k ≤ N ∧ i = .int .i64 k ∧ wr = w.drewN m) (fun i _ => N - (intOf i).toNat)
  case atStart => exact ⟨0, 0, by omega, rfl, rfl⟩
  case round =>
    obtain ⟨k, m, hk, rfl, rfl⟩ := hrel
    by_cases hlt : k < N
    · have hdt : decide (k < N) = true := by simp; omega
      obtain ⟨g, o, rfl, hc⟩ := HL.out.at_ k (by rw [HN.out]; exact hlt)
      obtain ⟨g2, o2, rfl, hc2⟩ := HM.out.at_ k (by rw [HN.out]; exact hlt)
      obtain ⟨x, hx⟩ : ∃ x, l.getD k 0 = x := ⟨_, rfl⟩
      rw [hx] at hc hc2
      have hxx : (x != x) = false := by simp
      clear hx
      go_wp2
      go_quiet (fail)
      go_wp2
      go_roundw
      case rel => exact ⟨k + 1, _, by omega, by go_num, rfl⟩
      case measure => simp [intOf]; omega
    · have hdf : decide (k < N) = false := by simp; omega
      go_wp2
      go_ret
      exact ⟨rfl, below_drewN (Below.refl _ _) _⟩
/-- the boxes of the law: what fills the model, the part -/
structure LwI (w : World) (sp ps : Array Value) (W : World) : Prop where
  below : Below w.heap.size w W
  sb : W.heap[w.heap.size]? = some (.cells sp 25 (0, 0))
  pb : W.heap[w.heap.size + 1]? = some (.cells ps 76 (0, 0))
theorem LwI.later {w W W' : World} {sp ps : Array Value} (h : LwI w sp ps W) (hb : Below W.heap.size W W') : LwI w sp ps W' :=
  ⟨h.below.trans (hb.mono h.below.size), (hb.block _ (Array.getElem?_eq_some_iff.1 h.sb).1).trans h.sb, (hb.block _ (Array.getElem?_eq_some_iff.1 h.pb).1).trans h.pb⟩
theorem LwI.made (w : World) (sp ps : Array Value) : LwI w sp ps ((w.alloc (.cells sp 25)).alloc (.cells ps 76)) := by
  obtain ⟨O1, hO1⟩ : ∃ O, (Obj.cells sp 25 (0, 0)) = O := ⟨_, rfl⟩
  obtain ⟨O2, hO2⟩ : ∃ O, (Obj.cells ps 76 (0, 0)) = O := ⟨_, rfl⟩
  rw [hO1, hO2]
  have e1 : (w.alloc O1).heap.size = w.heap.size + 1 := by simp
  refine ⟨((Below.refl _ _).alloc (Nat.le_refl _) _).alloc (by simp) _, ?_, ?_⟩
  · rw [hO1, heap_alloc_old _ _ (by omega)]; exact heap_alloc_new _ _
  · rw [hO2, ← e1]; exact heap_alloc_new _ _
theorem LwI.pc {w W : World} {sp ps : Array Value} (h : LwI w sp ps W) {i : Nat} {v : Value} (hv : ps[i]? = some v) : W.cell? ⟨w.heap.size + 1, i, none⟩ = some v := by rw [cell_of_row _ _ _ _ _ _ h.pb]; exact hv
/-- and the model in its own -/
structure LmW (w : World) (sp ps : Array Value) (g : Nat) (v : Wv) (W0 W : World) : Prop where
  li : LwI w sp ps W
  mb : W.heap[g]? = some (.cells v.cells 38 (0, 0))
  b0 : Below W0.heap.size W0 W
theorem LmW.later {w W W' W0 : World} {sp ps : Array Value} {g : Nat} {v : Wv} (h : LmW w sp ps g v W0 W) (hb : Below W.heap.size W W') : LmW w sp ps g v W0 W' := ⟨h.li.later hb, (hb.block _ (Array.getElem?_eq_some_iff.1 h.mb).1).trans h.mb, h.b0.trans (hb.mono h.b0.size)⟩
theorem LmW.mc {w W W0 : World} {sp ps : Array Value} {g : Nat} {v : Wv} (h : LmW w sp ps g v W0 W) {i : Nat} {x : Value} (hv : v.cells[i]? = some x) : W.cell? ⟨g, i, none⟩ = some x := by rw [cell_of_row _ _ _ _ _ _ h.mb]; exact hv
theorem rowE_yes {Q C R : Nat} {l : List Int} (h : chkM Q C l = 0) (hr : R < Q) : rowE Q C l R = 0 := by unfold rowE; rw [if_neg (fun e => e h), if_neg (by omega)]
theorem rowV_yes {Q C R : Nat} {l : List Int} (h : chkM Q C l = 0) (hr : R < Q) : rowV Q C l R = rowL l C R := by unfold rowV; rw [if_pos (rowE_yes h hr), Int.toNat_natCast, Int.toNat_natCast]
theorem vec_row {l : List Int} {C : Nat} (h : l.length = C) : rowL l C 0 = l := by unfold rowL; rw [Nat.zero_mul, List.drop_zero, List.take_of_length_le (by omega)]
theorem wpList_store_newW {P : Program} {w0 w : World} {ops : Array Oper} {rest : List Oper} {o : Oper} {a : Act} {Q : Exit → Act → World → Prop} (hgd : o.guard = none) (ty : TypeId) (x y : Operand) (ho : o.op = .store ty x y) (cells : Array Value) (old : Array Value) (t : TypeId) (hw : w = w0.alloc (.cells old t)) (hx : a.eval x = .pointer (some ⟨w0.heap.size, 0, none⟩)) (hy : a.eval y = .agg cells)
    (hi : (P.info? ty).map (·.size) = some cells.size) (hold : old.size = cells.size) (h1 : cells.all (·.oneCell') = true)
    (h : wpList P ops Q rest (a.put o.dst undef) (w0.alloc (.cells cells t))) : wpList P ops Q (o :: rest) a w := by
  subst hw
  refine wpList_store_row hgd ty x y ho w0.heap.size cells hx hy t old (heap_alloc_new _ _) hi hold h1 ?_
  rw [alloc_setRow]
  exact h
theorem n_pos {m : Md} (hE : m.chk = 0) : 1 ≤ m.n := by
  obtain ⟨hck, _, _, hnl⟩ := headE_zero (chk_zero hE).1
  have := (Cfg.ok_of_chk hck).l
  omega
theorem layer_row {W : World} {v : Wv} {m : Md} (hv : WvOK W v m) {k y r : Int} {K Y R C Q : Nat} (hP : RowAt m k y r K Y R C Q) (h2 : 2 ≤ K) (h10 : K ≤ 10) (hy : Y < m.n) : ∃ b o q cs sp cap, v.sl = some ⟨b, o, none⟩ ∧ o + Y * 23 = q ∧ W.rangeAt b q cs ∧ Nums W sp cap (m.part K Y).l ∧ (isVec K = true → cs[offK K]? = some (.slice sp C cap)) ∧ (isVec K = false → cs[offK K]? = some (.int .i64 (Q : Int)) ∧ cs[offK K + 1]? = some (.int .i64 (C : Int)) ∧ cs[offK K + 2]? = some (.slice sp (Q * C) cap)) := by
  have hl := hP.len
  have hm := hP.mat
  have hq := hP.vec
  have e : m.part K Y = m.ly Y K := by
    unfold Md.part
    rw [if_neg (by omega), if_neg (by omega), if_neg (by omega)]
  rw [e] at hl hm ⊢
  have hyn : Y < v.nl := by rw [hv.nl]; exact hy
  obtain ⟨b, o, cs, hs, hc, hr, hp⟩ := lay_range hv.ls hyn
  obtain ⟨R', C', sp, n, cap, h⟩ := hp K h2 h10
  have en : n = Q * C := h.len.trans hl
  refine ⟨b, o, _, cs, sp, cap, hs, rfl, hr, h.nums, fun hvc => ?_, fun hvc => ?_⟩
  · obtain ⟨a, _, _⟩ := h.vec hvc
    have := hq hvc
    subst this
    rw [Nat.one_mul] at en
    rw [← en]
    exact a
  · obtain ⟨x0, x1, x2, a, b⟩ := h.mat hvc
    obtain ⟨m1, m2⟩ := hm hvc
    rw [a, m1] at x0
    rw [b, m2] at x1
    rw [en] at x2
    exact ⟨x0, x1, x2⟩
theorem exec_atQ {a : Act} {o : Oper} {W : World} (x y : Operand) (ho : o.op = .indexAddr 36 x y) (c b n cap i q : Nat) (hx : a.eval x = .slice (some ⟨c, b, none⟩) n cap) (hy : a.eval y = .int .i64 (i : Int)) (hi : i < n) (hq : b + i * 23 = q) : (execOp a.eval o).run Try.prog W = .ok (.value (.pointer (some ⟨c, q, none⟩))) W := by
  rw [← hq]; exact exec_atL x y ho c b n cap i hx hy hi
theorem trow_row (W : World) (Q C R : Nat) (sp : Option Addr) (cap : Nat) (l : List Int) (hl : l.length = Q * C) (hN : Nums W sp cap l) (hq : chkM Q C l = 0) (hr : R < Q) (hQ : Q ≤ 512) : Calls Try.prog 29 #[.agg #[.int .i64 (Q : Int), .int .i64 (C : Int), .slice sp (Q * C) cap], .int .i64 (R : Int)] W fun e W' => ∃ s d, e = .returned (.tuple #[.slice s C d, .int .i64 0]) ∧ Nums W' s d (rowL l C R) ∧ Below W.heap.size W W' :=
  (trow_any W Q C R sp cap (Q * C) l hl hN (by omega) (by omega)).mono fun e W' h => by
    rw [rowE_yes hq hr, rowV_yes hq hr] at h
    obtain ⟨s, d, h1, h2, h3⟩ := h
    rw [rowL_length hl hr] at h1
    exact ⟨s, d, h1, h2, h3⟩
theorem exec_midMt {a : Act} {o : Oper} {W : World} (x : Operand) (ho : o.op = .load 35 x) (b q : Nat) (hx : a.eval x = .pointer (some ⟨b, q, none⟩)) (A B C : Value) (hc : W.rangeAt b q [A, B, C]) : (execOp a.eval o).run Try.prog W = .ok (.value (.agg #[A, B, C])) W := by
  unfold execOp
  simp only [ho, hx, Instr.loadAt, Instr.sureAddr, Sem.run_bind, Sem.run_pure, Result.andThen_ok, run_loadVar_mid W b q 35 [A, B, C] _ hc Try.underlying35 rfl Mk.size_matM]
theorem cell_range {W W' : World} {b q : Nat} {cs : List Value} (h : W.rangeAt b q cs) (hb : Below W.heap.size W W') {i : Nat} {v : Value} (hv : cs[i]? = some v) : W'.cell? ⟨b, q + i, none⟩ = some v := (hb.cell (block_lt_of_cell (h i v hv))).trans (h i v hv)
/-- what a drawn region with a call of Row has at each of its ops -/
def PhR (UL : List Value) (C : Nat) (X : List Int) (j : Nat) (W : World) (v : Value) : Prop :=
  if j < 6 then v = UL.getD j undef else if j < 8 then ∃ s d, v = .tuple #[.slice s C d, .int .i64 0] ∧ Nums W s d X else if j = 8 then ∃ s d, v = .slice s C d ∧ Nums W s d X else v = .int .i64 0
def PsR (UL : List Value) (C : Nat) (j : Nat) (v : Value) : Prop :=
  if j < 6 then v = UL.getD j undef else if j < 8 then ∃ s d, v = .tuple #[.slice s C d, .int .i64 0] else if j = 8 then ∃ s d, v = .slice s C d else v = .int .i64 0
def u0R (UL : List Value) (C : Nat) (j : Nat) : Value := if j < 6 then UL.getD j undef else if j < 8 then .tuple #[.slice none C 0, .int .i64 0] else if j = 8 then .slice none C 0 else .int .i64 0
theorem PhR.le {UL : List Value} {C : Nat} {X : List Int} {j : Nat} {W W' : World} {v : Value} (hb : Below W.heap.size W W') (h : PhR UL C X j W v) : PhR UL C X j W' v := by
  unfold PhR at h ⊢
  split
  · rename_i h1; rwa [if_pos h1] at h
  · rename_i h1
    rw [if_neg h1] at h
    split
    · rename_i h2
      rw [if_pos h2] at h
      obtain ⟨s, d, e, hN⟩ := h
      exact ⟨s, d, e, Sl.below hN (Nat.le_refl _) hb⟩
    · rename_i h2
      rw [if_neg h2] at h
      split
      · rename_i h3
        rw [if_pos h3] at h
        obtain ⟨s, d, e, hN⟩ := h
        exact ⟨s, d, e, Sl.below hN (Nat.le_refl _) hb⟩
      · rename_i h3; rwa [if_neg h3] at h
theorem phr7 {UL : List Value} {C : Nat} {X : List Int} {W : World} {s : Option Addr} {d : Nat} (h : PhR UL C X 7 W (.tuple #[.slice s C d, .int .i64 0])) : Nums W s d X := by
  obtain ⟨s', d', e, hN⟩ : ∃ s' d', Value.tuple #[.slice s C d, .int .i64 0] = .tuple #[.slice s' C d', .int .i64 0] ∧ Nums W s' d' X := h
  cases e
  exact hN
theorem PhR.ps {UL : List Value} {C : Nat} {X : List Int} {j : Nat} {W : World} {v : Value} (h : PhR UL C X j W v) : PsR UL C j v := by
  unfold PhR at h
  unfold PsR
  split
  · rename_i h1; rwa [if_pos h1] at h
  · rename_i h1
    rw [if_neg h1] at h
    split
    · rename_i h2
      rw [if_pos h2] at h
      obtain ⟨s, d, e, _⟩ := h
      exact ⟨s, d, e⟩
    · rename_i h2
      rw [if_neg h2] at h
      split
      · rename_i h3
        rw [if_pos h3] at h
        obtain ⟨s, d, e, _⟩ := h
        exact ⟨s, d, e⟩
      · rename_i h3; rwa [if_neg h3] at h
theorem PsR.u0 (UL : List Value) (C j : Nat) : PsR UL C j (u0R UL C j) := by
  unfold PsR u0R
  split
  · rfl
  · split
    · exact ⟨_, _, rfl⟩
    · split
      · exact ⟨_, _, rfl⟩
      · rfl
theorem range_mat {W W' : World} {b q : Nat} {cs : List Value} {A B C : Value} (h : W.rangeAt b q cs) (hb : Below W.heap.size W W') {i : Nat} (x0 : cs[i]? = some A) (x1 : cs[i + 1]? = some B) (x2 : cs[i + 2]? = some C) : W'.rangeAt b (q + i) [A, B, C] :=
  range3 (cell_range h hb x0) (by rw [Nat.add_assoc]; exact cell_range h hb x1) (by rw [Nat.add_assoc]; exact cell_range h hb x2)
end Go.Proofs.Ytdffbjjiojheoaa.St
