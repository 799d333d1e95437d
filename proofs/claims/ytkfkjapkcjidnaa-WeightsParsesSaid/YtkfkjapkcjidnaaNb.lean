import Derived.Test.YtkfkjapkcjidnaaNa
import Derived.Test.YtkfkjapkcjidnaaCa
namespace Go.Proofs.Ytkfkjapkcjidnaa.Wg
set_option maxRecDepth 100000
open Go.ChangeShapes Go.WideShapes Go.ChangeAt Go.RowKit Go.Shelf Go.Proofs.Ytkfkjapkcjidnaa.Tn

/-! ### the first leaf -/
def flatP (ps : List (Int × Int)) : List Int := ps.flatMap fun p => [p.1, p.2]
theorem flatP_length (ps : List (Int × Int)) : (flatP ps).length = 2 * ps.length := by
  induction ps with
  | nil => rfl
  | cons p ps ih => simp only [flatP, List.flatMap_cons, List.length_append] at ih ⊢; rw [ih]; simp; omega
def Cfg.list (c : Cfg) : List Int := [c.v, c.d, c.h, c.l, c.x, c.i]
def headB (c : Cfg) (al : List Int) (ps : List (Int × Int)) : List Int := Cd.join [Cd.nums c.list, al, Cd.nums (flatP ps)]
/-- a row of numbers of one's own -/
def NumR (base : Nat) (v : Value) (l : List Int) (W : World) : Prop := W.ownsRow base 3 1 v l.length (l.map (Value.int .i64)) ∧ base ≤ W.heap.size
section
variable {W : World} {ops : Array Oper} {rest : List Oper} {o : Oper} {a : Act} {Q : Exit → Act → World → Prop}
theorem wpList_push_two (hgd : o.guard = none) (s x : Operand) (ho : o.op = .call { callee := .builtin .append, args := #[s, x], argTypes := #[26, 26] }) (base : Nat) (v : Value) (l : List Int) (y z : Int) (hs : a.eval s = v) (hown : NumR base v l W)
    (hx : a.eval x = .slice (some ⟨W.heap.size, 0, none⟩) 2 2) (hn : l.length ≤ 999990)
    (h : ∀ v' w', NumR base v' (l ++ [y, z]) w' → Below base W w' → wpList Try.prog ops Q rest (a.put o.dst v') w') : wpList Try.prog ops Q (o :: rest) a (W.alloc (.cells #[.int .i64 y, .int .i64 z] 3)) := by
  have hb : Below W.heap.size W (W.alloc (.cells #[.int .i64 y, .int .i64 z] 3)) := (Below.refl _ _).alloc (Nat.le_refl _) _
  have hsl : Sl (W.alloc (.cells #[.int .i64 y, .int .i64 z] 3)) (some ⟨W.heap.size, 0, none⟩) 2 [.int .i64 y, .int .i64 z] := Sl.new W [.int .i64 y, .int .i64 z] #[.int .i64 y, .int .i64 z] 3 (0, 0) rfl (by simp)
  have ho' := owns_below hown.1 hb
  have hbase := hown.2
  refine wpList_append_sl 26 3 8 (.int .i64 0) Try.underlying26 info3 rfl (by decide) hgd s x ho base v l.length 2 (l.map (Value.int .i64)) [.int .i64 y, .int .i64 z] hs ho' (some ⟨W.heap.size, 0, none⟩) 2 hx rfl hsl (fun v hv => by simp at hv; rcases hv with rfl | rfl <;> rfl) (by omega) (by simp; omega) ?_
  intro v' w' h1 h2
  have hsz := h2.size
  simp at hsz
  refine h v' w' ⟨by rw [List.map_append, List.length_append]; exact h1, by omega⟩ ((hb.mono hbase).trans (Below.ofGrown h2 (by simp; omega) (fun k hk => (ho'.lt k hk).1)))
end
theorem cdSl {w : World} {sp : Option Addr} {cap : Nat} {xs : List Value} (h : Sl w sp cap xs) : Cd.Sl w sp cap xs := ⟨h.le, h.max, h.nul, h.lies⟩
theorem tnSl {w : World} {sp : Option Addr} {cap : Nat} {xs : List Value} (h : Cd.Sl w sp cap xs) : Sl w sp cap xs := ⟨h.le, h.max, h.nul, h.lies⟩
theorem cdBytes {w : World} {sp : Option Addr} {cap : Nat} {b : List Int} (h : Bp.Byts w sp cap b) : Cd.Bytes w sp cap b := ⟨cdSl h.sl, h.rng⟩
/-- what stands in encodeHead: the model, and a copy of its sizes -/
structure Eh (w : World) (v : Wv) (m : Md) (W : World) : Prop where
  hw : Hw w v m W
  cp : W.heap[w.heap.size + 1]? = some (.cells v.c.cells 23 (0, 0))
theorem Eh.later {w W W' : World} {v : Wv} {m : Md} (h : Eh w v m W) (hb : Below W.heap.size W W') : Eh w v m W' := ⟨h.hw.later hb, (hb.block _ (Array.getElem?_eq_some_iff.1 h.cp).1).trans h.cp⟩
theorem Eh.hi {w W : World} {v : Wv} {m : Md} (h : Eh w v m W) : w.heap.size + 2 ≤ W.heap.size := (Array.getElem?_eq_some_iff.1 h.cp).1
theorem Eh.past {w W W' : World} {v : Wv} {m : Md} (hv : WvOK w v m) (h : Eh w v m W) (hb : Below (w.heap.size + 2) W W') : Eh w v m W' := by
  have h1 := h.hw.below.trans (hb.mono (by omega))
  exact ⟨⟨h1, (hb.block _ (by omega)).trans h.hw.md.row, hv.later h1⟩, (hb.block _ (by omega)).trans h.cp⟩
/-- what the calls of encodeHead's last statement answer -/
structure EhW (c : Cfg) (al fl : List Int) (j : Nat) (W : World) (y : Value) : Prop where
  a12 : j = 12 → ∃ b, y = .slice (some ⟨b, 0, none⟩) 6 6 ∧ Cd.Nums W (some ⟨b, 0, none⟩) 6 c.list
  a13 : j = 13 → ∃ sp cap, y = .slice sp (8 * 6) cap ∧ Cd.Bytes W sp cap (Cd.nums c.list)
  a17 : j = 17 → ∃ sp cap, y = .slice sp (8 * fl.length) cap ∧ Cd.Bytes W sp cap (Cd.nums fl)
  a18 : j = 18 → ∃ b, y = .slice (some ⟨b, 0, none⟩) 3 3 ∧ Cd.Pieces W (some ⟨b, 0, none⟩) 3 [Cd.nums c.list, al, Cd.nums fl]
  a19 : j = 19 → ∃ sp cap, y = .slice sp (Cd.join [Cd.nums c.list, al, Cd.nums fl]).length cap ∧ Cd.Bytes W sp cap (Cd.join [Cd.nums c.list, al, Cd.nums fl])
theorem EhW.later {c : Cfg} {al fl : List Int} {j : Nat} {W W' : World} {y : Value} (h : EhW c al fl j W y) (hb : Below W.heap.size W W') : EhW c al fl j W' y :=
  ⟨fun e => let ⟨b, e1, h1⟩ := h.a12 e; ⟨b, e1, Cd.Sl.below h1 (Nat.le_refl _) hb⟩, fun e => let ⟨sp, cap, e1, h1⟩ := h.a13 e; ⟨sp, cap, e1, h1.below hb⟩, fun e => let ⟨sp, cap, e1, h1⟩ := h.a17 e; ⟨sp, cap, e1, h1.below hb⟩,
    fun e => let ⟨b, e1, h1⟩ := h.a18 e; ⟨b, e1, h1.below hb⟩, fun e => let ⟨sp, cap, e1, h1⟩ := h.a19 e; ⟨sp, cap, e1, h1.below hb⟩⟩
theorem EhW.no {c : Cfg} {al fl : List Int} {j : Nat} {W : World} {y : Value} (h : j ≠ 12 ∧ j ≠ 13 ∧ j ≠ 17 ∧ j ≠ 18 ∧ j ≠ 19) : EhW c al fl j W y := ⟨fun e => by omega, fun e => by omega, fun e => by omega, fun e => by omega, fun e => by omega⟩
theorem nums_length (l : List Int) : (Cd.nums l).length = 8 * l.length := by
  unfold Cd.nums
  induction l with
  | nil => rfl
  | cons x l ih => rw [List.flatMap_cons, List.length_append, ih, Cd.be_length]; simp; omega
theorem info_slB : (Try.prog.info? 24).map (fun i => (i.zero, i.size, i.bytes)) = some (some (.slice none 0 0), 1, 24) := by kernel_rfl
theorem exec_slice6 {a : Act} {o : Oper} {W : World} (x0 x1 x2 x3 x4 x5 : Operand) (ho : o.op = .buildSlice 26 6 #[(0, x0), (1, x1), (2, x2), (3, x3), (4, x4), (5, x5)]) (c : Cfg) (h0 : a.eval x0 = .int .i64 c.v) (h1 : a.eval x1 = .int .i64 c.d) (h2 : a.eval x2 = .int .i64 c.h) (h3 : a.eval x3 = .int .i64 c.l) (h4 : a.eval x4 = .int .i64 c.x) (h5 : a.eval x5 = .int .i64 c.i) :
    (execOp a.eval o).run Try.prog W = .ok (.value (.slice (some ⟨W.heap.size, 0, none⟩) 6 6)) (W.alloc (.cells c.cells 3)) := by
  obtain ⟨i0, hi, hz0, hz1, hz2⟩ := info_parts info3
  unfold execOp
  have hr := run_buildSlice (P := Try.prog) W 26 3 6 #[(0, .int .i64 c.v), (1, .int .i64 c.d), (2, .int .i64 c.h), (3, .int .i64 c.l), (4, .int .i64 c.x), (5, .int .i64 c.i)] c.cells i0 _ Try.underlying26 hi hz0 (by rw [hz1]; decide) (by rw [hz1]; decide) (by rw [hz1]; kernel_rfl)
  have e : (#[((0 : Nat), x0), (1, x1), (2, x2), (3, x3), (4, x4), (5, x5)].map fun (i, x) => (i, a.eval x)) = #[(0, .int .i64 c.v), (1, .int .i64 c.d), (2, .int .i64 c.h), (3, .int .i64 c.l), (4, .int .i64 c.x), (5, .int .i64 c.i)] := by simp [h0, h1, h2, h3, h4, h5]
  simp only [ho, e, Sem.run_bind, hr, Result.andThen_ok, Sem.run_pure]
theorem exec_slice3 {a : Act} {o : Oper} {W : World} (x0 x1 x2 : Operand) (ho : o.op = .buildSlice 39 3 #[(0, x0), (1, x1), (2, x2)]) (s0 s1 s2 : Option Addr) (n0 n1 n2 c0 c1 c2 : Nat) (h0 : a.eval x0 = .slice s0 n0 c0) (h1 : a.eval x1 = .slice s1 n1 c1) (h2 : a.eval x2 = .slice s2 n2 c2) :
    (execOp a.eval o).run Try.prog W = .ok (.value (.slice (some ⟨W.heap.size, 0, none⟩) 3 3)) (W.alloc (.cells #[.slice s0 n0 c0, .slice s1 n1 c1, .slice s2 n2 c2] 24)) := by
  obtain ⟨i0, hi, hz0, hz1, hz2⟩ := info_parts info_slB
  unfold execOp
  have hr := run_buildSlice (P := Try.prog) W 39 24 3 #[(0, .slice s0 n0 c0), (1, .slice s1 n1 c1), (2, .slice s2 n2 c2)] #[.slice s0 n0 c0, .slice s1 n1 c1, .slice s2 n2 c2] i0 _ Try.underlying39 hi hz0 (by rw [hz1]; decide) (by rw [hz1]; decide) (by rw [hz1]; kernel_rfl)
  have e : (#[((0 : Nat), x0), (1, x1), (2, x2)].map fun (i, x) => (i, a.eval x)) = #[(0, .slice s0 n0 c0), (1, .slice s1 n1 c1), (2, .slice s2 n2 c2)] := by simp [h0, h1, h2]
  simp only [ho, e, Sem.run_bind, hr, Result.andThen_ok, Sem.run_pure]
theorem run_cf0 (g : Nat) (W : World) : (Instr.fieldAt 23 (.pointer (some ⟨g, 0, none⟩)) 0).run Try.prog W = .ok (.pointer (some ⟨g, 0, none⟩)) W := by kernel_rfl
theorem run_cf1 (g : Nat) (W : World) : (Instr.fieldAt 23 (.pointer (some ⟨g, 0, none⟩)) 1).run Try.prog W = .ok (.pointer (some ⟨g, 1, none⟩)) W := by kernel_rfl
theorem run_cf2 (g : Nat) (W : World) : (Instr.fieldAt 23 (.pointer (some ⟨g, 0, none⟩)) 2).run Try.prog W = .ok (.pointer (some ⟨g, 2, none⟩)) W := by kernel_rfl
theorem run_cf3 (g : Nat) (W : World) : (Instr.fieldAt 23 (.pointer (some ⟨g, 0, none⟩)) 3).run Try.prog W = .ok (.pointer (some ⟨g, 3, none⟩)) W := by kernel_rfl
theorem run_cf4 (g : Nat) (W : World) : (Instr.fieldAt 23 (.pointer (some ⟨g, 0, none⟩)) 4).run Try.prog W = .ok (.pointer (some ⟨g, 4, none⟩)) W := by kernel_rfl
theorem run_cf5 (g : Nat) (W : World) : (Instr.fieldAt 23 (.pointer (some ⟨g, 0, none⟩)) 5).run Try.prog W = .ok (.pointer (some ⟨g, 5, none⟩)) W := by kernel_rfl
theorem run_wf1 (g : Nat) (W : World) : (Instr.fieldAt 31 (.pointer (some ⟨g, 0, none⟩)) 1).run Try.prog W = .ok (.pointer (some ⟨g, 6, none⟩)) W := by kernel_rfl
section
variable {a : Act} {o : Oper} {W : World}
theorem exec_cf0 (x : Operand) (ho : o.op = .fieldAddr 23 x 0) (g : Nat) (hx : a.eval x = .pointer (some ⟨g, 0, none⟩)) : (execOp a.eval o).run Try.prog W = .ok (.value (.pointer (some ⟨g, 0, none⟩))) W := by
  unfold execOp
  simp only [ho, hx, Sem.run_bind, run_cf0, Result.andThen_ok, Sem.run_pure]
theorem exec_cf1 (x : Operand) (ho : o.op = .fieldAddr 23 x 1) (g : Nat) (hx : a.eval x = .pointer (some ⟨g, 0, none⟩)) : (execOp a.eval o).run Try.prog W = .ok (.value (.pointer (some ⟨g, 1, none⟩))) W := by
  unfold execOp
  simp only [ho, hx, Sem.run_bind, run_cf1, Result.andThen_ok, Sem.run_pure]
theorem exec_cf2 (x : Operand) (ho : o.op = .fieldAddr 23 x 2) (g : Nat) (hx : a.eval x = .pointer (some ⟨g, 0, none⟩)) : (execOp a.eval o).run Try.prog W = .ok (.value (.pointer (some ⟨g, 2, none⟩))) W := by
  unfold execOp
  simp only [ho, hx, Sem.run_bind, run_cf2, Result.andThen_ok, Sem.run_pure]
theorem exec_cf3 (x : Operand) (ho : o.op = .fieldAddr 23 x 3) (g : Nat) (hx : a.eval x = .pointer (some ⟨g, 0, none⟩)) : (execOp a.eval o).run Try.prog W = .ok (.value (.pointer (some ⟨g, 3, none⟩))) W := by
  unfold execOp
  simp only [ho, hx, Sem.run_bind, run_cf3, Result.andThen_ok, Sem.run_pure]
theorem exec_cf4 (x : Operand) (ho : o.op = .fieldAddr 23 x 4) (g : Nat) (hx : a.eval x = .pointer (some ⟨g, 0, none⟩)) : (execOp a.eval o).run Try.prog W = .ok (.value (.pointer (some ⟨g, 4, none⟩))) W := by
  unfold execOp
  simp only [ho, hx, Sem.run_bind, run_cf4, Result.andThen_ok, Sem.run_pure]
theorem exec_cf5 (x : Operand) (ho : o.op = .fieldAddr 23 x 5) (g : Nat) (hx : a.eval x = .pointer (some ⟨g, 0, none⟩)) : (execOp a.eval o).run Try.prog W = .ok (.value (.pointer (some ⟨g, 5, none⟩))) W := by
  unfold execOp
  simp only [ho, hx, Sem.run_bind, run_cf5, Result.andThen_ok, Sem.run_pure]
theorem exec_wf1 (x : Operand) (ho : o.op = .fieldAddr 31 x 1) (g : Nat) (hx : a.eval x = .pointer (some ⟨g, 0, none⟩)) : (execOp a.eval o).run Try.prog W = .ok (.value (.pointer (some ⟨g, 6, none⟩))) W := by
  unfold execOp
  simp only [ho, hx, Sem.run_bind, run_wf1, Result.andThen_ok, Sem.run_pure]
end
def ehX (g : Nat) (c : Cfg) (sa : Option Addr) (na ca : Nat) (pv : Value) : Nat → Option Value
  | 0 => some (.pointer (some ⟨g + 1, 0, none⟩))
  | 1 => some (.int .i64 c.v)
  | 2 => some (.pointer (some ⟨g + 1, 1, none⟩))
  | 3 => some (.int .i64 c.d)
  | 4 => some (.pointer (some ⟨g + 1, 2, none⟩))
  | 5 => some (.int .i64 c.h)
  | 6 => some (.pointer (some ⟨g + 1, 3, none⟩))
  | 7 => some (.int .i64 c.l)
  | 8 => some (.pointer (some ⟨g + 1, 4, none⟩))
  | 9 => some (.int .i64 c.x)
  | 10 => some (.pointer (some ⟨g + 1, 5, none⟩))
  | 11 => some (.int .i64 c.i)
  | 14 => some (.pointer (some ⟨g, 6, none⟩))
  | 15 => some (.slice sa na ca)
  | 16 => some (pv)
  | _ => none
set_option maxHeartbeats 8000000 in
theorem encodeHead_any (w : World) (v : Wv) (m : Md) (hv : WvOK w v m) (ha : m.al.length ≤ 1000) (hp : m.ps.length ≤ 400) :
    Calls Try.prog 39 #[.agg v.cells] w fun e w' => ∃ sp cap, e = .returned (.slice sp (headB m.cfg m.al m.ps).length cap) ∧ Cd.Bytes w' sp cap (headB m.cfg m.al m.ps) ∧ Below w.heap.size w w' := by
  have HB := Lib.hid (Hw.made hv)
  have HV := Lib.hid hv
  have Ha := Lib.hid ha
  have Hp := Lib.hid hp
  have HC := Lib.hid hv.c
  unfold Wv.cells at HB ⊢
  clear hv ha hp
  go_enter Try.func39, Try.ntmps39
  go_upto_region 1 with fail
  refine gen_w (Q := fun w => Code.wp _ _ _ _ w) _ (fun W => Hw w v m W ∧ W.heap.size = w.heap.size + 1) ⟨HB.out, by simp⟩ ?_
  clear HB
  rintro w1 ⟨hx, hsz⟩
  have HX := Lib.hid hx
  have HSz := Lib.hid hsz
  obtain ⟨c0, c1, c2, c3, c4, c5⟩ := hx.md.cfg
  clear hx hsz
  go_upto_region 2 with fail
  have h2 : Eh w v m (w1.alloc (.cells v.c.cells 23)) := ⟨HX.out.later ((Below.refl _ _).alloc (Nat.le_refl _) _), by rw [← HSz.out]; exact heap_alloc_new _ _⟩
  refine gen_w (Q := fun w => Code.wp _ _ _ _ w) _ (Eh w v m) h2 ?_
  rw [HSz.out]
  clear c0 c1 c2 c3 c4 c5 HX HSz h2
  intro w2 hx
  have HX := Lib.hid hx
  have q7 : w2.cell? ⟨w.heap.size, 7, none⟩ = some (.slice v.sp v.np v.cp) := hx.hw.md.cell 7
  have hnp : v.np = m.ps.length := HV.out.np
  obtain ⟨P, hP⟩ : ∃ P, v.np = P := ⟨_, rfl⟩
  rw [hP] at q7 hnp
  have HPl := Lib.hid hnp
  have hP4 : P ≤ 400 := by have := Hp.out; omega
  clear hx hP hnp
  go_wp2
  go_loopw [4, 6, 12] (fun pv _ kv wr => ∃ k : Nat, k ≤ P ∧ kv = .int .i64 k ∧ NumR (w.heap.size + 2) pv (flatP (m.ps.take k)) wr ∧ Eh w v m wr) (fun _ _ kv _ => P - (intOf kv).toNat)
  case atStart => exact ⟨0, by omega, rfl, ⟨World.ownsRow_nil _ _ _ _, HX.out.hi⟩, HX.out⟩
  case round =>
    clear HX q7
    obtain ⟨k, hk, rfl, hn, hx⟩ := hrel
    have HN := Lib.hid hn
    have HX := Lib.hid hx
    clear hn hx
    by_cases hkP : k < P
    · have hd1 : decide (k < P) = true := by simpa using hkP
      have hd2 : decide ((k : Int) < (P : Int)) = true := by simp; omega
      obtain ⟨d, o, e, hrg⟩ := (HV.out.ps.below HX.out.hw.below).at_ k (by rw [← HPl.out]; exact hkP)
      obtain ⟨pk, hpk⟩ : ∃ pk, m.ps.getD k (0, 0) = pk := ⟨_, rfl⟩
      rw [hpk] at hrg
      have HTk : Hid (m.ps.take (k + 1) = m.ps.take k ++ [pk]) := Lib.hid (by rw [Bp.ptake_at (by rw [← HPl.out]; exact hkP), hpk])
      obtain ⟨x, y⟩ := pk
      dsimp only at hrg
      have r0 : wr.cell? ⟨d, o + k * 2, none⟩ = some (.int .i64 x) := hrg 0 _ rfl
      have r1 : wr.cell? ⟨d, o + k * 2 + 1, none⟩ = some (.int .i64 y) := hrg 1 _ rfl
      have hsp := e
      clear hrg hpk
      rw [e]
      clear e
      go_upto_region 6 with fail
      have r2 : wr.cell? ⟨d, o + k * 2, none⟩ = some (.int .i64 x) := r0
      have h6 := HX.out.later ((Below.refl _ wr).alloc (Nat.le_refl _) (.cells #[.int .i64 x, .int .i64 y] 82))
      have hn6 : NumR (w.heap.size + 2) u4 (flatP (m.ps.take k)) (wr.alloc (.cells #[.int .i64 x, .int .i64 y] 82)) := ⟨owns_below HN.out.1 ((Below.refl _ _).alloc (Nat.le_refl _) _), by have := HN.out.2; simp; omega⟩
      have hrow := heap_alloc_new wr (.cells #[.int .i64 x, .int .i64 y] 82)
      refine gen_w (Q := fun w => Code.wp _ _ _ _ w) _ (fun W => Eh w v m W ∧ NumR (w.heap.size + 2) u4 (flatP (m.ps.take k)) W ∧ W.heap[wr.heap.size]? = some (.cells #[.int .i64 x, .int .i64 y] 82 (0, 0))) ⟨h6, hn6, hrow⟩ ?_
      clear h6 hn6 hrow r0 r1 r2 HX HN
      obtain ⟨gb, hgb⟩ : ∃ gb, wr.heap.size = gb := ⟨_, rfl⟩
      rw [hgb]
      clear hgb hsp
      rintro w6 ⟨h6, hn6, hrow⟩
      have HX := Lib.hid h6
      have HN := Lib.hid hn6
      have s0 : w6.cell? ⟨gb, 0, none⟩ = some (.int .i64 x) := by rw [cell_of_row _ _ _ _ _ _ hrow]; rfl
      have s1 : w6.cell? ⟨gb, 1, none⟩ = some (.int .i64 y) := by rw [cell_of_row _ _ _ _ _ _ hrow]; rfl
      clear h6 hn6 hrow
      go_wp2_with (refine wpList_push_two rfl (.tmp 16) (.tmp 21) rfl (w.heap.size + 2) _ _ x y rfl HN.out rfl (by rw [flatP_length, List.length_take]; omega) ?_; intro v7 w7 hn7 hb7; have HN7 := Lib.hid hn7; have HX7 := Lib.hid (HX.out.past HV.out hb7); clear hn7 hb7)
      go_roundw
      case rel => exact ⟨k + 1, by omega, by go_num, by rw [HTk.out, show flatP (m.ps.take k ++ [(x, y)]) = flatP (m.ps.take k) ++ [x, y] from by simp [flatP]]; exact HN7.out, HX7.out⟩
      case measure => simp [intOf]; omega
    · obtain rfl : k = P := by omega
      have hdf : decide (k < k) = false := by simp
      have hdf2 : decide ((k : Int) < (k : Int)) = false := by simp
      have e9 : m.ps.take k = m.ps := List.take_of_length_le (by rw [← HPl.out]; exact Nat.le_refl _)
      have hn := HN.out
      rw [e9] at hn
      obtain ⟨sp, cap, hpv, _, hnum⟩ := own_nums hn.1
      have HNum := Lib.hid hnum
      have HX8 := Lib.hid HX.out
      subst hpv
      clear e9 hkP hk hn HN HX
      go_wp2
      generalize wr = w8 at HX8 HNum ⊢
      refine Tn.wp_region_spec (C := fun W => Below w8.heap.size w8 W) (Le := fun w w' => Below w.heap.size w w') 20 (fun _ ixx W yy => EhW v.c m.al (flatP m.ps) ixx W yy ∧ ∀ z, ehX w.heap.size v.c v.sa v.na v.ca (.slice sp (flatP m.ps).length cap) ixx = some z → yy = z) (by kernel_rfl) (by kernel_rfl) ⟨rfl, rfl, rfl, Nat.le_refl _, fun _ _ => rfl⟩ (fun _ _ _ _ _ _ h => h) (fun _ _ _ _ _ hb h => ⟨h.1.later hb, h.2⟩) (fun ixx yy => ∀ z, ehX w.heap.size v.c v.sa v.na v.ca (.slice sp (flatP m.ps).length cap) ixx = some z → yy = z) (fun _ _ _ _ h => h.2) (fun ixx => (ehX w.heap.size v.c v.sa v.na v.ca (.slice sp (flatP m.ps).length cap) ixx).getD undef) (fun ixx z h => by simp [h]) ?_ ?_
      · intro u hu
        have h0 : u 0 = .pointer (some ⟨w.heap.size + 1, 0, none⟩) := hu 0 _ rfl
        have h1 : u 1 = .int .i64 v.c.v := hu 1 _ rfl
        have h2 : u 2 = .pointer (some ⟨w.heap.size + 1, 1, none⟩) := hu 2 _ rfl
        have h3 : u 3 = .int .i64 v.c.d := hu 3 _ rfl
        have h4 : u 4 = .pointer (some ⟨w.heap.size + 1, 2, none⟩) := hu 4 _ rfl
        have h5 : u 5 = .int .i64 v.c.h := hu 5 _ rfl
        have h6 : u 6 = .pointer (some ⟨w.heap.size + 1, 3, none⟩) := hu 6 _ rfl
        have h7 : u 7 = .int .i64 v.c.l := hu 7 _ rfl
        have h8 : u 8 = .pointer (some ⟨w.heap.size + 1, 4, none⟩) := hu 8 _ rfl
        have h9 : u 9 = .int .i64 v.c.x := hu 9 _ rfl
        have h10 : u 10 = .pointer (some ⟨w.heap.size + 1, 5, none⟩) := hu 10 _ rfl
        have h11 : u 11 = .int .i64 v.c.i := hu 11 _ rfl
        have h14 : u 14 = .pointer (some ⟨w.heap.size, 6, none⟩) := hu 14 _ rfl
        have h15 : u 15 = .slice v.sa v.na v.ca := hu 15 _ rfl
        have h16 : u 16 = .slice sp (flatP m.ps).length cap := hu 16 _ rfl
        simp only [List.take_succ_cons, List.take_zero]
        refine Tn.spec_cons (fun W hC hd => ⟨by rfl, ?_⟩) ?_
        · exact Tn.gives_val (.pointer (some ⟨w.heap.size + 1, 0, none⟩)) W (exec_cf0 (.tmp 3) rfl (w.heap.size + 1) rfl) ⟨hC, Below.refl _ _, EhW.no (by decide), fun z hz => by cases hz; rfl⟩
        simp only [Act.put, List.setIfInBounds_toArray, List.set_cons_succ, List.set_cons_zero, Nat.reduceAdd]
        rw [h0]
        refine Tn.spec_cons (fun W hC hd => ⟨by rfl, ?_⟩) ?_
        · exact Tn.gives_val (.int .i64 v.c.v) W (Bp.exec_load1 3 (.tmp 24) rfl ⟨w.heap.size + 1, 0, none⟩ rfl _ (cfg_cells (HX8.out.later hC).cp).1 _ Try.underlying3 rfl) ⟨hC, Below.refl _ _, EhW.no (by decide), fun z hz => by cases hz; rfl⟩
        simp only [Act.put, List.setIfInBounds_toArray, List.set_cons_succ, List.set_cons_zero, Nat.reduceAdd]
        rw [h1]
        refine Tn.spec_cons (fun W hC hd => ⟨by rfl, ?_⟩) ?_
        · exact Tn.gives_val (.pointer (some ⟨w.heap.size + 1, 1, none⟩)) W (exec_cf1 (.tmp 3) rfl (w.heap.size + 1) rfl) ⟨hC, Below.refl _ _, EhW.no (by decide), fun z hz => by cases hz; rfl⟩
        simp only [Act.put, List.setIfInBounds_toArray, List.set_cons_succ, List.set_cons_zero, Nat.reduceAdd]
        rw [h2]
        refine Tn.spec_cons (fun W hC hd => ⟨by rfl, ?_⟩) ?_
        · exact Tn.gives_val (.int .i64 v.c.d) W (Bp.exec_load1 3 (.tmp 26) rfl ⟨w.heap.size + 1, 1, none⟩ rfl _ (cfg_cells (HX8.out.later hC).cp).2.1 _ Try.underlying3 rfl) ⟨hC, Below.refl _ _, EhW.no (by decide), fun z hz => by cases hz; rfl⟩
        simp only [Act.put, List.setIfInBounds_toArray, List.set_cons_succ, List.set_cons_zero, Nat.reduceAdd]
        rw [h3]
        refine Tn.spec_cons (fun W hC hd => ⟨by rfl, ?_⟩) ?_
        · exact Tn.gives_val (.pointer (some ⟨w.heap.size + 1, 2, none⟩)) W (exec_cf2 (.tmp 3) rfl (w.heap.size + 1) rfl) ⟨hC, Below.refl _ _, EhW.no (by decide), fun z hz => by cases hz; rfl⟩
        simp only [Act.put, List.setIfInBounds_toArray, List.set_cons_succ, List.set_cons_zero, Nat.reduceAdd]
        rw [h4]
        refine Tn.spec_cons (fun W hC hd => ⟨by rfl, ?_⟩) ?_
        · exact Tn.gives_val (.int .i64 v.c.h) W (Bp.exec_load1 3 (.tmp 28) rfl ⟨w.heap.size + 1, 2, none⟩ rfl _ (cfg_cells (HX8.out.later hC).cp).2.2.1 _ Try.underlying3 rfl) ⟨hC, Below.refl _ _, EhW.no (by decide), fun z hz => by cases hz; rfl⟩
        simp only [Act.put, List.setIfInBounds_toArray, List.set_cons_succ, List.set_cons_zero, Nat.reduceAdd]
        rw [h5]
        refine Tn.spec_cons (fun W hC hd => ⟨by rfl, ?_⟩) ?_
        · exact Tn.gives_val (.pointer (some ⟨w.heap.size + 1, 3, none⟩)) W (exec_cf3 (.tmp 3) rfl (w.heap.size + 1) rfl) ⟨hC, Below.refl _ _, EhW.no (by decide), fun z hz => by cases hz; rfl⟩
        simp only [Act.put, List.setIfInBounds_toArray, List.set_cons_succ, List.set_cons_zero, Nat.reduceAdd]
        rw [h6]
        refine Tn.spec_cons (fun W hC hd => ⟨by rfl, ?_⟩) ?_
        · exact Tn.gives_val (.int .i64 v.c.l) W (Bp.exec_load1 3 (.tmp 30) rfl ⟨w.heap.size + 1, 3, none⟩ rfl _ (cfg_cells (HX8.out.later hC).cp).2.2.2.1 _ Try.underlying3 rfl) ⟨hC, Below.refl _ _, EhW.no (by decide), fun z hz => by cases hz; rfl⟩
        simp only [Act.put, List.setIfInBounds_toArray, List.set_cons_succ, List.set_cons_zero, Nat.reduceAdd]
        rw [h7]
        refine Tn.spec_cons (fun W hC hd => ⟨by rfl, ?_⟩) ?_
        · exact Tn.gives_val (.pointer (some ⟨w.heap.size + 1, 4, none⟩)) W (exec_cf4 (.tmp 3) rfl (w.heap.size + 1) rfl) ⟨hC, Below.refl _ _, EhW.no (by decide), fun z hz => by cases hz; rfl⟩
        simp only [Act.put, List.setIfInBounds_toArray, List.set_cons_succ, List.set_cons_zero, Nat.reduceAdd]
        rw [h8]
        refine Tn.spec_cons (fun W hC hd => ⟨by rfl, ?_⟩) ?_
        · exact Tn.gives_val (.int .i64 v.c.x) W (Bp.exec_load1 3 (.tmp 32) rfl ⟨w.heap.size + 1, 4, none⟩ rfl _ (cfg_cells (HX8.out.later hC).cp).2.2.2.2.1 _ Try.underlying3 rfl) ⟨hC, Below.refl _ _, EhW.no (by decide), fun z hz => by cases hz; rfl⟩
        simp only [Act.put, List.setIfInBounds_toArray, List.set_cons_succ, List.set_cons_zero, Nat.reduceAdd]
        rw [h9]
        refine Tn.spec_cons (fun W hC hd => ⟨by rfl, ?_⟩) ?_
        · exact Tn.gives_val (.pointer (some ⟨w.heap.size + 1, 5, none⟩)) W (exec_cf5 (.tmp 3) rfl (w.heap.size + 1) rfl) ⟨hC, Below.refl _ _, EhW.no (by decide), fun z hz => by cases hz; rfl⟩
        simp only [Act.put, List.setIfInBounds_toArray, List.set_cons_succ, List.set_cons_zero, Nat.reduceAdd]
        rw [h10]
        refine Tn.spec_cons (fun W hC hd => ⟨by rfl, ?_⟩) ?_
        · exact Tn.gives_val (.int .i64 v.c.i) W (Bp.exec_load1 3 (.tmp 34) rfl ⟨w.heap.size + 1, 5, none⟩ rfl _ (cfg_cells (HX8.out.later hC).cp).2.2.2.2.2 _ Try.underlying3 rfl) ⟨hC, Below.refl _ _, EhW.no (by decide), fun z hz => by cases hz; rfl⟩
        simp only [Act.put, List.setIfInBounds_toArray, List.set_cons_succ, List.set_cons_zero, Nat.reduceAdd]
        rw [h11]
        refine Tn.spec_cons (fun W hC hd => ⟨by rfl, ?_⟩) ?_
        · exact Tn.gives_val _ _ (exec_slice6 (.tmp 25) (.tmp 27) (.tmp 29) (.tmp 31) (.tmp 33) (.tmp 35) rfl v.c rfl rfl rfl rfl rfl rfl) ⟨hC.trans (((Below.refl W.heap.size W).alloc (Nat.le_refl _) _).mono hC.size), (Below.refl W.heap.size W).alloc (Nat.le_refl _) _, ⟨fun _ => ⟨_, rfl, Cd.Sl.new W (v.c.list.map (Value.int .i64)) v.c.cells 3 (0, 0) rfl (by simp [Cfg.list])⟩, fun h => by omega, fun h => by omega, fun h => by omega, fun h => by omega⟩, fun z hz => by cases hz⟩
        simp only [Act.put, List.setIfInBounds_toArray, List.set_cons_succ, List.set_cons_zero, Nat.reduceAdd]
        refine Tn.spec_cons (fun W hC hd => ⟨by rfl, ?_⟩) ?_
        · obtain ⟨b, e, hn⟩ := (hd ⟨12, .data⟩ (by simp) (by kernel_rfl)).1.a12 rfl
          rw [e]
          exact Tn.gives_call _ _ (exec_call1 42 (.tmp 36) #[26] _ rfl rfl (cf Try.func42 (by kernel_rfl) (by kernel_rfl) _ _)) ((Cd.numbers_any W _ 6 6 v.c.list rfl hn (by omega)).mono fun e2 W' ⟨sp', cap', e3, h3, hb3⟩ => ⟨_, e3, hC.trans (hb3.mono hC.size), hb3, ⟨fun h => by omega, fun _ => ⟨_, _, rfl, h3⟩, fun h => by omega, fun h => by omega, fun h => by omega⟩, fun z hz => by cases hz⟩)
        simp only [Act.put, List.setIfInBounds_toArray, List.set_cons_succ, List.set_cons_zero, Nat.reduceAdd]
        refine Tn.spec_cons (fun W hC hd => ⟨by rfl, ?_⟩) ?_
        · exact Tn.gives_val (.pointer (some ⟨w.heap.size, 6, none⟩)) W (exec_wf1 (.tmp 1) rfl w.heap.size rfl) ⟨hC, Below.refl _ _, EhW.no (by decide), fun z hz => by cases hz; rfl⟩
        simp only [Act.put, List.setIfInBounds_toArray, List.set_cons_succ, List.set_cons_zero, Nat.reduceAdd]
        rw [h14]
        refine Tn.spec_cons (fun W hC hd => ⟨by rfl, ?_⟩) ?_
        · exact Tn.gives_val (.slice v.sa v.na v.ca) W (Bp.exec_load1 24 (.tmp 38) rfl ⟨w.heap.size, 6, none⟩ rfl _ ((HX8.out.later hC).hw.md.cell 6) _ Try.underlying24 rfl) ⟨hC, Below.refl _ _, EhW.no (by decide), fun z hz => by cases hz; rfl⟩
        simp only [Act.put, List.setIfInBounds_toArray, List.set_cons_succ, List.set_cons_zero, Nat.reduceAdd]
        rw [h15]
        refine Tn.spec_cons (fun W hC hd => ⟨by rfl, ?_⟩) ?_
        · exact Tn.gives_val (.slice sp (flatP m.ps).length cap) W (by rfl) ⟨hC, Below.refl _ _, EhW.no (by decide), fun z hz => by cases hz; rfl⟩
        simp only [Act.put, List.setIfInBounds_toArray, List.set_cons_succ, List.set_cons_zero, Nat.reduceAdd]
        rw [h16]
        refine Tn.spec_cons (fun W hC hd => ⟨by rfl, ?_⟩) ?_
        · exact Tn.gives_call _ _ (exec_call1 42 (.tmp 40) #[26] _ rfl rfl (cf Try.func42 (by kernel_rfl) (by kernel_rfl) _ _)) ((Cd.numbers_any W sp cap (flatP m.ps).length (flatP m.ps) rfl (cdSl (Sl.below HNum.out (Nat.le_refl _) hC)) (by rw [flatP_length]; have := Hp.out; omega)).mono fun e2 W' ⟨sp', cap', e3, h3, hb3⟩ => ⟨_, e3, hC.trans (hb3.mono hC.size), hb3, ⟨fun h => by omega, fun h => by omega, fun _ => ⟨_, _, rfl, h3⟩, fun h => by omega, fun h => by omega⟩, fun z hz => by cases hz⟩)
        simp only [Act.put, List.setIfInBounds_toArray, List.set_cons_succ, List.set_cons_zero, Nat.reduceAdd]
        refine Tn.spec_cons (fun W hC hd => ⟨by rfl, ?_⟩) ?_
        · obtain ⟨sp1, cap1, e1, hb1⟩ := (hd ⟨13, .data⟩ (by simp) (by kernel_rfl)).1.a13 rfl
          obtain ⟨sp2, cap2, e2, hb2⟩ := (hd ⟨17, .data⟩ (by simp) (by kernel_rfl)).1.a17 rfl
          dsimp only at e1 e2
          rw [e1, e2]
          have hal : Below W.heap.size W (W.alloc (.cells #[.slice sp1 (8 * 6) cap1, .slice v.sa v.na v.ca, .slice sp2 (8 * (flatP m.ps).length) cap2] 24)) := (Below.refl _ _).alloc (Nat.le_refl _) _
          have hpc : Cd.Pieces (W.alloc (.cells #[.slice sp1 (8 * 6) cap1, .slice v.sa v.na v.ca, .slice sp2 (8 * (flatP m.ps).length) cap2] 24)) (some ⟨W.heap.size, 0, none⟩) 3 [Cd.nums v.c.list, m.al, Cd.nums (flatP m.ps)] := by
            refine ⟨[.slice sp1 (8 * 6) cap1, .slice v.sa v.na v.ca, .slice sp2 (8 * (flatP m.ps).length) cap2], rfl, Cd.Sl.new W _ _ _ (0, 0) rfl (by simp), fun i y hy => ?_⟩
            rcases i with _ | _ | _ | i
            · simp at hy
              subst hy
              exact ⟨sp1, cap1, by rw [show ([Cd.nums v.c.list, m.al, Cd.nums (flatP m.ps)] : List (List Int)).getD 0 [] = Cd.nums v.c.list from rfl, nums_length]; rfl, hb1.below hal⟩
            · simp at hy
              subst hy
              exact ⟨v.sa, v.ca, by rw [HV.out.na]; rfl, (cdBytes (HX8.out.later hC).hw.md.ok.al).below hal⟩
            · simp at hy
              subst hy
              exact ⟨sp2, cap2, by rw [show ([Cd.nums v.c.list, m.al, Cd.nums (flatP m.ps)] : List (List Int)).getD 2 [] = Cd.nums (flatP m.ps) from rfl, nums_length], hb2.below hal⟩
            · simp at hy
          exact Tn.gives_val _ _ (exec_slice3 (.tmp 37) (.tmp 39) (.tmp 41) rfl sp1 v.sa sp2 (8 * 6) v.na (8 * (flatP m.ps).length) cap1 v.ca cap2 rfl rfl rfl) ⟨hC.trans (hal.mono hC.size), hal, ⟨fun h => by omega, fun h => by omega, fun h => by omega, fun _ => ⟨_, rfl, hpc⟩, fun h => by omega⟩, fun z hz => by cases hz⟩
        simp only [Act.put, List.setIfInBounds_toArray, List.set_cons_succ, List.set_cons_zero, Nat.reduceAdd]
        refine Tn.spec_cons (fun W hC hd => ⟨by rfl, ?_⟩) ?_
        · obtain ⟨b, e, hn⟩ := (hd ⟨18, .data⟩ (by simp) (by kernel_rfl)).1.a18 rfl
          rw [e]
          exact Tn.gives_call _ _ (exec_call1 35 (.tmp 42) #[39] _ rfl rfl (cf Try.func35 (by kernel_rfl) (by kernel_rfl) _ _)) ((Cd.join_any W _ 3 3 _ rfl hn (by have h1 := Ha.out; have h2 := Hp.out; have h3 := nums_length v.c.list; have h4 := nums_length (flatP m.ps); rw [flatP_length] at h4; simp only [Cd.join, Cd.pc, List.flatMap_cons, List.flatMap_nil, List.length_append, Cd.be_length, List.length_nil, h3, h4]; simp [Cfg.list]; omega)).mono fun e2 W' ⟨sp', cap', e3, h3, hb3⟩ => ⟨_, e3, hC.trans (hb3.mono hC.size), hb3, ⟨fun h => by omega, fun h => by omega, fun h => by omega, fun h => by omega, fun _ => ⟨_, _, rfl, h3⟩⟩, fun z hz => by cases hz⟩)
        simp only [Act.put, List.setIfInBounds_toArray, List.set_cons_succ, List.set_cons_zero, Nat.reduceAdd]
        exact Tn.spec_nil
      · intro u W hu hC hP
        obtain ⟨sp9, cap9, e9, hb9⟩ : ∃ sp cap, u 19 = .slice sp (headB m.cfg m.al m.ps).length cap ∧ Cd.Bytes W sp cap (headB m.cfg m.al m.ps) := by
          have h := (hP 19 (by decide)).1.a19 rfl
          unfold headB
          rw [← HC.out]
          exact h
        simp only [List.take_succ_cons, List.take_zero, List.drop_succ_cons, List.drop_zero, Tn.putAll, Act.put, List.setIfInBounds_toArray, List.set_cons_succ, List.set_cons_zero, Nat.reduceAdd]
        rw [e9]
        have HB9 := Lib.hid hb9
        have HC9 := Lib.hid (HX8.out.later hC)
        clear hu hC hP e9 hb9
        go_wp2
        go_ret
        exact ⟨_, _, rfl, HB9.out, HC9.out.hw.below⟩
end Go.Proofs.Ytkfkjapkcjidnaa.Wg
