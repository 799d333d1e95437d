import Derived.Test.YtkfkjapkcjidnaaCa
import Derived.WalkKit
import Derived.ProofKit
import Derived.OpenShut
import Derived.WalkLawsBesides
import Derived.Lib.Hide
import Derived.Laws.CopyOwn
import Derived.StillTailTactics
import Derived.BigRegion
import Derived.BigQuiet
import Derived.Deep.QuietTactic
import Derived.Laws.AppendOwnNone
import Derived.Laws.MakeOwn
import Derived.Laws.OwnMore
import Derived.Deep.DeepCutAuto
import Derived.Deep.Quiet
import Derived.ScopeJumps
import Derived.WalkMore
-- from Ca
namespace Go.Proofs.Ytkfkjapkcjidnaa.Cd
section
open Go.RowKit
theorem val_be : ∀ k n, val (be k n) = n % 256 ^ k
  | 0, n => by simp [be, val, Int.emod_one]
  | k + 1, n => by
    rw [be, val_snoc, val_be k, Int.pow_succ, Int.mul_comm (256 ^ k) 256, mod_split]
theorem be_val : ∀ (k : Nat) (l : List Int), l.length = k → rng l → be k (val l) = l
  | 0, l, h, _ => by
    obtain rfl : l = [] := List.eq_nil_of_length_eq_zero h
    rfl
  | k + 1, l, h, hr => by
    obtain ⟨m, x, rfl⟩ : ∃ m x, l = m ++ [x] := ⟨l.dropLast, l.getLast (by intro e; simp [e] at h), (List.dropLast_concat_getLast _).symm⟩
    have hx := hr x (by simp)
    have hm := be_val k m (by simpa using h) (fun y hy => hr y (by simp [hy]))
    rw [val_snoc, be, show (256 * val m + x) / 256 = val m by omega, show (256 * val m + x) % 256 = x by omega, hm]
theorem val_zeros (l : List Int) : val ([0, 0, 0, 0] ++ l) = val l := by simp [val]

theorem join_nil : join [] = [] := rfl
theorem join_cons (p : List Int) (ls : List (List Int)) : join (p :: ls) = be 4 p.length ++ (p ++ join ls) := by simp [join, pc]
/-- pieces that are not too long for their lengths -/
def small (ls : List (List Int)) : Prop := ∀ l ∈ ls, l.length < 4294967296
theorem be4_inj {a b : Nat} (ha : a < 4294967296) (hb : b < 4294967296) (h : be 4 (a : Int) = be 4 (b : Int)) : a = b := by
  have := congrArg val h
  rw [val_be, val_be] at this
  omega
/-- pieces that begin with the bytes of others begin with these -/
theorem join_cancel : ∀ (ds ps : List (List Int)) (r : List Int), small ds → small ps → join ps = join ds ++ r → ∃ qs, ps = ds ++ qs ∧ join qs = r
  | [], ps, r, _, _, h => ⟨ps, rfl, by simpa [join_nil] using h⟩
  | d :: ds, ps, r, hd, hp, h => by
    rcases ps with _ | ⟨p, ps⟩
    · have := congrArg List.length h
      simp [join_cons, join_nil, be_length] at this
      omega
    · rw [join_cons, join_cons, List.append_assoc] at h
      obtain ⟨h1, h2⟩ := List.append_inj h (by rw [be_length, be_length])
      have hl := be4_inj (hp p (by simp)) (hd d (by simp)) h1
      rw [List.append_assoc] at h2
      obtain ⟨h3, h4⟩ := List.append_inj h2 hl
      obtain ⟨qs, rfl, hq⟩ := join_cancel ds ps r (fun l hl => hd l (by simp [hl])) (fun l hl => hp l (by simp [hl])) h4
      exact ⟨qs, by rw [h3]; rfl, hq⟩
/-- bytes that begin with a whole piece -/
theorem join_whole {ps : List (List Int)} {r : List Int} (hs : small ps) (h : join ps = r) (hr : r ≠ []) : 4 ≤ r.length ∧ val (r.take 4) ≤ (r.length - 4 : Nat) := by
  rcases ps with _ | ⟨p, ps⟩
  · exact absurd h.symm hr
  · have hp := hs p (by simp)
    subst h
    have hl : (join (p :: ps)).length = 4 + (p.length + (join ps).length) := by simp [join_cons, be_length]
    refine ⟨by omega, ?_⟩
    rw [hl, join_cons, List.take_left' (be_length _ _), val_be]
    omega
/-- a piece is taken off -/
theorem join_take (r : List Int) (n : Nat) (hr : rng r) (h4 : 4 ≤ r.length) (hv : val (r.take 4) = n) (_hn : n ≤ r.length - 4) : be 4 (n : Int) ++ ((r.drop 4).take n ++ (r.drop 4).drop n) = r := by
  rw [List.take_append_drop, ← hv, be_val 4 (r.take 4) (by simp; omega) (fun x hx => hr x (List.mem_of_mem_take hx)), List.take_append_drop]
theorem rng_append {a b : List Int} : rng (a ++ b) ↔ rng a ∧ rng b := by
  constructor
  · exact fun h => ⟨fun x hx => h x (by simp [hx]), fun x hx => h x (by simp [hx])⟩
  · rintro ⟨h1, h2⟩ x hx
    rcases List.mem_append.1 hx with h | h
    · exact h1 x h
    · exact h2 x h
end
section
open Go.ChangeShapes Go.WideShapes Go.ChangeAt Go.RowKit
section
variable {w w' : World} {sp : Option Addr} {cap : Nat} {xs : List Value}
end
section
variable {w w' : World} {sp : Option Addr} {cap : Nat}
end
end
section
open Go.ChangeShapes Go.WideShapes Go.ChangeAt Go.RowKit
section
variable {w : World} {ops : Array Oper} {rest : List Oper} {o : Oper} {a : Act} {Q : Exit → Act → World → Prop}
end
end
section
open Go.ChangeShapes Go.WideShapes Go.ChangeAt Go.RowKit
variable {w : World} {ops : Array Oper} {rest : List Oper} {o : Oper} {a : Act} {Q : Exit → Act → World → Prop}
end
section
open Go.ChangeShapes Go.WideShapes Go.ChangeAt Go.RowKit
end
section
open Go.ChangeShapes Go.WideShapes Go.ChangeAt Go.RowKit
end
section
open Go.ChangeShapes Go.WideShapes Go.ChangeAt Go.RowKit
end
section
open Go.ChangeShapes Go.WideShapes Go.ChangeAt Go.RowKit
end
section
open Go.ChangeShapes Go.WideShapes Go.ChangeAt Go.RowKit
end
end Go.Proofs.Ytkfkjapkcjidnaa.Cd
-- from Sp
namespace Go.Proofs.Ytkfkjapkcjidnaa.Cd
open Go.ChangeShapes Go.WideShapes Go.ChangeAt Go.RowKit
theorem infoBy : (Try.prog.info? 24).map (fun i => (i.zero, i.size, i.bytes)) = some (some (.slice none 0 0), 1, 24) := by kernel_rfl
section
variable {P : Program}
end
section
variable {P : Program} {ops : Array Oper} {C : World → Prop} {Q : Act → Prop} {a : Act} {o : Oper} {rest : List Oper}
/-- an operation that yields one value, whatever the world of the class -/
theorem q_val (v : Value) (hw : Region.wanted o (yielded ops a.tmps) = true) (h : ∀ W, C W → (execOp a.eval o).run P W = .ok (.value v) W) (hn : wpQuiet P ops C Q rest (a.put o.dst v)) : wpQuiet P ops C Q (o :: rest) a :=
  wpQuiet_step fun K hK => by
    rw [if_pos hw]
    exact ⟨v, fun W hW => by unfold Oper.quietAt; rw [h W hW]; exact ⟨rfl, rfl⟩, hK _ hn⟩
/-- a call whose answer is one value, and that stays within the class -/
theorem q_call (f : FuncId) (args : Array Value) (v : Value) (hw : Region.wanted o (yielded ops a.tmps) = true) (h : ∀ W, C W → (execOp a.eval o).run P W = .ok (.enter f args) W)
    (hc : ∀ W, C W → Calls P f args W fun e W' => e = .returned v ∧ C W') (hn : wpQuiet P ops C Q rest (a.put o.dst v)) : wpQuiet P ops C Q (o :: rest) a :=
  wpQuiet_step fun K hK => by
    rw [if_pos hw]
    exact ⟨v, fun W hW => by unfold Oper.quietAt; rw [h W hW]; exact ⟨rfl, hc W hW⟩, hK _ hn⟩
theorem exec_load_row {W : World} (ty : TypeId) (x : Operand) (ho : o.op = .load ty x) (g : Nat) (hx : a.eval x = .pointer (some ⟨g, 0, none⟩)) (t : TypeId) (cs : Array Value) (fr : Nat × Nat) (d : TypeDesc) (hg : W.heap[g]? = some (.cells cs t fr))
    (hu : P.underlying ty = some d) (hd : (match d with | .struct _ | .array _ _ => true | _ => false) = true) (hi : (P.info? ty).map (·.size) = some cs.size) : (execOp a.eval o).run P W = .ok (.value (.agg cs)) W := by
  unfold execOp
  simp only [ho, hx, Instr.loadAt, Instr.sureAddr, Sem.run_bind, Sem.run_pure, Result.andThen_ok, run_loadVar_row W g t ty cs fr d hg hu hd hi]
theorem exec_call {W : World} (f : FuncId) (xs : Array Operand) (ats : Array TypeId) (vs : Array Value) (ho : o.op = .call { callee := .value (.func f), args := xs, argTypes := ats }) (hx : xs.map a.eval = vs)
    (hf : (callFunc f vs).run P W = .ok (.enter f vs) W) : (execOp a.eval o).run P W = .ok (.enter f vs) W := by
  unfold execOp
  simp only [ho, resolve, hx, BigFrame.eval_func, Deferred.ofValue, Sem.run_bind, Sem.run_pure, Result.andThen_ok, invoke, Array.empty_append, Array.append_empty]
  exact hf
theorem exec_call1 {W : World} (f : FuncId) (x : Operand) (ats : Array TypeId) (v : Value) (ho : o.op = .call { callee := .value (.func f), args := #[x], argTypes := ats }) (hx : a.eval x = v)
    (hf : (callFunc f #[v]).run P W = .ok (.enter f #[v]) W) : (execOp a.eval o).run P W = .ok (.enter f #[v]) W :=
  exec_call f #[x] ats #[v] ho (by simp [hx]) hf
theorem cf {f : FuncId} {fn : Func} (hf : P.funcs[f]? = some fn) (hn : (fn.name == "runtime.NumGoroutine") = false) (hb : fn.body.isNone = false) (vs : Array Value) (W : World) : (callFunc f vs).run P W = .ok (.enter f vs) W := by
  simp only [callFunc, Sem.run_bind, run_program, Result.andThen_ok, hf, hn, hb, Bool.false_eq_true, if_false, Sem.run_pure]
theorem exec_cut {W : World} (t e : TypeId) (x : Operand) (lo hi : Option Operand) (ho : o.op = .slice t x lo hi none) (hu : P.underlying t = some (.slice e)) (u : Value) (hr : (Instr.slice t (a.eval x) (lo.map a.eval) (hi.map a.eval) none).run P W = .ok u W) : (execOp a.eval o).run P W = .ok (.value u) W := by
  unfold execOp
  simp [ho, Instr.sliceAt, run_underlying hu, hr]
end
theorem cf24 (vs : Array Value) (W : World) : (callFunc 64 vs).run Try.prog W = .ok (.enter 64 vs) W := cf Try.func64 (by kernel_rfl) (by kernel_rfl) vs W

theorem splice8 (t : List Int) (h : t.length = 4) : splice ((zs 8).map (Value.int .u8)) 4 (t.map (Value.int .u8)) = ([0, 0, 0, 0] ++ t).map (Value.int .u8) := by
  have e : zs 8 = [0, 0, 0, 0, 0, 0, 0, 0] := rfl
  simp [splice, h, e]
theorem num_len (t : List Int) (h : t.length = 4) (hr : rng t) : num ([0, 0, 0, 0] ++ t) = val t := by
  have h1 := val_bound 4 t h hr
  unfold num
  rw [val_zeros]
  simp [IntKind.wrap, IntKind.bits, IntKind.signed]
  omega
theorem take_short (w : World) (sp : Option Addr) (m cap : Nat) (hm : m < 4) :
    Calls Try.prog 47 #[.slice sp m cap] w fun e w' => e = .returned (.tuple #[.slice none 0 0, .slice none 0 0, .bool false]) ∧ w = w' := by
  have hd : decide ((m : Int) < 4) = true := by simp; omega
  go_enter Try.func47, Try.ntmps47
  go_wp2
  exact bodyPost_ret (v := .tuple #[.slice none 0 0, .slice none 0 0, .bool false]) (by simp [results, Try.results47, go_sem]) rfl ⟨rfl, rfl⟩
/-- what takeOff answers -/
def Took (w : World) (sp : Option Addr) (cap : Nat) (l : List Int) (n : Nat) (e : Ending) (w' : World) : Prop :=
  (n ≤ l.length - 4 → ∃ g, w.heap.size ≤ g ∧ e = .returned (.tuple #[.slice (some ⟨g, 0, none⟩) n n, .slice (cutA (cutA sp cap 4) (cap - 4) n) (l.length - 4 - n) (cap - 4 - n), .bool true]) ∧ w'.heap[g]? = some (.cells (rowB ((l.drop 4).take n)) 5 (0, 0))) ∧
  (¬ n ≤ l.length - 4 → e = .returned (.tuple #[.slice none 0 0, .slice none 0 0, .bool false])) ∧ Below w.heap.size w w'
set_option maxRecDepth 1000000 in
set_option maxHeartbeats 4000000 in
theorem take_any (w : World) (sp : Option Addr) (m cap n : Nat) (l : List Int) (hm : l.length = m) (hb : Bytes w sp cap l) (h4 : 4 ≤ m) (hn : val (l.take 4) = n) (hmx : m ≤ 1000000) :
    Calls Try.prog 47 #[.slice sp m cap] w (Took w sp cap l n) := by
  have hd : decide ((m : Int) < 4) = false := by simp; omega
  have HM := Lib.hid hm
  have HB := Lib.hid hb
  have ht4 : (l.take 4).length = 4 := by simp [hm]; omega
  have hnum := num_len (l.take 4) ht4 (rng_take hb.rng 4)
  rw [hn] at hnum
  have HNum := Lib.hid hnum
  have HT4 := Lib.hid ht4
  have HN := Lib.hid hn
  have hbd := val_bound 4 (l.take 4) ht4 (rng_take hb.rng 4)
  rw [hn] at hbd
  have hn32 : n < 4294967296 := by have := hbd.2; omega
  have HR8 : Hid (rng ([0, 0, 0, 0] ++ l.take 4)) := Lib.hid (rng_append.2 ⟨by unfold rng; decide, rng_take hb.rng 4⟩)
  have hle := hb.le
  rw [hm] at hle
  have HC1 := Lib.hid (show ((l.take 4).map (Value.int .u8)).length = Nat.min m 4 by rw [List.length_map, ht4]; exact (Nat.min_eq_right (by omega)).symm)
  have HC2 := Lib.hid (show 4 + ((l.take 4).map (Value.int .u8)).length ≤ ((zs 8).map (Value.int .u8)).length by rw [List.length_map, ht4]; decide)
  have HSp := Lib.hid (splice8 (l.take 4) ht4)
  clear hm hb hnum hn ht4 hbd
  have HSrc := fun w' h => HB.out.srcOf (w' := w') h 4 w.heap.size 4
  have HSrc := Lib.hid HSrc
  obtain ⟨T, hT⟩ : ∃ T, l.take 4 = T := ⟨_, rfl⟩
  rw [hT] at HNum HT4 HN HR8 HC1 HC2 HSp HSrc
  clear hT
  have r4 := run_arr4 w.heap.size
  have HK : Hid (∀ (X : Obj) a v, w.cell? a = some v → (w.alloc X).cell? a = some v) := Lib.hid (fun X a v h => (((Below.refl w.heap.size w).alloc (Nat.le_refl _) X).cell (block_lt_of_cell h)).trans h)
  go_enter Try.func47, Try.ntmps47
  go_upto_region 5 with (refine wpList_copy_splice rfl (.tmp 10) (.tmp 11) 24 24 rfl 5 Try.underlying24 size5 _ _ 4 4 m cap rfl rfl w.heap.size 4 ((zs 8).map (Value.int .u8)) 120 (heap_alloc_new _ _) (T.map (Value.int .u8)) HC1.out (HSrc.out _ (HK.out _)) HC2.out (map_one _) w.heap.size _ (Below.refl _ _) (Nat.le_refl _) ?_; intro w1 H1 hb1)
  have HD8 := Lib.hid (show ([0, 0, 0, 0] ++ T).length = 8 by rw [List.length_append, HT4.out]; rfl)
  have hrow : w1.heap[w.heap.size]? = some (.cells (rowB ([0, 0, 0, 0] ++ T)) 120 (0, 0)) := by
    have := H1.out
    rw [HSp.out] at this
    exact this
  obtain ⟨D, hD⟩ : ∃ D, [0, 0, 0, 0] ++ T = D := ⟨_, rfl⟩
  rw [hD] at hrow HNum HR8 HD8
  have HW1 := Lib.hid ((((Below.refl w.heap.size w).alloc (Nat.le_refl _) _).trans hb1))
  have hg1 : w.heap.size < w1.heap.size := (Array.getElem?_eq_some_iff.1 hrow).1
  have HRow := Lib.hid hrow
  have HZ := Lib.hid (show (Try.prog.info? 120).map (·.size) = some (rowB D).size by rw [rowB_size, HD8.out]; exact sizeWd)
  have HL1 := Lib.hid (show T.length = 4 from HT4.out)
  clear hD hrow H1 hb1 r4 HSp HC1 HC2 HSrc HK
  have kR : ∀ W, Below w1.heap.size w1 W → W.heap[w.heap.size]? = some (.cells (rowB D) 120 (0, 0)) := fun W hW => (hW.block _ hg1).trans HRow.out
  have KN : ∀ W, Below w1.heap.size w1 W → Calls Try.prog 64 #[.agg (rowB D)] W fun e W' => e = .returned (.int .i64 (n : Int)) ∧ Below w1.heap.size w1 W' := fun W hW => (number_any D W HD8.out HR8.out).mono (fun e W' h => ⟨by rw [h.1, HNum.out], hW.trans (h.2.mono hW.size)⟩)
  have KNh := Lib.hid KN
  have KRh := Lib.hid kR
  clear KN kR
  have HBd := Lib.hid (HB.out.cut 4 (by rw [HM.out]; exact h4))
  have KC : ∀ W, (Instr.slice 24 (.slice sp m cap) (some (.int .i64 4)) none none).run Try.prog W = .ok (.slice (cutA sp cap 4) (m - 4) (cap - 4)) W := run_cut sp m cap 4 h4
  have HLd := Lib.hid (show (l.drop 4).length = m - 4 by rw [List.length_drop, HM.out])
  have KCh := Lib.hid KC
  clear KC
  obtain ⟨S4, hS4⟩ : ∃ x, cutA sp cap 4 = x := ⟨_, rfl⟩
  obtain ⟨M4, hM4⟩ : ∃ x, m - 4 = x := ⟨_, rfl⟩
  obtain ⟨C4, hC4⟩ : ∃ x, cap - 4 = x := ⟨_, rfl⟩
  obtain ⟨L4, hL4⟩ : ∃ x, l.drop 4 = x := ⟨_, rfl⟩
  rw [hS4, hM4, hC4] at KCh
  rw [hS4, hC4, hL4] at HBd
  rw [hL4, hM4] at HLd
  have hMC : M4 ≤ C4 := by omega
  have hM4b : M4 ≤ 1000000 := by omega
  have HS4 := Lib.hid hS4
  have HM4 := Lib.hid hM4
  have HC4 := Lib.hid hC4
  have HL4 := Lib.hid hL4
  clear hS4 hM4 hC4 hL4
  refine wp_region_quiet (C := fun W => Below w1.heap.size w1 W) (by kernel_rfl) (by kernel_rfl) ⟨rfl, rfl, rfl, Nat.le_refl _, fun _ _ => rfl⟩ ?_
  refine q_val (.agg (rowB D)) rfl (fun W hW => exec_load_row 120 (.tmp 5) rfl w.heap.size rfl 120 (rowB D) (0, 0) _ (KRh.out W hW) Try.underlying120 rfl HZ.out) ?_
  simp only [Act.put, List.setIfInBounds_toArray, List.set_cons_succ, List.set_cons_zero]
  refine q_call 64 #[.agg (rowB D)] (.int .i64 (n : Int)) rfl (fun _ _ => exec_call1 64 (.tmp 13) #[120] (.agg (rowB D)) rfl rfl (cf24 _ _)) (fun W hW => KNh.out W hW) ?_
  simp only [Act.put, List.setIfInBounds_toArray, List.set_cons_succ, List.set_cons_zero]
  go_big_quiet_step (fail)
  refine q_val (.slice S4 M4 C4) rfl (fun W _ => exec_cut 24 5 (.tmp 15) (some (.const (.int .i64 4))) none rfl Try.underlying24 _ (KCh.out W)) ?_
  simp only [Act.put, List.setIfInBounds_toArray, List.set_cons_succ, List.set_cons_zero]
  go_big_quiet_step (fail)
  go_big_quiet_step (fail)
  refine wpQuiet_nil ?_
  intro w2 hw2
  have HW2 := Lib.hid (HW1.out.trans (hw2.mono HW1.out.size))
  clear hw2
  by_cases hnm : n ≤ M4
  · have hd2 : decide (M4 < n) = false := by simp; omega
    have HBd2 := Lib.hid (HBd.out.below HW2.out)
    have HC1 := Lib.hid (show ((L4.take n).map (Value.int .u8)).length = Nat.min M4 n by rw [List.length_map, List.length_take, HLd.out]; exact (Nat.min_eq_left hnm).trans (Nat.min_eq_right hnm).symm)
    have HTl := Lib.hid (show (L4.take n).length = n by rw [List.length_take, HLd.out]; exact Nat.min_eq_left hnm)
    have HK : Hid (∀ (X : Obj) a v, w2.cell? a = some v → (w2.alloc X).cell? a = some v) := Lib.hid (fun X a v h => (((Below.refl w2.heap.size w2).alloc (Nat.le_refl _) X).cell (block_lt_of_cell h)).trans h)
    have HSrc := fun w' h => HBd2.out.srcOf (w' := w') h n w2.heap.size 0
    have HSrc := Lib.hid HSrc
    obtain ⟨T2, hT2⟩ : ∃ x, L4.take n = x := ⟨_, rfl⟩
    rw [hT2] at HC1 HTl HSrc
    have HT2 := Lib.hid hT2
    clear hT2
    have HC2 := Lib.hid (show 0 + (T2.map (Value.int .u8)).length ≤ (madeCells #[Value.int .u8 0] n).toList.length by rw [List.length_map, HTl.out, Array.length_toList, size_madeCells]; omega)
    go_upto_region 9 with (refine wpList_makeN 24 5 1 (.int .u8 0) Try.underlying24 info5 (by decide) rfl (.tmp 21) (.tmp 21) rfl n rfl rfl (by omega) ?_)
    go_upto_region 10 with (refine wpList_copy_splice rfl (.tmp 23) (.tmp 24) 24 24 rfl 5 Try.underlying24 size5 _ _ n n M4 C4 rfl rfl w2.heap.size 0 (madeCells #[Value.int .u8 0] n).toList 5 (heap_alloc_new _ _) (T2.map (Value.int .u8)) HC1.out (HSrc.out _ (HK.out _)) HC2.out (map_one _) w2.heap.size _ (Below.refl _ _) (Nat.le_refl _) ?_; intro w3 H3 hb3)
    have HW3 := Lib.hid (HW2.out.trans ((((Below.refl w2.heap.size w2).alloc (Nat.le_refl _) _).trans hb3).mono HW2.out.size))
    have hsp : splice (madeCells #[Value.int .u8 0] n).toList 0 (T2.map (Value.int .u8)) = T2.map (Value.int .u8) := by
      have : (madeCells #[Value.int .u8 0] n).toList.drop (0 + (T2.map (Value.int .u8)).length) = [] := by
        rw [List.drop_eq_nil_iff, Array.length_toList, size_madeCells, List.length_map, HTl.out]
        omega
      rw [splice, this]
      simp
    rw [hsp] at H3
    clear hb3 hsp HC1 HC2 HSrc HK
    have kC2 := run_cut S4 M4 C4 n hnm
    go_quiet (fail)
    go_wp2
    refine bodyPost_ret (v := .tuple #[.slice (some ⟨w2.heap.size, 0, none⟩) n n, .slice (cutA S4 C4 n) (M4 - n) (C4 - n), .bool true]) (by simp [results, Try.results47, go_sem]) rfl ⟨fun _ => ⟨w2.heap.size, HW2.out.size, ?_, ?_⟩, fun h => absurd ?_ h, below_drewN HW3.out nq⟩
    · rw [HM.out, HM4.out, HC4.out, HS4.out]
    · rw [HL4.out, HT2.out]
      exact H3.out
    · rw [HM.out, HM4.out]
      exact hnm
  · have hd2 : decide (M4 < n) = true := by simp; omega
    have HNM := Lib.hid hnm
    clear hnm
    go_wp2
    refine bodyPost_ret (v := .tuple #[.slice none 0 0, .slice none 0 0, .bool false]) (by simp [results, Try.results47, go_sem]) rfl ⟨fun h => absurd h ?_, fun _ => rfl, HW2.out⟩
    rw [HM.out, HM4.out]
    exact HNM.out

/-- a scope in which the run jumps back to one label: the pass from the label is shown once -/
theorem wp_scope_jumps1 {P : Program} {a : Act} {w : World} {Q : Exit → Act → World → Prop} {c rest : Code} (l : Nat) (J : Act → World → Prop) (μ : Act → World → Nat) (hf : findLabel c l = some (Code.skip.seq rest))
    (pass : ∀ a w, J a w → rest.wp P (Exit.jump l (fun a' w' => J a' w' ∧ μ a' w' < μ a w) Q) a w)
    (first : (∀ a w, J a w → rest.wp P (Exit.jump l J Q) a w) → c.wp P (Exit.jump l J Q) a w) : (Code.scope c).wp P Q a w :=
  wp_scope_jumps l J μ hf (first fun a w h => Code.wp_mono (fun e a' w' hq => by
    cases e with
    | goto l' => exact ⟨hq.1, hq.2.1⟩
    | _ => exact hq) (pass a w h)) fun a w h => wp_seq (wp_skip (pass a w h))
def lenV : Value → Nat | .slice _ n _ => n | _ => 0
/-- a piece that the call made -/
def Made (B : Nat) (w : World) (u : Value) (p : List Int) : Prop := ∃ g, B ≤ g ∧ u = .slice (some ⟨g, 0, none⟩) p.length p.length ∧ w.heap[g]? = some (.cells (rowB p) 5 (0, 0)) ∧ rng p ∧ p.length ≤ 1000000
theorem Made.below {B : Nat} {w w' : World} {u : Value} {p : List Int} (h : Made B w u p) (hb : Below w.heap.size w w') : Made B w' u p := by
  obtain ⟨g, h1, h2, h3, h4, h5⟩ := h
  exact ⟨g, h1, h2, (hb.block g (Array.getElem?_eq_some_iff.1 h3).1).trans h3, h4, h5⟩
theorem Made.grown {B base n : Nat} {w w' : World} {u v : Value} {p : List Int} {xs : List Value} (h : Made B w u p) (ho : w.ownsRow base 24 1 v n xs) (hg : w.grownBy w' v.ownBlock) : Made B w' u p := by
  obtain ⟨g, h1, h2, h3, h4, h5⟩ := h
  refine ⟨g, h1, h2, (hg.block g (Array.getElem?_eq_some_iff.1 h3).1 ?_).trans h3, h4, h5⟩
  rcases ho.2 with ⟨rfl, _⟩ | ⟨g', cap, cur, rfl, _, hh, _⟩
  · simp [Value.ownBlock]
  · intro he
    have : g = g' := by simpa [Value.ownBlock] using he
    subst this
    rw [hh] at h3
    injection h3 with h3
    injection h3 with _ ht
    cases ht
theorem Made.val {B : Nat} {w : World} {u : Value} {p : List Int} (h : Made B w u p) : PcVal w u p := by
  obtain ⟨g, h1, h2, h3, h4, h5⟩ := h
  refine ⟨_, _, h2, ⟨by simp, by unfold maxLen; omega, (fun h => by cases h), fun _ => ⟨_, _, rfl, fun i v hv => ?_⟩⟩, h4⟩
  rw [cell_of_row _ _ _ _ _ _ h3, ← hv]
  simp [rowB]
/-- pieces that the call made -/
structure PiecesM (B : Nat) (w : World) (sp : Option Addr) (cap : Nat) (ls : List (List Int)) : Prop where
  ex : ∃ vs : List Value, vs.length = ls.length ∧ Sl w sp cap vs ∧ ∀ i v, vs[i]? = some v → Made B w v (ls.getD i [])
theorem PiecesM.pieces {B : Nat} {w : World} {sp : Option Addr} {cap : Nat} {ls : List (List Int)} (h : PiecesM B w sp cap ls) : Pieces w sp cap ls := by
  obtain ⟨vs, h1, h2, h3⟩ := h.ex
  exact ⟨vs, h1, h2, fun i v hv => (h3 i v hv).val⟩
theorem PiecesM.at_ {B : Nat} {w : World} {sp : Option Addr} {cap : Nat} {ls : List (List Int)} (h : PiecesM B w sp cap ls) (k : Nat) (hk : k < ls.length) : ∃ c o s2 c2, sp = some ⟨c, o, none⟩ ∧ w.cell? ⟨c, o + k, none⟩ = some (.slice s2 (ls.getD k []).length c2) ∧ Bytes w s2 c2 (ls.getD k []) ∧ ∃ g, s2 = some ⟨g, 0, none⟩ ∧ B ≤ g := by
  obtain ⟨vs, h1, h2, h3⟩ := h.ex
  obtain ⟨c, o, rfl, hl⟩ := h2.lies (by omega)
  have hv : vs[k]? = some vs[k] := List.getElem?_eq_getElem (by omega)
  have hm := h3 k _ hv
  obtain ⟨s2, c2, e, hb⟩ := hm.val
  obtain ⟨g, hg1, hg2, _⟩ := hm
  rw [e] at hg2
  have := hl k _ hv
  rw [e] at this
  cases hg2
  exact ⟨c, o, _, _, rfl, this, hb, g, rfl, hg1⟩
/-- how Split stands at its label -/
structure Sq (w : World) (l : List Int) (sp : Option Addr) (m cap : Nat) (r : List Int) (dn : List (List Int)) (v : Value) (vs : List Value) (wr : World) : Prop where
  len : r.length = m
  bytes : Bytes w sp cap r
  whole : l = join dn ++ r
  below : Below w.heap.size w wr
  many : vs.length = dn.length
  own : wr.ownsRow w.heap.size 24 1 v dn.length vs
  made : ∀ i u, vs[i]? = some u → Made w.heap.size wr u (dn.getD i [])
  few : small dn
/-- what Split answers -/
def SplitPost (w : World) (l : List Int) (e : Ending) (w' : World) : Prop :=
  Below w.heap.size w w' ∧ ((∃ A cap ps, e = .returned (.tuple #[.slice A ps.length cap, .int .i64 0]) ∧ PiecesM w.heap.size w' A cap ps ∧ join ps = l ∧ small ps) ∨ (e = .returned (.tuple #[.slice none 0 0, .int .i64 11]) ∧ ∀ ps, small ps → join ps ≠ l))
/-- the frame at the label -/
def AtLabel (w : World) (l : List Int) (a' : Act) (w' : World) : Prop :=
  ∃ (sp : Option Addr) (m cap : Nat) (r : List Int) (dn : List (List Int)) (v : Value) (vs : List Value) (u5 u6 u7 u8 u9 u10 u11 u12 u13 u14 u15 u16 u17 u18 u19 u20 u21 u22 u23 u24 : Value),
    a' = { tmps := #[.slice sp m cap, undef, .slice none 0 0, .int .i64 0, v, u5, u6, u7, u8, u9, u10, u11, u12, u13, u14, u15, u16, u17, u18, u19, u20, u21, u22, u23, u24], defers := [] } ∧ Sq w l sp m cap r dn v vs w'
theorem dn_le {dn : List (List Int)} : dn.length * 4 ≤ (join dn).length := by
  induction dn with
  | nil => simp
  | cons d ds ih => rw [join_cons]; simp [be_length]; omega
set_option maxRecDepth 1000000 in
set_option maxHeartbeats 4000000 in
theorem split_any (w : World) (sp : Option Addr) (m cap : Nat) (l : List Int) (hm : l.length = m) (hb : Bytes w sp cap l) (hmx : m ≤ 1000000) :
    Calls Try.prog 31 #[.slice sp m cap] w (SplitPost w l) := by
  have HM := Lib.hid hm
  have HB := Lib.hid hb
  clear hm hb
  go_enter Try.func31, Try.ntmps31
  go_wp2
  refine wp_scope_jumps1 0 (AtLabel w l) (fun a' _ => lenV (a'.tmps.getD 0 undef)) rfl ?_ ?_
  · rintro a' wr ⟨sp, m, cap, r, dn, v, vs, u5, u6, u7, u8, u9, u10, u11, u12, u13, u14, u15, u16, u17, u18, u19, u20, u21, u22, u23, u24, rfl, hq⟩
    have hml : m ≤ 1000000 := by
      have h1 := hq.len
      have h2 := congrArg List.length hq.whole
      rw [List.length_append, HM.out] at h2
      omega
    have hdl : dn.length + 1 ≤ 1000000 := by
      have h1 := dn_le (dn := dn)
      have h2 := congrArg List.length hq.whole
      rw [List.length_append, HM.out] at h2
      omega
    obtain ⟨sv, cv, rfl, _, hslv, hbv⟩ := Sl.all1 hq.own
    have HQ := Lib.hid hq
    have HBr := Lib.hid (hq.bytes.below hq.below)
    have HSlv := Lib.hid hslv
    clear hq hslv
    by_cases h0 : m = 0
    · have he : ((m : Int) == 0) = true := by rw [h0]; rfl
      have H0 := Lib.hid h0
      clear h0
      go_wp2
      simp only [Exit.jump]
      refine bodyPost_ret (v := .tuple #[.slice sv dn.length cv, .int .i64 0]) (by simp [results, Try.results31, go_sem]) rfl ⟨HQ.out.below, Or.inl ⟨sv, cv, dn, rfl, ⟨vs, HQ.out.many, HSlv.out, HQ.out.made⟩, ?_, HQ.out.few⟩⟩
      have hr : r = [] := List.eq_nil_of_length_eq_zero (HQ.out.len.trans H0.out)
      rw [HQ.out.whole, hr, List.append_nil]
    · have he : ((m : Int) == 0) = false := by rw [beq_eq_false_iff_ne]; omega
      have hrne : r ≠ [] := fun e => h0 (by rw [← HQ.out.len, e]; rfl)
      have HRne := Lib.hid hrne
      clear h0 hrne
      by_cases h4 : m < 4
      · have HNo : Hid (∀ ps, small ps → join ps ≠ l) := Lib.hid (fun ps hps hj => by
          rw [HQ.out.whole] at hj
          obtain ⟨qs, rfl, hq2⟩ := join_cancel dn ps r HQ.out.few hps hj
          have := (join_whole (fun x hx => hps x (by simp [hx])) hq2 HRne.out).1
          rw [HQ.out.len] at this
          omega)
        go_wp2_with fail
        refine (take_short wr sp m cap h4).mono ?_
        rintro e w' ⟨rfl, rfl⟩
        go_wp2
        simp only [Exit.jump]
        exact bodyPost_ret (v := .tuple #[.slice none 0 0, .int .i64 11]) (by simp [results, Try.results31, go_sem]) rfl ⟨HQ.out.below, Or.inr ⟨rfl, HNo.out⟩⟩
      · have hvb := val_bound 4 (r.take 4) (by simp [HQ.out.len]; omega) (rng_take HBr.out.rng 4)
        obtain ⟨n, hn⟩ := Int.eq_ofNat_of_zero_le hvb.1
        have HN := Lib.hid hn
        clear hvb hn
        by_cases hnm : n ≤ m - 4
        · have h4' : 4 ≤ m := by omega
          have HJT := Lib.hid (join_take r n HBr.out.rng (by rw [HQ.out.len]; exact h4') HN.out (by rw [HQ.out.len]; exact hnm))
          have HBc := Lib.hid ((HQ.out.bytes.cut 4 (by rw [HQ.out.len]; exact h4')).cut n (by rw [List.length_drop, HQ.out.len]; exact hnm))
          have HPl := Lib.hid (show ((r.drop 4).take n).length = n by rw [List.length_take, List.length_drop, HQ.out.len]; exact Nat.min_eq_left hnm)
          have HRl := Lib.hid (show ((r.drop 4).drop n).length = m - 4 - n by rw [List.length_drop, List.length_drop, HQ.out.len])
          have HPr : Hid (rng ((r.drop 4).take n)) := Lib.hid (rng_take (rng_drop HBr.out.rng 4) n)
          go_wp2_with fail
          refine (take_any wr sp m cap n r HQ.out.len HBr.out h4' HN.out hml).mono ?_
          rintro e w1 ⟨h1, _, h3⟩
          rw [HQ.out.len] at h1
          obtain ⟨g, hgs, rfl, hrow⟩ := h1 hnm
          have HW1 := Lib.hid h3
          have HW1b := Lib.hid (HQ.out.below.trans (h3.mono HQ.out.below.size))
          have hsz1 : w.heap.size ≤ w1.heap.size := HW1b.out.size
          have hgw : w.heap.size ≤ g := Nat.le_trans HQ.out.below.size hgs
          clear h1 h3 hgs
          obtain ⟨P, hP⟩ : ∃ x, (r.drop 4).take n = x := ⟨_, rfl⟩
          rw [hP] at hrow HJT HPl HPr
          obtain ⟨r2, hr2⟩ : ∃ x, (r.drop 4).drop n = x := ⟨_, rfl⟩
          rw [hr2] at HJT HBc HRl
          obtain ⟨R, hR⟩ : ∃ x, cutA (cutA sp cap 4) (cap - 4) n = x := ⟨_, rfl⟩
          obtain ⟨m2, hm2⟩ : ∃ x, m - 4 - n = x := ⟨_, rfl⟩
          obtain ⟨c2, hc2⟩ : ∃ x, cap - 4 - n = x := ⟨_, rfl⟩
          rw [hR, hc2] at HBc
          rw [hm2] at HRl
          rw [hR, hm2, hc2]
          have hlt : m2 < m := by omega
          have hn1 : n ≤ 1000000 := by omega
          have HMade : Hid (Made w.heap.size w1 (.slice (some ⟨g, 0, none⟩) n n) P) := Lib.hid ⟨g, hgw, by rw [HPl.out], hrow, HPr.out, by rw [HPl.out]; omega⟩
          have HO1 := Lib.hid (owns_below HQ.out.own HW1.out)
          clear hP hr2 hR hm2 hc2 hrow hgw h4 h4' hnm
          have HS1 := Lib.hid (Sl.new w1 [.slice (some ⟨g, 0, none⟩) n n] #[.slice (some ⟨g, 0, none⟩) n n] 24 (0, 0) rfl (by simp))
          have HBa := Lib.hid (((Below.refl w1.heap.size w1).alloc (Nat.le_refl _) (.cells #[.slice (some ⟨g, 0, none⟩) n n] 24)))
          have HO2 := Lib.hid (owns_below HO1.out HBa.out)
          obtain ⟨D, hD⟩ : ∃ x, dn.length = x := ⟨_, rfl⟩
          rw [hD] at HO2 hdl ⊢
          have HD := Lib.hid hD
          clear hD
          go_wp2_with (refine wpList_append_sl 39 24 24 (.slice none 0 0) Try.underlying39 infoBy rfl (by decide) rfl (.tmp 20) (.tmp 22) rfl w.heap.size (.slice sv D cv) D 1 vs [.slice (some ⟨g, 0, none⟩) n n] rfl HO2.out (some ⟨w1.heap.size, 0, none⟩) 1 rfl rfl HS1.out (by simp [Value.oneCell']) hdl (by simp; omega) ?_; intro v3 w3 hown3 hg3)
          go_step3
          refine ⟨rfl, ⟨R, m2, c2, r2, dn ++ [P], v3, vs ++ [.slice (some ⟨g, 0, none⟩) n n], _, _, _, _, _, _, _, _, _, _, _, _, _, _, _, _, _, _, _, _, rfl, ?_⟩, by simpa [lenV] using hlt⟩
          have hmy := HQ.out.many
          refine ⟨HRl.out, HBc.out, ?_, ?_, ?_, ?_, ?_, ?_⟩
          · rw [HQ.out.whole, join_snoc, HPl.out, List.append_assoc, List.append_assoc, HJT.out]
          · exact (HW1b.out.trans (HBa.out.mono hsz1)).trans (Below.ofGrown hg3 (by simp; omega) (fun k e => (HO2.out.lt k e).1))
          · simp [hmy]
          · rw [List.length_append, HD.out]
            exact hown3
          · intro i u hu
            by_cases hi : i < vs.length
            · rw [List.getElem?_append_left hi] at hu
              have e : (dn ++ [P]).getD i [] = dn.getD i [] := by simp [List.getElem?_append, show i < dn.length by omega]
              rw [e]
              exact (((HQ.out.made i u hu).below HW1.out).below HBa.out).grown HO2.out hg3
            · rw [List.getElem?_append_right (by omega)] at hu
              have hi2 : i = vs.length := by
                have := (List.getElem?_eq_some_iff.1 hu).1
                simp at this
                omega
              have e : (dn ++ [P]).getD i [] = P := by simp [hi2, hmy]
              rw [e]
              rw [hi2] at hu
              simp at hu
              rw [← hu]
              exact (HMade.out.below HBa.out).grown HO2.out hg3
          · intro x hx
            rcases List.mem_append.1 hx with h | h
            · exact HQ.out.few x h
            · obtain rfl : x = P := by simpa using h
              rw [HPl.out]
              omega
        · have HNo : Hid (∀ ps, small ps → join ps ≠ l) := Lib.hid (fun ps hps hj => by
            rw [HQ.out.whole] at hj
            obtain ⟨qs, rfl, hq2⟩ := join_cancel dn ps r HQ.out.few hps hj
            have := (join_whole (fun x hx => hps x (by simp [hx])) hq2 HRne.out).2
            rw [HQ.out.len, HN.out] at this
            omega)
          have HNm := Lib.hid hnm
          clear hnm
          go_wp2_with fail
          refine (take_any wr sp m cap n r HQ.out.len HBr.out (by omega) HN.out hml).mono ?_
          rintro e w' ⟨_, h2, h3⟩
          rw [HQ.out.len] at h2
          obtain rfl := h2 HNm.out
          have HW := Lib.hid (HQ.out.below.trans (h3.mono HQ.out.below.size))
          clear h2 h3
          go_wp2
          simp only [Exit.jump]
          exact bodyPost_ret (v := .tuple #[.slice none 0 0, .int .i64 11]) (by simp [results, Try.results31, go_sem]) rfl ⟨HW.out, Or.inr ⟨rfl, HNo.out⟩⟩
  · intro hpass
    have HPass := Lib.hid hpass
    clear hpass
    go_wp2
    go_step3
    rename_i K hk
    exact hk _ _ (HPass.out _ _ ⟨sp, m, cap, l, [], .slice none 0 0, [], _, _, _, _, _, _, _, _, _, _, _, _, _, _, _, _, _, _, _, _, rfl, ⟨HM.out, HB.out, by simp [join_nil], Below.refl _ _, rfl, World.ownsRow_nil _ _ _ _, fun i u hu => by simp at hu, fun x hx => by cases hx⟩⟩)
end Go.Proofs.Ytkfkjapkcjidnaa.Cd
