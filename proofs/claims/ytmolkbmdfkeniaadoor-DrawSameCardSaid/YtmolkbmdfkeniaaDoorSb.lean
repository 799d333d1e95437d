import Derived.Test.YtmolkbmdfkeniaaDoorSa
import Derived.Deep.DeepCutAuto
import Derived.Lib.SlBytesConst
import Derived.Laws.StructEq
import Derived.Deep.MidRow
import Derived.Laws.AppendOwnNone
import Derived.Deep.QuietTactic
import Derived.BigQuiet
import Derived.StillTail
import Derived.Deep.Quiet
import Derived.IntWalk
-- from H
namespace Go.Proofs.YtmolkbmdfkeniaaDoor
open Go.ChangeShapes Go.WideShapes Go.ChangeAt Go.RowKit
theorem Bytes.nil (w : World) : Bytes w none 0 [] := ⟨Nat.le_refl _, by unfold maxLen; omega, fun h => absurd h (by simp)⟩
end Go.Proofs.YtmolkbmdfkeniaaDoor
-- from L
namespace Go.Proofs.YtmolkbmdfkeniaaDoor
open Go.RowKit
section
variable {P : Program}
end
end Go.Proofs.YtmolkbmdfkeniaaDoor
-- from M
namespace Go.Proofs.YtmolkbmdfkeniaaDoor
open Go.ChangeShapes Go.WideShapes Go.ChangeAt Go.RowKit
end Go.Proofs.YtmolkbmdfkeniaaDoor
-- from O
namespace Go.Proofs.YtmolkbmdfkeniaaDoor
open Go.ChangeShapes Go.WideShapes Go.ChangeAt Go.RowKit
end Go.Proofs.YtmolkbmdfkeniaaDoor
-- from Y
namespace Go.Proofs.YtmolkbmdfkeniaaDoor
open Go.ChangeShapes Go.WideShapes Go.ChangeAt Go.RowKit
end Go.Proofs.YtmolkbmdfkeniaaDoor
-- from Q
namespace Go.Proofs.YtmolkbmdfkeniaaDoor
open Go.ChangeShapes Go.WideShapes Go.ChangeAt Go.RowKit
end Go.Proofs.YtmolkbmdfkeniaaDoor
-- from Z
namespace Go.Proofs.YtmolkbmdfkeniaaDoor
open Go.ChangeShapes Go.WideShapes Go.ChangeAt Go.RowKit
theorem src_of {w : World} {c o : Nat} {l : List Int} (h : Lies w c o l) : ∀ j v, (l.map (Value.int .u8))[j]? = some v → w.cell? ((⟨c, o, none⟩ : Addr).add j) = some v := by
  intro j v hv
  have hj : j < l.length := by
    by_cases hj : j < l.length
    · exact hj
    · simp [show l[j]? = none by simp; omega] at hv
  have hadd : (⟨c, o, none⟩ : Addr).add j = ⟨c, o + j, none⟩ := by unfold Addr.add; split <;> simp_all
  rw [hadd, h j hj, ← hv]
  simp [hj]

end Go.Proofs.YtmolkbmdfkeniaaDoor
-- from Z3
namespace Go.Proofs.YtmolkbmdfkeniaaDoor
open Go.ChangeShapes Go.WideShapes Go.ChangeAt Go.RowKit
end Go.Proofs.YtmolkbmdfkeniaaDoor
-- from Pa
namespace Go.Proofs.YtmolkbmdfkeniaaDoor
open Go.ChangeShapes Go.WideShapes Go.ChangeAt Go.RowKit
theorem info5 : (Tryd.prog.info? 5).map (fun i => (i.zero, i.size, i.bytes)) = some (some (.int .u8 0), 1, 1) := by kernel_rfl
/-- append of bytes that came in to a row of the call's own -/
theorem wpList_append_bytes {w : World} {ops : Array Oper} {rest : List Oper} {o : Oper} {a : Act} {Q : Exit → Act → World → Prop} (hgd : o.guard = none) (s x : Operand)
    (ho : o.op = .call { callee := .builtin .append, args := #[s, x], argTypes := #[57, 57] }) (base : Nat) (v : Value) (n m : Nat) (xs b : List Int) (hs : a.eval s = v) (hown : w.ownsRow base 5 1 v n (xs.map (Value.int .u8)))
    (sp : Option Addr) (cap : Nat) (hx : a.eval x = .slice sp m cap) (hm : b.length = m) (hb : Bytes w sp cap b) (hz : sp = none → cap = 0) (hn : n + m ≤ 1000000) (hbase : base ≤ w.heap.size)
    (h : ∀ v' w', w'.ownsRow base 5 1 v' (n + m) ((xs ++ b).map (Value.int .u8)) → w.grownBy w' v.ownBlock → wpList Tryd.prog ops Q rest (a.put o.dst v') w') : wpList Tryd.prog ops Q (o :: rest) a w := by
  subst hm
  obtain ⟨i0, hi, hz0, hz1, hz2⟩ := info_parts info5
  rcases sp with _ | ad
  · obtain rfl := hz rfl
    have h0 : b = [] := List.eq_nil_of_length_eq_zero (by have := hb.le; omega)
    subst h0
    refine wpList_append_own_none hgd s x 57 ho base 5 i0 1 Tryd.underlying57 hi v n _ hs hown hx ?_
    exact h v w (by simpa using hown) ⟨rfl, rfl, rfl, Nat.le_refl _, fun _ _ _ => rfl⟩
  · have hcells : ∀ j u, (b.map (Value.int .u8))[j]? = some u → w.cell? (ad.add j) = some u := by
      intro j u hu
      have hj : 0 < b.length := by
        by_cases h0 : 0 < b.length
        · exact h0
        · have : b = [] := List.eq_nil_of_length_eq_zero (by omega)
          subst this
          simp at hu
      obtain ⟨c, o', e, hl⟩ := hb.lies hj
      cases e
      exact src_of hl j u hu
    obtain ⟨v', w', hrun, hown', hg, _⟩ := run_append_own (P := Tryd.prog) w base 57 o.type 5 i0 (.int .u8 0) 1 1 Tryd.underlying57 hi hz0 hz1 hz2 rfl (by decide) v n _ hown ad b.length cap (b.map (Value.int .u8)) (by simp) hcells (map_one b)
      (by unfold maxLen; omega) (by omega) hbase
    refine wpList_plain hgd fun K hK => ?_
    unfold Oper.wp
    simp [execOp, ho, resolve, invoke, builtin, hs, hx, hrun, Result.andThen]
    exact hK _ _ (h v' w' (by simpa using hown') hg)
/-- what the call owns is a slice of bytes -/
theorem own_bytes {w : World} {base n : Nat} {v : Value} {xs : List Int} (h : w.ownsRow base 5 1 v n (xs.map (Value.int .u8))) : ∃ sp cap, v = .slice sp n cap ∧ xs.length = n ∧ Bytes w sp cap xs ∧ (sp = none → cap = 0) ∧ (∀ c o, sp = some ⟨c, o, none⟩ → base ≤ c) := by
  have hl : xs.length = n := by have := h.1; simpa using this
  rcases h.2 with ⟨rfl, rfl⟩ | ⟨g, cap, cur, rfl, hbg, hg, hnc, hcm, _, htake⟩
  · obtain rfl : xs = [] := List.eq_nil_of_length_eq_zero hl
    exact ⟨none, 0, rfl, rfl, Bytes.nil w, fun _ => rfl, fun _ _ h => by cases h⟩
  · refine ⟨_, cap, rfl, hl, ⟨by omega, hcm, fun _ => ⟨g, 0, rfl, fun i hi => ?_⟩⟩, fun h => (by cases h), fun c o h => by cases h; exact hbg⟩
    have := h.cells (g := g) rfl i (.int .u8 (xs.getD i 0)) (by simp [hi])
    have hadd : (⟨g, 0, none⟩ : Addr).add i = ⟨g, 0 + i, none⟩ := by unfold Addr.add; split <;> simp_all
    rw [hadd] at this
    exact this
theorem Below.ofGrown {B : Nat} {w w' : World} {row : Option Nat} (hg : w.grownBy w' row) (hB : B ≤ w.heap.size) (hr : ∀ k, row = some k → B ≤ k) : Below B w w' :=
  ⟨hg.os, hg.tape, hg.output, hg.size, fun k hk => hg.block k (by omega) (fun e => by have := hr _ e.symm; omega)⟩
end Go.Proofs.YtmolkbmdfkeniaaDoor
-- from Qu
namespace Go.Proofs.YtmolkbmdfkeniaaDoor
open Go.ChangeShapes Go.WideShapes Go.ChangeAt Go.RowKit
section
variable {P : Program} {ops : Array Oper} {C : World → Prop} {Q : Act → Prop} {a : Act} {o : Oper} {rest : List Oper}
/-- an operation that yields one value, whatever the world of the class -/
theorem q_val (v : Value) (hw : Region.wanted o (yielded ops a.tmps) = true) (h : ∀ W, C W → (execOp a.eval o).run P W = .ok (.value v) W) (hn : wpQuiet P ops C Q rest (a.put o.dst v)) : wpQuiet P ops C Q (o :: rest) a :=
  wpQuiet_step fun K hK => by
    rw [if_pos hw]
    exact ⟨v, fun W hW => by unfold Oper.quietAt; rw [h W hW]; exact ⟨rfl, rfl⟩, hK _ hn⟩
/-- a call whose answer is one value, and that stays within the class -/
theorem q_call (f : FuncId) (args : Array Value) (v : Value) (hw : Region.wanted o (yielded ops a.tmps) = true) (h : ∀ W, C W → (execOp a.eval o).run P W = .ok (.enter f args) W)
    (hc : ∀ W, C W → Calls P f args W fun e W' => e = .returned v ∧ C W') (hn : wpQuiet P ops C Q rest (a.put o.dst v)) : wpQuiet P ops C Q (o :: rest) a :=
  wpQuiet_step fun K hK => by
    rw [if_pos hw]
    exact ⟨v, fun W hW => by unfold Oper.quietAt; rw [h W hW]; exact ⟨rfl, hc W hW⟩, hK _ hn⟩
theorem exec_load_row {W : World} (ty : TypeId) (x : Operand) (ho : o.op = .load ty x) (g : Nat) (hx : a.eval x = .pointer (some ⟨g, 0, none⟩)) (t : TypeId) (cs : Array Value) (fr : Nat × Nat) (d : TypeDesc) (hg : W.heap[g]? = some (.cells cs t fr))
    (hu : P.underlying ty = some d) (hd : (match d with | .struct _ | .array _ _ => true | _ => false) = true) (hi : (P.info? ty).map (·.size) = some cs.size) : (execOp a.eval o).run P W = .ok (.value (.agg cs)) W := by
  unfold execOp
  simp only [ho, hx, Instr.loadAt, Instr.sureAddr, Sem.run_bind, Sem.run_pure, Result.andThen_ok, run_loadVar_row W g t ty cs fr d hg hu hd hi]
theorem exec_binOp {W : World} (op : BinOp) (t rt : TypeId) (x y : Operand) (ho : o.op = .binOp op t x y rt) (vx vy v : Value) (hx : a.eval x = vx) (hy : a.eval y = vy) (hgd : (eqGuard op t x y vx vy).run P W = .ok () W) (h : (binOp op t vx vy).run P W = .ok v W) : (execOp a.eval o).run P W = .ok (.value v) W := by
  unfold execOp
  simp [ho, hx, hy, hgd, h]
end
end Go.Proofs.YtmolkbmdfkeniaaDoor
-- from Qv
namespace Go.Proofs.YtmolkbmdfkeniaaDoor
open Go.ChangeShapes Go.WideShapes Go.ChangeAt Go.RowKit
theorem exec_call {P : Program} {a : Act} {o : Oper} {W : World} (f : FuncId) (xs : Array Operand) (ats : Array TypeId) (vs : Array Value) (ho : o.op = .call { callee := .value (.func f), args := xs, argTypes := ats }) (hx : xs.map a.eval = vs)
    (hf : (callFunc f vs).run P W = .ok (.enter f vs) W) : (execOp a.eval o).run P W = .ok (.enter f vs) W := by
  unfold execOp
  simp only [ho, resolve, hx, BigFrame.eval_func, Deferred.ofValue, Sem.run_bind, Sem.run_pure, Result.andThen_ok, invoke, Array.empty_append, Array.append_empty]
  exact hf
theorem exec_call1 {P : Program} {a : Act} {o : Oper} {W : World} (f : FuncId) (x : Operand) (ats : Array TypeId) (v : Value) (ho : o.op = .call { callee := .value (.func f), args := #[x], argTypes := ats }) (hx : a.eval x = v)
    (hf : (callFunc f #[v]).run P W = .ok (.enter f #[v]) W) : (execOp a.eval o).run P W = .ok (.enter f #[v]) W :=
  exec_call f #[x] ats #[v] ho (by simp [hx]) hf
theorem cf {P : Program} {f : FuncId} {fn : Func} (hf : P.funcs[f]? = some fn) (hn : (fn.name == "runtime.NumGoroutine") = false) (hb : fn.body.isNone = false) (vs : Array Value) (W : World) : (callFunc f vs).run P W = .ok (.enter f vs) W := by
  simp only [callFunc, Sem.run_bind, run_program, Result.andThen_ok, hf, hn, hb, Bool.false_eq_true, if_false, Sem.run_pure]
end Go.Proofs.YtmolkbmdfkeniaaDoor
-- from Sr
namespace Go.Proofs.YtmolkbmdfkeniaaDoor
section
open Go.ChangeShapes Go.WideShapes Go.ChangeAt Go.RowKit
set_option maxRecDepth 100000
theorem pow_le (n : Nat) (h : n ≤ 56) : (1 : Int) ≤ 2 ^ n ∧ (2 : Int) ^ n ≤ 72057594037927936 := by
  have h1 : (2 : Nat) ^ n ≤ 2 ^ 56 := Nat.pow_le_pow_right (by omega) h
  have h2 : 1 ≤ (2 : Nat) ^ n := Nat.one_le_two_pow
  have e : ((2 : Int) ^ n) = ((2 ^ n : Nat) : Int) := by simp
  rw [e]
  omega
theorem power_any (k : Nat) (hk : k ≤ 56) (w : World) : Calls Tryd.prog 43 #[.int .i64 k] w fun e w' => e = .returned (.int .i64 (2 ^ k)) ∧ w = w' := by
  go_enter Tryd.func43, Tryd.ntmps43
  go_wp2
  go_loop [3, 4] (fun v i => ∃ n : Nat, n ≤ k ∧ i = .int .i64 n ∧ v = .int .i64 (2 ^ n)) (fun _ i => k - (intOf i).toNat)
  case atStart => exact ⟨0, by omega, rfl, rfl⟩
  case round =>
    obtain ⟨n, hn, rfl, rfl⟩ := hrel
    obtain ⟨p1, p2⟩ := pow_le n (by omega)
    by_cases hlt : n < k
    · have hdt : decide (n < k) = true := by simp; omega
      have hs : (2 : Int) ^ (n + 1) = 2 ^ n * 2 := by rw [Int.pow_succ]
      have HS := Lib.hid hs
      clear hs
      obtain ⟨q, hq⟩ : ∃ q : Int, (2 : Int) ^ n = q := ⟨_, rfl⟩
      rw [hq] at p1 p2 HS ⊢
      clear hq
      go_wp2
      go_round
      case rel => exact ⟨n + 1, by omega, by go_num, by rw [HS.out]⟩
      case measure => simp [intOf]; omega
    · obtain rfl : n = k := by omega
      have hdf : decide (n < n) = false := by simp
      clear p1 p2
      go_wp2
      go_ret
      exact ⟨rfl, rfl⟩

/-- xor and and of 32 bits and of 64: the same numbers -/
theorem rot_sum (x k : Nat) (hx : x < 4294967296) (hk : 1 ≤ k) (hk2 : k ≤ 31) : (x / 2 ^ k + x * 2 ^ (32 - k)) % 4294967296 = (x * 2 ^ (32 - k) % 4294967296) ||| (x / 2 ^ k) := by
  have e : (4294967296 : Nat) = 2 ^ (32 - k) * 2 ^ k := by rw [← Nat.pow_add, show 32 - k + k = 32 from by omega]
  have hq : x / 2 ^ k < 2 ^ (32 - k) := by
    rw [Nat.div_lt_iff_lt_mul (Nat.two_pow_pos k)]
    rw [← e]
    exact hx
  have hm : x * 2 ^ (32 - k) % 4294967296 % 2 ^ (32 - k) = 0 := by
    rw [e, Nat.mod_mul_right_mod]
    exact Nat.mul_mod_left _ _
  rw [nat_join (32 - k) _ _ hm hq, Nat.add_comm (x / 2 ^ k), Nat.add_mod]
  have hsmall : x / 2 ^ k < 4294967296 := Nat.lt_of_le_of_lt (Nat.div_le_self _ _) hx
  rw [Nat.mod_eq_of_lt hsmall]
  apply Nat.mod_eq_of_lt
  have h1 : x * 2 ^ (32 - k) % 4294967296 < 4294967296 := Nat.mod_lt _ (by omega)
  have h2 : x * 2 ^ (32 - k) % 4294967296 = 2 ^ (32 - k) * (x * 2 ^ (32 - k) % 4294967296 / 2 ^ (32 - k)) := by
    have := Nat.div_add_mod (x * 2 ^ (32 - k) % 4294967296) (2 ^ (32 - k))
    omega
  generalize x * 2 ^ (32 - k) % 4294967296 / 2 ^ (32 - k) = t at h2
  have h3 : t < 2 ^ k := by
    rw [h2, e] at h1
    exact Nat.lt_of_mul_lt_mul_left h1
  have h4 : 2 ^ (32 - k) * (t + 1) ≤ 2 ^ (32 - k) * 2 ^ k := Nat.mul_le_mul_left _ h3
  rw [← e, Nat.mul_add, Nat.mul_one] at h4
  omega
end
section
open Go.ChangeShapes Go.WideShapes Go.ChangeAt Go.RowKit
set_option maxRecDepth 100000
theorem i64_xor_nat (a b : Nat) (ha : a < 4294967296) (hb : b < 4294967296) : bits .xor .i64 (a : Int) (b : Int) = ((a ^^^ b : Nat) : Int) := by
  have hx : a ^^^ b < 2 ^ 32 := Nat.xor_lt_two_pow (by omega) (by omega)
  show IntKind.i64.wrap ((BitVec.ofInt 64 (a : Int) ^^^ BitVec.ofInt 64 (b : Int)).toNat : Int) = _
  rw [BitVec.toNat_xor, ofInt_u64 a (by omega), ofInt_u64 b (by omega)]
  exact IntWalk.i64_in _ (by omega)
theorem i64_and_nat (a b : Nat) (ha : a < 4294967296) (hb : b < 4294967296) : bits .and .i64 (a : Int) (b : Int) = ((a &&& b : Nat) : Int) := by
  have hx : a &&& b < 2 ^ 32 := Nat.and_lt_two_pow _ (by omega)
  show IntKind.i64.wrap ((BitVec.ofInt 64 (a : Int) &&& BitVec.ofInt 64 (b : Int)).toNat : Int) = _
  rw [BitVec.toNat_and, ofInt_u64 a (by omega), ofInt_u64 b (by omega)]
  exact IntWalk.i64_in _ (by omega)
/-- xor and 'and' of 64 bits are those of 32, for numbers of 32 bits -/
theorem i64_xor (a b : Int) (h1 : 0 ≤ a) (h2 : a < 4294967296) (h3 : 0 ≤ b) (h4 : b < 4294967296) : bits .xor .i64 a b = bits .xor .u32 a b := by
  obtain ⟨A, rfl⟩ := Int.eq_ofNat_of_zero_le h1
  obtain ⟨B, rfl⟩ := Int.eq_ofNat_of_zero_le h3
  rw [i64_xor_nat A B (by omega) (by omega), u32_xor_nat A B (by omega) (by omega)]
theorem i64_and (a b : Int) (h1 : 0 ≤ a) (h2 : a < 4294967296) (h3 : 0 ≤ b) (h4 : b < 4294967296) : bits .and .i64 a b = bits .and .u32 a b := by
  obtain ⟨A, rfl⟩ := Int.eq_ofNat_of_zero_le h1
  obtain ⟨B, rfl⟩ := Int.eq_ofNat_of_zero_le h3
  rw [i64_and_nat A B (by omega) (by omega), u32_and_nat A B (by omega) (by omega)]
/-- the complement -/
theorem u32_not (x : Int) (h1 : 0 ≤ x) (h2 : x < 4294967296) : bits .xor .u32 4294967295 x = 4294967295 - x := by
  obtain ⟨A, rfl⟩ := Int.eq_ofNat_of_zero_le h1
  have h := u32_xor_nat 4294967295 A (by omega) (by omega)
  have e : 4294967295 ^^^ A = 4294967295 - A := by
    have t : (BitVec.allOnes 32 ^^^ BitVec.ofNat 32 A).toNat = (~~~ BitVec.ofNat 32 A).toNat := by rw [BitVec.allOnes_xor]
    have hA : A % 2 ^ 32 = A := Nat.mod_eq_of_lt (by omega)
    rw [BitVec.toNat_xor, BitVec.toNat_allOnes, BitVec.toNat_not, BitVec.toNat_ofNat, hA] at t
    exact t
  rw [e] at h
  rw [show ((4294967295 : Nat) : Int) = 4294967295 from rfl] at h
  rw [h]
  omega
/-- the reference's turn is the rotation -/
theorem rot_int (x : Int) (k : Nat) (h1 : 0 ≤ x) (h2 : x < 4294967296) (hk : 1 ≤ k) (hk2 : k ≤ 31) : (x / 2 ^ k + x * 2 ^ (32 - k)) % 4294967296 = rotr x k := by
  obtain ⟨A, rfl⟩ := Int.eq_ofNat_of_zero_le h1
  have h := rot_sum A k (by omega) hk hk2
  have e1 : ((32 : Int) - (k : Int)).toNat = 32 - k := by omega
  have e2 : ((k : Int)).toNat = k := by omega
  have hq : A / 2 ^ k < 4294967296 := Nat.lt_of_le_of_lt (Nat.div_le_self _ _) (by omega)
  have hor := u32_or_nat (A * 2 ^ (32 - k) % 4294967296) (A / 2 ^ k) (Nat.mod_lt _ (by omega)) hq
  rw [← h] at hor
  unfold rotr
  rw [e1, e2]
  simp only [Int.natCast_emod, Int.natCast_add, Int.natCast_ediv, Int.natCast_mul, Int.natCast_pow] at hor
  exact hor.symm
end
section
open Go.ChangeShapes Go.WideShapes Go.ChangeAt Go.RowKit
set_option maxRecDepth 100000
theorem run_shr64 (x : Int) (k : Nat) (hk : k ≤ 32) (w : World) : (binOp .shr 3 (.int .i64 x) (.int .i64 k)).run Tryd.prog w = .ok (.int .i64 (x / 2 ^ k)) w := by
  have _ := hk
  simp [go_sem]
theorem run_sub64 (k : Nat) (hk : k ≤ 32) (w : World) : (binOp .sub 3 (.int .i64 32) (.int .i64 k)).run Tryd.prog w = .ok (.int .i64 ((32 - k : Nat) : Int)) w := by
  have e : IntKind.i64.wrap (32 - (k : Int)) = ((32 - k : Nat) : Int) := by rw [IntWalk.i64_in _ (by omega)]; omega
  simp [go_sem, e]
theorem run_shl64 (x : Int) (k : Nat) (hk : k ≤ 32) (h0 : 0 ≤ x * 2 ^ k) (h1 : x * 2 ^ k ≤ 9223372036854775807) (w : World) : (binOp .shl 3 (.int .i64 x) (.int .i64 k)).run Tryd.prog w = .ok (.int .i64 (x * 2 ^ k)) w := by
  have _ := hk
  have e : IntKind.i64.wrap (x * 2 ^ k) = x * 2 ^ k := IntWalk.i64_in _ (by omega)
  simp [go_sem]
  exact e
theorem run_add64 (x y : Int) (h : 0 ≤ x + y) (h1 : x + y ≤ 9223372036854775807) (w : World) : (binOp .add 3 (.int .i64 x) (.int .i64 y)).run Tryd.prog w = .ok (.int .i64 (x + y)) w := by
  have e : IntKind.i64.wrap (x + y) = x + y := IntWalk.i64_in _ (by omega)
  simp [go_sem, e]
theorem run_rem64 (x : Int) (h : 0 ≤ x) (w : World) : (binOp .rem 3 (.int .i64 x) (.int .i64 4294967296)).run Tryd.prog w = .ok (.int .i64 (x % 4294967296)) w := by
  have e : x.tmod 4294967296 = x % 4294967296 := Int.tmod_eq_emod_of_nonneg h
  simp [go_sem, e]

/-- contract of cupelref01.turned -/
theorem turned_any (x : Int) (k : Nat) (h1 : 0 ≤ x) (h2 : x < 4294967296) (hk : 2 ≤ k) (hk2 : k ≤ 31) (w : World) :
    Calls Tryd.prog 68 #[.int .i64 x, .int .i64 k] w fun e w' => e = .returned (.int .i64 (rotr x k)) ∧ Below w.heap.size w w' := by
  have R := Lib.hid (rot_int x k h1 h2 (by omega) hk2)
  have p1 : (1 : Int) ≤ 2 ^ (32 - k) ∧ (2 : Int) ^ (32 - k) ≤ 1073741824 := by
    have q1 : (2 : Nat) ^ (32 - k) ≤ 2 ^ 30 := Nat.pow_le_pow_right (by omega) (by omega)
    have q2 : 1 ≤ (2 : Nat) ^ (32 - k) := Nat.one_le_two_pow
    have e : ((2 : Int) ^ (32 - k)) = ((2 ^ (32 - k) : Nat) : Int) := by simp
    rw [e]; omega
  have m0 : 0 ≤ x * 2 ^ (32 - k) := Int.mul_nonneg h1 (by omega)
  have m1 : x * 2 ^ (32 - k) ≤ 4294967295 * 1073741824 := Int.mul_le_mul (by omega) p1.2 (by omega) (by omega)
  have d0 : 0 ≤ x / 2 ^ k := Int.ediv_nonneg h1 (Int.pow_nonneg (by omega))
  have d1 : x / 2 ^ k ≤ x := Int.ediv_le_self _ h1
  have r1 := run_shr64 x k (by omega)
  have r2 := run_sub64 k (by omega)
  have r3 := run_shl64 x (32 - k) (by omega) m0 (by omega)
  have r4 := run_add64 (x / 2 ^ k) (x * 2 ^ (32 - k)) (by omega) (by omega)
  have r5 := run_rem64 (x / 2 ^ k + x * 2 ^ (32 - k)) (by omega)
  rw [R.out] at r5
  clear R p1 m0 m1 d0 d1
  generalize rotr x k = z at r5 ⊢
  generalize x / 2 ^ k + x * 2 ^ (32 - k) = s at r4 r5
  generalize x * 2 ^ (32 - k) = q at r3 r4
  generalize x / 2 ^ k = p at r1 r4
  generalize 32 - k = j at r2 r3
  go_enter Tryd.func68, Tryd.ntmps68
  go_wp2
  refine wp_region_quiet (C := fun W => Below w.heap.size w W) (by kernel_rfl) (by kernel_rfl) ⟨rfl, rfl, rfl, Nat.le_refl _, fun _ _ => rfl⟩ ?_
  refine q_val _ rfl (fun _ _ => rfl) ?_
  simp only [Act.put, List.setIfInBounds_toArray, List.set_cons_succ, List.set_cons_zero]
  go_big_quiet_step (fail)
  refine q_val (.int .i64 p) rfl (fun W _ => exec_binOp .shr 3 3 (.tmp 5) (.tmp 6) rfl _ _ _ rfl rfl rfl (r1 W)) ?_
  simp only [Act.put, List.setIfInBounds_toArray, List.set_cons_succ, List.set_cons_zero]
  go_big_quiet_step (fail)
  go_big_quiet_step (fail)
  refine q_val (.int .i64 j) rfl (fun W _ => exec_binOp .sub 3 3 (.const (.int .i64 32)) (.tmp 9) rfl _ _ _ rfl rfl rfl (r2 W)) ?_
  simp only [Act.put, List.setIfInBounds_toArray, List.set_cons_succ, List.set_cons_zero]
  refine q_val (.int .i64 q) rfl (fun W _ => exec_binOp .shl 3 3 (.tmp 8) (.tmp 10) rfl _ _ _ rfl rfl rfl (r3 W)) ?_
  simp only [Act.put, List.setIfInBounds_toArray, List.set_cons_succ, List.set_cons_zero]
  refine q_val (.int .i64 s) rfl (fun W _ => exec_binOp .add 3 3 (.tmp 7) (.tmp 11) rfl _ _ _ rfl rfl rfl (r4 W)) ?_
  simp only [Act.put, List.setIfInBounds_toArray, List.set_cons_succ, List.set_cons_zero]
  refine q_val (.int .i64 z) rfl (fun W _ => exec_binOp .rem 3 3 (.tmp 12) (.const (.int .i64 4294967296)) rfl _ _ _ rfl rfl rfl (r5 W)) ?_
  simp only [Act.put, List.setIfInBounds_toArray, List.set_cons_succ, List.set_cons_zero]
  go_big_quiet_step (fail)
  refine wpQuiet_nil ?_
  intro W hW
  have HW := Lib.hid hW
  clear r1 r2 r3 r4 r5 hW
  go_wp2
  go_ret
  exact ⟨rfl, HW.out⟩
end
section
open Go.ChangeShapes Go.WideShapes Go.ChangeAt Go.RowKit
set_option maxRecDepth 100000
structure Kept (w : World) (g : Nat) (cs : Array Value) (t : TypeId) (W : World) : Prop where
  below : Below w.heap.size w W
  ge : w.heap.size ≤ g
  lt : g < W.heap.size
  row : W.heap[g]? = some (.cells cs t (0, 0))
theorem Kept.next {w : World} {g : Nat} {cs : Array Value} {t : TypeId} {W V : World} (h : Kept w g cs t W) (hb : Below W.heap.size W V) : Kept w g cs t V :=
  ⟨h.below.trans (hb.mono h.below.size), h.ge, Nat.lt_of_lt_of_le h.lt hb.size, by rw [hb.block _ h.lt]; exact h.row⟩
theorem Kept.cell {w : World} {g : Nat} {cs : Array Value} {t : TypeId} {W : World} (h : Kept w g cs t W) (i : Nat) : W.cell? ⟨g, i, none⟩ = cs[i]? := by
  rw [cell_of_row _ _ _ _ _ _ h.row]
theorem cf34 (vs : Array Value) (W : World) : (callFunc 68 vs).run Tryd.prog W = .ok (.enter 68 vs) W := cf Tryd.func68 (by kernel_rfl) (by kernel_rfl) vs W

theorem exec_load_int {a : Act} {o : Oper} {W : World} (x : Operand) (ho : o.op = .load 3 x) (g i : Nat) (z : Int) (hx : a.eval x = .pointer (some ⟨g, i, none⟩)) (hc : W.cell? ⟨g, i, none⟩ = some (.int .i64 z)) : (execOp a.eval o).run Tryd.prog W = .ok (.value (.int .i64 z)) W := by
  unfold execOp
  simp only [ho, hx, Instr.loadAt, Instr.sureAddr, Sem.run_bind, Sem.run_pure, Result.andThen_ok]
  simp [go_sem, hc]
theorem rotr_in (x : Int) (k : Nat) (h1 : 0 ≤ x) (h2 : x < 4294967296) (hk : 1 ≤ k) (hk2 : k ≤ 31) : 0 ≤ rotr x k ∧ rotr x k < 4294967296 := by
  rw [← rot_int x k h1 h2 hk hk2]; omega
theorem xor_in (a b : Int) (h1 : 0 ≤ a) (h2 : a < 4294967296) (h3 : 0 ≤ b) (h4 : b < 4294967296) : 0 ≤ bits .xor .u32 a b ∧ bits .xor .u32 a b < 4294967296 := by
  rw [u32_xor a b h1 h2 h3 h4]
  have := Nat.xor_lt_two_pow (n := 32) (x := a.toNat) (y := b.toNat) (by omega) (by omega)
  omega
theorem and_in (a b : Int) (h1 : 0 ≤ a) (h2 : a < 4294967296) (h3 : 0 ≤ b) (h4 : b < 4294967296) : 0 ≤ bits .and .u32 a b ∧ bits .and .u32 a b < 4294967296 := by
  rw [u32_and a b h1 h2 h3 h4]
  have := Nat.and_lt_two_pow (n := 32) a.toNat (y := b.toNat) (by omega)
  omega
theorem run_xor64 (a b : Int) (h1 : 0 ≤ a) (h2 : a < 4294967296) (h3 : 0 ≤ b) (h4 : b < 4294967296) (w : World) : (binOp .xor 3 (.int .i64 a) (.int .i64 b)).run Tryd.prog w = .ok (.int .i64 (bits .xor .u32 a b)) w := by
  rw [← i64_xor a b h1 h2 h3 h4]
  simp [go_sem]
theorem exec_call2R {P : Program} {a : Act} {o : Oper} {W : World} (f : FuncId) (x y : Operand) (ats : Array TypeId) (v u : Value) (ho : o.op = .call { callee := .value (.func f), args := #[x, y], argTypes := ats }) (hx : a.eval x = v) (hy : a.eval y = u)
    (hf : (callFunc f #[v, u]).run P W = .ok (.enter f #[v, u]) W) : (execOp a.eval o).run P W = .ok (.enter f #[v, u]) W :=
  exec_call f #[x, y] ats #[v, u] ho (by simp [hx, hy]) hf

def thr (x : Int) (a b c : Nat) (down : Bool) : Int := bits .xor .u32 (bits .xor .u32 (rotr x a) (rotr x b)) (if down then x / 2 ^ c else rotr x c)
set_option maxHeartbeats 1000000 in
theorem three_any (x : Int) (a b c : Nat) (down : Bool) (h1 : 0 ≤ x) (h2 : x < 4294967296) (ha : 2 ≤ a ∧ a ≤ 31) (hb : 2 ≤ b ∧ b ≤ 31) (hc : 2 ≤ c ∧ c ≤ 31) (w : World) :
    Calls Tryd.prog 55 #[.int .i64 x, .agg #[.int .i64 a, .int .i64 b, .int .i64 c], .bool down] w fun e w' => e = .returned (.int .i64 (thr x a b c down)) ∧ Below w.heap.size w w' := by
  have ca := turned_any x a h1 h2 ha.1 ha.2
  have cb := turned_any x b h1 h2 hb.1 hb.2
  have cc := turned_any x c h1 h2 hc.1 hc.2
  have HBA := Lib.hid (rotr_in x a h1 h2 (by omega) ha.2)
  have HBB := Lib.hid (rotr_in x b h1 h2 (by omega) hb.2)
  have HBC := Lib.hid (rotr_in x c h1 h2 (by omega) hc.2)
  have CA := Lib.hid ca
  have CB := Lib.hid cb
  have CC := Lib.hid cc
  clear ca cb cc
  obtain ⟨T, hT⟩ : ∃ T, thr x a b c down = T := ⟨_, rfl⟩
  rw [hT]
  unfold thr at hT
  have HT := Lib.hid hT
  clear hT
  go_enter Tryd.func55, Tryd.ntmps55
  go_wp2_with fail
  refine gen_world (Q := fun w => Calls _ _ _ w _) _ (fun W => Kept w w.heap.size #[.int .i64 a, .int .i64 b, .int .i64 c] 95 W) ⟨(Below.refl _ _).alloc (Nat.le_refl _) _, Nat.le_refl _, (Array.getElem?_eq_some_iff.1 (heap_alloc_new _ _)).1, heap_alloc_new _ _⟩ ?_
  intro w1 k1
  refine (CC.out w1).mono ?_
  rintro e w2 ⟨rfl, hb2⟩
  have k2 := k1.next hb2
  clear k1 hb2
  have l0 := k2.cell 0
  have l1 := k2.cell 1
  have l2 := k2.cell 2
  have K2 := Lib.hid k2
  clear k2
  obtain ⟨ra, hra⟩ : ∃ r, rotr x a = r := ⟨_, rfl⟩
  obtain ⟨rb, hrb⟩ : ∃ r, rotr x b = r := ⟨_, rfl⟩
  obtain ⟨rc, hrc⟩ : ∃ r, rotr x c = r := ⟨_, rfl⟩
  rw [hra, hrb, hrc] at HT
  rw [hra] at CA HBA
  rw [hrb] at CB HBB
  rw [hrc] at CC HBC ⊢
  have HRA := Lib.hid hra
  clear hra hrb hrc
  have BA := HBA.out
  have BB := HBB.out
  have BC := HBC.out
  have e1 := run_xor64 ra rb BA.1 BA.2 BB.1 BB.2
  have BX := xor_in ra rb BA.1 BA.2 BB.1 BB.2
  have kA : ∀ W, Kept w w.heap.size #[.int .i64 a, .int .i64 b, .int .i64 c] 95 W → Calls Tryd.prog 68 #[.int .i64 x, .int .i64 a] W fun e W' => e = .returned (.int .i64 ra) ∧ Kept w w.heap.size #[.int .i64 a, .int .i64 b, .int .i64 c] 95 W' :=
    fun W hW => (CA.out W).mono fun e W' h => ⟨h.1, hW.next h.2⟩
  have kB : ∀ W, Kept w w.heap.size #[.int .i64 a, .int .i64 b, .int .i64 c] 95 W → Calls Tryd.prog 68 #[.int .i64 x, .int .i64 b] W fun e W' => e = .returned (.int .i64 rb) ∧ Kept w w.heap.size #[.int .i64 a, .int .i64 b, .int .i64 c] 95 W' :=
    fun W hW => (CB.out W).mono fun e W' h => ⟨h.1, hW.next h.2⟩
  have KA := Lib.hid kA
  have KB := Lib.hid kB
  clear kA kB CA CB CC
  have HX2 : ∀ y, 0 ≤ y → y < 4294967296 → ∀ w, (binOp .xor 3 (.int .i64 (bits .xor .u32 ra rb)) (.int .i64 y)).run Tryd.prog w = .ok (.int .i64 (bits .xor .u32 (bits .xor .u32 ra rb) y)) w := fun y h3 h4 => run_xor64 _ y BX.1 BX.2 h3 h4
  have HX3 := Lib.hid HX2
  have HE1 := Lib.hid e1
  clear HX2 e1
  obtain ⟨X, hX⟩ : ∃ X, bits .xor .u32 ra rb = X := ⟨_, rfl⟩
  rw [hX] at HT HX3 HE1
  clear hX BX BA BB
  cases down
  · have HT' : Hid (bits .xor .u32 X rc = T) := HT
    have HE2 := Lib.hid (HX3.out rc BC.1 BC.2)
    clear HT HX3 BC
    obtain ⟨y, hy⟩ : ∃ y, rc = y := ⟨_, rfl⟩
    rw [hy] at HT' HE2 ⊢
    clear hy
    go_wp2_with fail
    refine wp_region_quiet (C := fun W => Kept w w.heap.size #[.int .i64 a, .int .i64 b, .int .i64 c] 95 W) (by kernel_rfl) (by kernel_rfl) (K2.out.next (Below.refl _ _).drew) ?_
    refine q_val _ rfl (fun _ _ => rfl) ?_
    simp only [Act.put, List.setIfInBounds_toArray, List.set_cons_succ, List.set_cons_zero]
    refine q_val (.pointer (some ⟨w.heap.size, 0, none⟩)) rfl (fun _ _ => rfl) ?_
    simp only [Act.put, List.setIfInBounds_toArray, List.set_cons_succ, List.set_cons_zero]
    refine q_val (.int .i64 a) rfl (fun W hW => exec_load_int (.tmp 18) rfl w.heap.size 0 a rfl (hW.cell 0)) ?_
    simp only [Act.put, List.setIfInBounds_toArray, List.set_cons_succ, List.set_cons_zero]
    refine q_call 68 #[.int .i64 x, .int .i64 a] (.int .i64 ra) rfl (fun _ _ => exec_call2R 68 (.tmp 17) (.tmp 19) #[3, 3] _ _ rfl rfl rfl (cf34 _ _)) (fun W hW => KA.out W hW) ?_
    simp only [Act.put, List.setIfInBounds_toArray, List.set_cons_succ, List.set_cons_zero]
    refine q_val _ rfl (fun _ _ => rfl) ?_
    simp only [Act.put, List.setIfInBounds_toArray, List.set_cons_succ, List.set_cons_zero]
    refine q_val (.pointer (some ⟨w.heap.size, 1, none⟩)) rfl (fun _ _ => rfl) ?_
    simp only [Act.put, List.setIfInBounds_toArray, List.set_cons_succ, List.set_cons_zero]
    refine q_val (.int .i64 b) rfl (fun W hW => exec_load_int (.tmp 22) rfl w.heap.size 1 b rfl (hW.cell 1)) ?_
    simp only [Act.put, List.setIfInBounds_toArray, List.set_cons_succ, List.set_cons_zero]
    refine q_call 68 #[.int .i64 x, .int .i64 b] (.int .i64 rb) rfl (fun _ _ => exec_call2R 68 (.tmp 21) (.tmp 23) #[3, 3] _ _ rfl rfl rfl (cf34 _ _)) (fun W hW => KB.out W hW) ?_
    simp only [Act.put, List.setIfInBounds_toArray, List.set_cons_succ, List.set_cons_zero]
    refine q_val (.int .i64 X) rfl (fun W _ => exec_binOp .xor 3 3 (.tmp 20) (.tmp 24) rfl _ _ _ rfl rfl rfl (HE1.out W)) ?_
    simp only [Act.put, List.setIfInBounds_toArray, List.set_cons_succ, List.set_cons_zero]
    refine q_val (.int .i64 y) rfl (fun _ _ => rfl) ?_
    simp only [Act.put, List.setIfInBounds_toArray, List.set_cons_succ, List.set_cons_zero]
    refine q_val (.int .i64 (bits .xor .u32 X y)) rfl (fun W _ => exec_binOp .xor 3 3 (.tmp 25) (.tmp 26) rfl _ _ _ rfl rfl rfl (HE2.out W)) ?_
    simp only [Act.put, List.setIfInBounds_toArray, List.set_cons_succ, List.set_cons_zero]
    rw [HT'.out]
    refine q_val (.int .i64 T) rfl (fun _ _ => rfl) ?_
    simp only [Act.put, List.setIfInBounds_toArray, List.set_cons_succ, List.set_cons_zero]
    refine wpQuiet_nil ?_
    intro W hW
    have HW := Lib.hid hW.below
    clear hW l0 l1 l2
    go_wp2
    go_ret
    exact ⟨rfl, HW.out⟩
  · have HT' : Hid (bits .xor .u32 X (x / 2 ^ c) = T) := HT
    have d0 : 0 ≤ x / 2 ^ c := Int.ediv_nonneg h1 (Int.pow_nonneg (by omega))
    have d1 : x / 2 ^ c ≤ x := Int.ediv_le_self _ h1
    have HE2 := Lib.hid (HX3.out (x / 2 ^ c) d0 (by omega))
    clear HT HX3 BC d0 d1
    have r1 := run_shr64 x c (by omega)
    obtain ⟨y, hy⟩ : ∃ y, x / 2 ^ c = y := ⟨_, rfl⟩
    rw [hy] at HT' HE2 r1
    go_wp2_with fail
    clear hy r1
    refine wp_region_quiet (C := fun W => Kept w w.heap.size #[.int .i64 a, .int .i64 b, .int .i64 c] 95 W) (by kernel_rfl) (by kernel_rfl) (K2.out.next (Below.refl _ _).drew) ?_
    refine q_val _ rfl (fun _ _ => rfl) ?_
    simp only [Act.put, List.setIfInBounds_toArray, List.set_cons_succ, List.set_cons_zero]
    refine q_val (.pointer (some ⟨w.heap.size, 0, none⟩)) rfl (fun _ _ => rfl) ?_
    simp only [Act.put, List.setIfInBounds_toArray, List.set_cons_succ, List.set_cons_zero]
    refine q_val (.int .i64 a) rfl (fun W hW => exec_load_int (.tmp 18) rfl w.heap.size 0 a rfl (hW.cell 0)) ?_
    simp only [Act.put, List.setIfInBounds_toArray, List.set_cons_succ, List.set_cons_zero]
    refine q_call 68 #[.int .i64 x, .int .i64 a] (.int .i64 ra) rfl (fun _ _ => exec_call2R 68 (.tmp 17) (.tmp 19) #[3, 3] _ _ rfl rfl rfl (cf34 _ _)) (fun W hW => KA.out W hW) ?_
    simp only [Act.put, List.setIfInBounds_toArray, List.set_cons_succ, List.set_cons_zero]
    refine q_val _ rfl (fun _ _ => rfl) ?_
    simp only [Act.put, List.setIfInBounds_toArray, List.set_cons_succ, List.set_cons_zero]
    refine q_val (.pointer (some ⟨w.heap.size, 1, none⟩)) rfl (fun _ _ => rfl) ?_
    simp only [Act.put, List.setIfInBounds_toArray, List.set_cons_succ, List.set_cons_zero]
    refine q_val (.int .i64 b) rfl (fun W hW => exec_load_int (.tmp 22) rfl w.heap.size 1 b rfl (hW.cell 1)) ?_
    simp only [Act.put, List.setIfInBounds_toArray, List.set_cons_succ, List.set_cons_zero]
    refine q_call 68 #[.int .i64 x, .int .i64 b] (.int .i64 rb) rfl (fun _ _ => exec_call2R 68 (.tmp 21) (.tmp 23) #[3, 3] _ _ rfl rfl rfl (cf34 _ _)) (fun W hW => KB.out W hW) ?_
    simp only [Act.put, List.setIfInBounds_toArray, List.set_cons_succ, List.set_cons_zero]
    refine q_val (.int .i64 X) rfl (fun W _ => exec_binOp .xor 3 3 (.tmp 20) (.tmp 24) rfl _ _ _ rfl rfl rfl (HE1.out W)) ?_
    simp only [Act.put, List.setIfInBounds_toArray, List.set_cons_succ, List.set_cons_zero]
    refine q_val (.int .i64 y) rfl (fun _ _ => rfl) ?_
    simp only [Act.put, List.setIfInBounds_toArray, List.set_cons_succ, List.set_cons_zero]
    refine q_val (.int .i64 (bits .xor .u32 X y)) rfl (fun W _ => exec_binOp .xor 3 3 (.tmp 25) (.tmp 26) rfl _ _ _ rfl rfl rfl (HE2.out W)) ?_
    simp only [Act.put, List.setIfInBounds_toArray, List.set_cons_succ, List.set_cons_zero]
    rw [HT'.out]
    refine q_val (.int .i64 T) rfl (fun _ _ => rfl) ?_
    simp only [Act.put, List.setIfInBounds_toArray, List.set_cons_succ, List.set_cons_zero]
    refine wpQuiet_nil ?_
    intro W hW
    have HW := Lib.hid hW.below
    clear hW l0 l1 l2
    go_wp2
    go_ret
    exact ⟨rfl, HW.out⟩
end
section
open Go.RowKit
set_option maxRecDepth 100000
/-- how many noughts behind the 128 -/
def zn (m : Nat) : Nat := (119 - m % 64) % 64
/-- the eight bytes of how many bits -/
def tail8 (n : Nat) : List Int := padn (List.replicate 8 0) 8 n 8
/-- bytes, filled up -/
def full (l : List Int) (n : Nat) : List Int := l ++ (128 :: List.replicate (zn l.length) 0 ++ tail8 n)
theorem padn_take (f : List Int) (E n : Nat) : ∀ k, (padn f E n k).take E = padn (f.take E) E n k
  | 0 => rfl
  | k + 1 => by simp only [padn, List.take_set, padn_take f E n k]
theorem padn_append (A B : List Int) (E n : Nat) (hA : A.length + 8 = E) : ∀ k, k ≤ 8 → padn (A ++ B) E n k = A ++ padn B 8 n k
  | 0, _ => rfl
  | k + 1, hk => by
    simp only [padn]
    rw [padn_append A B E n hA k (by omega), List.set_append_right _ _ (by omega), show E - 1 - k - A.length = 8 - 1 - k by omega]
theorem pad1_eq (l : List Int) (h : l.length < 128) : pad1 l = l ++ (128 :: List.replicate (127 - l.length) 0) := by
  unfold pad1 pad0
  rw [List.set_append_right _ _ (by omega), Nat.sub_self, show 128 - l.length = (127 - l.length) + 1 by omega, List.replicate_succ, List.set_cons_zero]
theorem padded_eq (l : List Int) (n : Nat) (h : l.length < 64) : padded l n = full l n := by
  have hE : padE l.length = l.length + 1 + zn l.length + 8 ∧ padE l.length ≤ 128 := by
    unfold padE zn
    split <;> omega
  unfold padded full
  generalize padE l.length = E at hE
  rw [padn_take, pad1_eq l (by omega)]
  have e : (l ++ (128 :: List.replicate (127 - l.length) 0)).take E = (l ++ 128 :: List.replicate (zn l.length) 0) ++ List.replicate 8 (0 : Int) := by
    rw [List.take_append, List.take_of_length_le (by omega), List.append_assoc, List.cons_append, List.replicate_append_replicate]
    rw [show E - l.length = (zn l.length + 8) + 1 by omega, List.take_succ_cons, List.take_replicate]
    rw [show min (zn l.length + 8) (127 - l.length) = zn l.length + 8 by omega]
  rw [e, padn_append _ _ E n (by simp; omega) 8 (Nat.le_refl _)]
  simp only [tail8, List.append_assoc, List.cons_append]
theorem absorb_join : ∀ (m : Nat) (s : St) (l x : List Int), l.length ≤ m → absorb s (l ++ x) = absorb (absorb s l) (rest l ++ x)
  | m, s, l, x, h => by
    by_cases hl : l.length < 64
    · rw [absorb_few s l hl, rest_few l hl]
    · match m, h with
      | 0, h => omega
      | m + 1, h =>
        rw [absorb_more s (l ++ x) (by simp; omega), absorb_more s l (by omega), rest_more l (by omega)]
        rw [List.take_append_of_le_length (by omega), List.drop_append_of_le_length (by omega)]
        exact absorb_join m _ _ x (by simp; omega)
/-- the digest, out of all bytes filled up -/
theorem sum_full (l : List Int) : sum l = (absorb start (full l l.length)).digest := by
  unfold sum fin
  have hr := rest_length l
  rw [padded_eq _ _ (by omega)]
  have e : zn (rest l).length = zn l.length := by unfold zn; omega
  unfold full
  rw [e, absorb_join l.length start l _ (Nat.le_refl _)]
theorem full_length (l : List Int) (n : Nat) : (full l n).length = l.length + 9 + zn l.length := by
  simp [full, tail8, padn_length]; omega
theorem full_whole (l : List Int) (n : Nat) : (full l n).length % 64 = 0 := by
  rw [full_length]; unfold zn; omega
end
section
open Go.ChangeShapes Go.WideShapes Go.ChangeAt Go.RowKit
set_option maxRecDepth 100000
theorem or_add (a b k : Nat) (ha : a % 2 ^ k = 0) (hb : b < 2 ^ k) (ha2 : a < 4294967296) (hb2 : b < 4294967296) : bits .or .u32 (a : Int) (b : Int) = ((a + b : Nat) : Int) := by
  rw [u32_or_nat a b ha2 hb2, nat_join k a b ha hb]
/-- a word out of four bytes, as a sum -/
theorem word_sum (b0 b1 b2 b3 : Int) (h0 : 0 ≤ b0 ∧ b0 < 256) (h1 : 0 ≤ b1 ∧ b1 < 256) (h2 : 0 ≤ b2 ∧ b2 < 256) (h3 : 0 ≤ b3 ∧ b3 < 256) : word b0 b1 b2 b3 = b0 * 16777216 + b1 * 65536 + b2 * 256 + b3 := by
  obtain ⟨n0, rfl⟩ := Int.eq_ofNat_of_zero_le h0.1
  obtain ⟨n1, rfl⟩ := Int.eq_ofNat_of_zero_le h1.1
  obtain ⟨n2, rfl⟩ := Int.eq_ofNat_of_zero_le h2.1
  obtain ⟨n3, rfl⟩ := Int.eq_ofNat_of_zero_le h3.1
  unfold word
  rw [show (n0 : Int) % 4294967296 * 16777216 % 4294967296 = ((n0 * 16777216 : Nat) : Int) by omega, show (n1 : Int) % 4294967296 * 65536 % 4294967296 = ((n1 * 65536 : Nat) : Int) by omega,
    show (n2 : Int) % 4294967296 * 256 % 4294967296 = ((n2 * 256 : Nat) : Int) by omega, show (n3 : Int) % 4294967296 = ((n3 : Nat) : Int) by omega]
  rw [or_add _ _ 24 (by omega) (by omega) (by omega) (by omega), or_add _ _ 16 (by omega) (by omega) (by omega) (by omega), or_add _ _ 8 (by omega) (by omega) (by omega) (by omega)]
  omega
theorem thr_sig1 (x : Int) : thr x 17 19 10 true = sig1 x := rfl
theorem thr_sig0 (x : Int) : thr x 7 18 3 true = sig0 x := rfl
theorem thr_bsig1 (x : Int) : thr x 6 11 25 false = bsig1 x := rfl
theorem thr_bsig0 (x : Int) : thr x 2 13 22 false = bsig0 x := rfl
/-- a number of 32 bits -/
def W32 (x : Int) : Prop := 0 ≤ x ∧ x < 4294967296
theorem thr_in (x : Int) (a b c : Nat) (d : Bool) (h : W32 x) (ha : 2 ≤ a ∧ a ≤ 31) (hb : 2 ≤ b ∧ b ≤ 31) (hc : 2 ≤ c ∧ c ≤ 31) : W32 (thr x a b c d) := by
  have r1 := rotr_in x a h.1 h.2 (by omega) ha.2
  have r2 := rotr_in x b h.1 h.2 (by omega) hb.2
  have r3 := rotr_in x c h.1 h.2 (by omega) hc.2
  have r4 := xor_in _ _ r1.1 r1.2 r2.1 r2.2
  unfold thr
  cases d
  · exact xor_in _ _ r4.1 r4.2 r3.1 r3.2
  · have d0 : 0 ≤ x / 2 ^ c := Int.ediv_nonneg h.1 (Int.pow_nonneg (by omega))
    have d1 : x / 2 ^ c ≤ x := Int.ediv_le_self _ h.1
    have h2 := h.2
    exact xor_in _ _ r4.1 r4.2 d0 (by omega)
theorem choice_in (e f g : Int) (he : W32 e) (hf : W32 f) (hg : W32 g) : W32 (choice e f g) := by
  have a1 := and_in e f he.1 he.2 hf.1 hf.2
  have a2 := xor_in 4294967295 e (by omega) (by omega) he.1 he.2
  have a3 := and_in _ g a2.1 a2.2 hg.1 hg.2
  exact xor_in _ _ a1.1 a1.2 a3.1 a3.2
theorem majority_in (a b c : Int) (ha : W32 a) (hb : W32 b) (hc : W32 c) : W32 (majority a b c) := by
  have a1 := and_in a b ha.1 ha.2 hb.1 hb.2
  have a2 := and_in a c ha.1 ha.2 hc.1 hc.2
  have a3 := and_in b c hb.1 hb.2 hc.1 hc.2
  have a4 := xor_in _ _ a1.1 a1.2 a2.1 a2.2
  exact xor_in _ _ a4.1 a4.2 a3.1 a3.2
/-- the reference's choice and majority, in 64 bits -/
theorem choice64 (e f g : Int) (he : W32 e) (hf : W32 f) (hg : W32 g) : bits .xor .i64 (bits .and .i64 e f) (bits .and .i64 (4294967295 - e) g) = choice e f g := by
  have h1 := he.1
  have h2 := he.2
  have a1 := and_in e f he.1 he.2 hf.1 hf.2
  have a2 := xor_in 4294967295 e (by omega) (by omega) he.1 he.2
  have a3 := and_in _ g a2.1 a2.2 hg.1 hg.2
  unfold choice
  rw [u32_not e he.1 he.2] at a3 ⊢
  rw [i64_and e f he.1 he.2 hf.1 hf.2, i64_and _ g (by omega) (by omega) hg.1 hg.2, i64_xor _ _ a1.1 a1.2 a3.1 a3.2]
theorem majority64 (a b c : Int) (ha : W32 a) (hb : W32 b) (hc : W32 c) : bits .xor .i64 (bits .xor .i64 (bits .and .i64 a b) (bits .and .i64 a c)) (bits .and .i64 b c) = majority a b c := by
  have a1 := and_in a b ha.1 ha.2 hb.1 hb.2
  have a2 := and_in a c ha.1 ha.2 hc.1 hc.2
  have a3 := and_in b c hb.1 hb.2 hc.1 hc.2
  have a4 := xor_in _ _ a1.1 a1.2 a2.1 a2.2
  unfold majority
  rw [i64_and a b ha.1 ha.2 hb.1 hb.2, i64_and a c ha.1 ha.2 hc.1 hc.2, i64_and b c hb.1 hb.2 hc.1 hc.2, i64_xor _ _ a1.1 a1.2 a2.1 a2.2, i64_xor _ _ a4.1 a4.2 a3.1 a3.2]
/-- a round's sums may be taken modulo 2^32 late -/
theorem step_late (s : St) (k x p q : Int) (hp : p = s.h + bsig1 s.e + choice s.e s.f s.g + k + x) (hq : q = bsig0 s.a + majority s.a s.b s.c) :
    s.step k x = ⟨(p + q) % 4294967296, s.a, s.b, s.c, (s.d + p) % 4294967296, s.e, s.f, s.g⟩ := by
  unfold St.step St.pp St.qq
  rw [← hp, ← hq]
  congr 1 <;> omega
end
section
open Go.ChangeShapes Go.WideShapes Go.ChangeAt Go.RowKit
set_option maxRecDepth 100000
/-- a row of bytes of the call's own -/
structure Out (w : World) (v : Value) (n : Nat) (xs : List Int) (W : World) : Prop where
  own : W.ownsRow w.heap.size 5 1 v n (xs.map (Value.int .u8))
  below : Below w.heap.size w W
theorem Bytes.one (w : World) (z : Int) (fr : Nat × Nat) : Bytes (w.alloc (.cells #[.int .u8 z] 5 fr)) (some ⟨w.heap.size, 0, none⟩) 1 [z] := by
  refine ⟨Nat.le_refl _, by unfold maxLen; omega, fun _ => ⟨_, _, rfl, fun i hi => ?_⟩⟩
  rw [Nat.zero_add, cell_of_row _ _ _ _ _ _ (heap_alloc_new _ _)]
  exact rowB_get [z] i hi
/-- append of one byte -/
theorem wpList_push {w W : World} {ops : Array Oper} {rest : List Oper} {o : Oper} {a : Act} {Q : Exit → Act → World → Prop} {v : Value} {n : Nat} {xs : List Int} {z : Int} {fr : Nat × Nat} (h : Out w v n xs W) (hgd : o.guard = none) (s x : Operand)
    (ho : o.op = .call { callee := .builtin .append, args := #[s, x], argTypes := #[57, 57] }) (hs : a.eval s = v) (hx : a.eval x = .slice (some ⟨W.heap.size, 0, none⟩) 1 1) (hn : n + 1 ≤ 1000000)
    (k : ∀ sp cap W', Out w (.slice sp (n + 1) cap) (n + 1) (xs ++ [z]) W' → wpList Tryd.prog ops Q rest (a.put o.dst (.slice sp (n + 1) cap)) W') : wpList Tryd.prog ops Q (o :: rest) a (W.alloc (.cells #[.int .u8 z] 5 fr)) := by
  have hsz := h.below.size
  refine wpList_append_bytes hgd s x ho w.heap.size v n 1 xs [z] hs (h.own.alloc _) _ 1 hx rfl (Bytes.one W z fr) (fun e => by cases e) hn (by simp; omega) ?_
  intro v' w' hown hg
  obtain ⟨sp, cap, rfl, _⟩ := own_bytes hown
  exact k sp cap w' ⟨hown, (h.below.alloc hsz _).trans (Below.ofGrown hg (by simp; omega) (fun k e => (h.own.lt k e).1))⟩

theorem tail8_length (n : Nat) : (tail8 n).length = 8 := by simp [tail8, padn_length]
theorem tail8_at (n : Nat) : ∀ k, k < 8 → (tail8 n)[k]? = some (8 * (n : Int) / 2 ^ (8 * (7 - k)) % 256)
  | 0, _ => by simp [tail8, padn, Int.mul_comm]
  | 1, _ => by simp [tail8, padn, Int.mul_comm]
  | 2, _ => by simp [tail8, padn, Int.mul_comm]
  | 3, _ => by simp [tail8, padn, Int.mul_comm]
  | 4, _ => by simp [tail8, padn, Int.mul_comm]
  | 5, _ => by simp [tail8, padn, Int.mul_comm]
  | 6, _ => by simp [tail8, padn, Int.mul_comm]
  | 7, _ => by simp [tail8, padn, Int.mul_comm]
  | k + 8, h => absurd h (by omega)
theorem tail8_take (n k : Nat) (hk : k < 8) : (tail8 n).take (k + 1) = (tail8 n).take k ++ [8 * (n : Int) / 2 ^ (8 * (7 - k)) % 256] := by
  rw [List.take_add_one, tail8_at n k hk]
  rfl
def lenV : Value → Nat | .slice _ n _ => n | _ => 0
end
section
open Go.ChangeShapes Go.WideShapes Go.ChangeAt Go.RowKit
set_option maxRecDepth 100000
theorem run_quo (B P : Int) (h1 : 0 ≤ B) (h2 : B ≤ 1152921504606846975) (h3 : 1 ≤ P) (w : World) : (binOp .quo 3 (.int .i64 B) (.int .i64 P)).run Tryd.prog w = .ok (.int .i64 (B / P)) w := by
  have a := Int.ediv_nonneg h1 (show 0 ≤ P by omega)
  have b := Int.ediv_le_self P h1
  have c : B.tdiv P = B / P := Int.tdiv_eq_ediv_of_nonneg h1
  have d : ¬ P = 0 := by omega
  have e : IntKind.i64.wrap (B / P) = B / P := by simp [IntKind.wrap, IntKind.bits, IntKind.signed]; omega
  simp [go_sem, binOp, d, c, e]
end
section
open Go.ChangeShapes Go.WideShapes Go.ChangeAt Go.RowKit
set_option maxRecDepth 100000
set_option maxRecDepth 100000 in
set_option maxHeartbeats 2000000 in
theorem filled_any (w : World) (sp : Option Addr) (m cap : Nat) (l : List Int) (hm : l.length = m) (hb : Bytes w sp cap l) (hz : sp = none → cap = 0) (hn : m ≤ 900000) :
    Calls Tryd.prog 41 #[.slice sp m cap] w fun e w' => ∃ sp' cap', e = .returned (.slice sp' (m + 9 + zn m) cap') ∧ Out w (.slice sp' (m + 9 + zn m) cap') (m + 9 + zn m) (full l m) w' := by
  have HM := Lib.hid hm
  have HB := Lib.hid hb
  clear hm hb
  go_enter Tryd.func41, Tryd.ntmps41
  go_upto_region 3 with (refine wpList_append_bytes rfl (.tmp 6) (.tmp 7) rfl w.heap.size (.slice none 0 0) 0 m [] l rfl (World.ownsRow_nil _ _ _ _) sp cap rfl HM.out HB.out hz (by omega) (Nat.le_refl _) ?_; intro v1 w1 hown1 hg1)
  simp only [Nat.zero_add, List.nil_append] at hown1
  obtain ⟨s1, c1, rfl, _, _, _, _⟩ := own_bytes hown1
  have O1 := Lib.hid (show Out w (.slice s1 m c1) m l w1 from ⟨hown1, Below.ofGrown hg1 (Nat.le_refl _) (fun k e => by cases e)⟩)
  clear hown1 hg1
  go_wp2_with (refine wpList_push O1.out rfl (.tmp 9) (.tmp 10) rfl rfl rfl (by omega) ?_; intro s2 c2 w2 o2)
  have O2 := Lib.hid o2
  clear o2 O1
  go_loopw [3] (fun v wr => ∃ j n : Nat, j ≤ zn m ∧ n = m + 1 + j ∧ ∃ s c, v = .slice s n c ∧ Out w (.slice s n c) n (l ++ (128 :: List.replicate j 0)) wr) (fun v _ => m + 1 + zn m - lenV v)
  case atStart => exact ⟨0, m + 1, by omega, by omega, s2, c2, rfl, O2.out⟩
  case round =>
    obtain ⟨j, n, hj, hnj, s3, c3, rfl, o3⟩ := hrel
    have O3 := Lib.hid o3
    clear o3
    have hzn : zn m = (119 - m % 64) % 64 := rfl
    by_cases hlt : j < zn m
    · have hne : ((n : Int) % 64 == 56) = false := by simp; omega
      have htm : (n : Int).tmod 64 = (n : Int) % 64 := Int.tmod_eq_emod_of_nonneg (by omega)
      go_wp2_with (refine wpList_push O3.out rfl (.tmp 16) (.tmp 17) rfl rfl rfl (by omega) ?_; intro s4 c4 w4 o4)
      have O4 := Lib.hid o4
      clear o4 O3
      go_roundw
      case rel =>
        refine ⟨j + 1, m + 1 + j + 1, by omega, by omega, s4, c4, rfl, ?_⟩
        have := O4.out
        rw [hnj] at this
        rw [List.replicate_succ']
        simpa using this
      case measure => simp only [lenV]; omega
    · obtain rfl : j = zn m := by omega
      have hne : ((n : Int) % 64 == 56) = true := by simp; omega
      have htm : (n : Int).tmod 64 = (n : Int) % 64 := Int.tmod_eq_emod_of_nonneg (by omega)
      have HNj := Lib.hid hnj
      have hzb : zn m ≤ 63 := by omega
      have hnb : n ≤ 1000000 - 70 := by omega
      clear hnj hzn hj hlt
      obtain ⟨z, hz⟩ : ∃ z, (n : Int) % 64 = z := ⟨_, rfl⟩
      rw [hz] at hne htm
      have hnz : (z != 56) = false := by have := hne; simp at this; simp [this]
      clear hz
      go_wp2
      have O5 := Lib.hid O3.out
      clear O3 hne htm O2 hnz
      go_loopw [3, 5] (fun v i wr => ∃ k n' : Nat, k ≤ 8 ∧ n' = n + k ∧ i = .int .i64 (7 - k) ∧ ∃ s c, v = .slice s n' c ∧ Out w (.slice s n' c) n' (l ++ (128 :: List.replicate (zn m) 0) ++ (tail8 m).take k) wr) (fun _ i _ => (intOf i + 1).toNat)
      case atStart => exact ⟨0, n, by omega, by omega, rfl, s3, c3, rfl, by simpa using O5.out⟩
      case round =>
        obtain ⟨k, n', hk, hnk, rfl, s6, c6, rfl, o6⟩ := hrel
        have O6 := Lib.hid o6
        clear o6
        by_cases hlt : k < 8
        · have HTk := Lib.hid (tail8_take m k hlt)
          obtain ⟨e, he⟩ : ∃ e, e = 7 - k := ⟨_, rfl⟩
          rw [← he] at HTk
          have hke : (7 : Int) - (k : Int) = (e : Int) := by omega
          rw [hke]
          have hge : decide ((0 : Int) ≤ (e : Int)) = true := by simp
          have he7 : e ≤ 7 := by omega
          have HKe := Lib.hid (show k + e = 7 by omega)
          clear hke he
          have pw : ∀ w, Calls Tryd.prog 43 #[.int .i64 (8 * (e : Int))] w fun x w' => x = .returned (.int .i64 (2 ^ (8 * e))) ∧ w = w' := fun w => by
            have := power_any (8 * e) (by omega) w
            rwa [show ((8 * e : Nat) : Int) = 8 * (e : Int) by omega] at this
          obtain ⟨p1, p2⟩ := pow_le (8 * e) (by omega)
          obtain ⟨P, hP⟩ : ∃ P : Int, 2 ^ (8 * e) = P := ⟨_, rfl⟩
          rw [hP] at pw p1 p2 HTk
          clear hP
          have PW := Lib.hid pw
          clear pw
          obtain ⟨B, hB⟩ : ∃ B : Int, 8 * (m : Int) = B := ⟨_, rfl⟩
          have hB0 : 0 ≤ B := by omega
          have hB1 : B ≤ 7200000 := by omega
          rw [hB] at HTk ⊢
          have kq := run_quo B P hB0 (by omega) (by omega)
          have q0 : 0 ≤ B / P := Int.ediv_nonneg hB0 (by omega)
          have q1 : B / P ≤ 7200000 := Int.le_trans (Int.ediv_le_self _ hB0) hB1
          obtain ⟨Qv, hQ⟩ : ∃ Q, B / P = Q := ⟨_, rfl⟩
          rw [hQ] at HTk kq q0 q1
          have HQ := Lib.hid hQ
          clear hQ hB
          obtain ⟨X, hX⟩ : ∃ X, l ++ (128 :: List.replicate (zn m) 0) ++ (tail8 m).take k = X := ⟨_, rfl⟩
          rw [hX] at O6
          have HX := Lib.hid hX
          clear hX
          have hkk : n' + 1 ≤ 1000000 := by omega
          have HNk := Lib.hid hnk
          clear hnk
          go_wp2_with fail
          refine (PW.out _).mono ?_
          rintro _ _ ⟨rfl, rfl⟩
          go_wp2_with (refine wpList_push O6.out rfl (.tmp 26) (.tmp 34) rfl rfl rfl hkk ?_; intro s7 c7 w7 o7)
          have O7 := Lib.hid o7
          clear o7 O6 kq
          go_roundw
          case rel =>
            refine ⟨k + 1, n' + 1, by omega, by have := HNk.out; omega, ?_, s7, c7, rfl, ?_⟩
            · rw [show (7 : Int) - ((k + 1 : Nat) : Int) = (e : Int) - 1 by have := HKe.out; omega]
            · rw [HTk.out, ← List.append_assoc, HX.out]
              have := O7.out
              rw [HQ.out, Int.tmod_eq_emod_of_nonneg q0, Int.emod_emod] at this
              exact this
          case measure => simp only [intOf]; omega
        · obtain rfl : k = 8 := by omega
          have hge : decide ((0 : Int) ≤ 7 - ((8 : Nat) : Int)) = false := by decide
          have hn8 : n' = m + 9 + zn m := by have := HNj.out; omega
          have HN8 := Lib.hid hn8
          clear hn8 hnk
          have HF : Hid (l ++ (128 :: List.replicate (zn m) 0) ++ (tail8 m).take 8 = full l m) := by
            refine Lib.hid ?_
            unfold full
            rw [List.take_of_length_le (by rw [tail8_length]; omega), HM.out, List.append_assoc]
          go_wp2
          go_ret
          have := O6.out
          rw [HF.out, HN8.out] at this
          exact ⟨s6, c6, by rw [HN8.out]; rfl, this⟩
end
section
open Go.ChangeShapes Go.WideShapes Go.ChangeAt Go.RowKit
set_option maxRecDepth 100000
/-- a row of whole numbers -/
def rowN (l : List Int) : Array Value := (l.map (Value.int .i64)).toArray
theorem rowN_size (l : List Int) : (rowN l).size = l.length := by simp [rowN]
theorem rowN_get (l : List Int) (i : Nat) (h : i < l.length) : (rowN l)[i]? = some (.int .i64 (l.getD i 0)) := by
  simp [rowN, h, List.getD]
theorem rowN_set (l : List Int) (i : Nat) (x : Int) : (rowN l).setIfInBounds i (.int .i64 x) = rowN (l.set i x) := by
  apply Array.ext'
  simp [rowN]
theorem rowN_one (l : List Int) : (rowN l).all (·.oneCell') = true := by
  simp [rowN, Value.oneCell']
theorem size60 : (Tryd.prog.info? 93).map (·.size) = some 64 := by kernel_rfl
theorem size48 : (Tryd.prog.info? 75).map (·.size) = some 8 := by kernel_rfl
/-- n noughts -/
theorem zero60 (w : World) : (zeroValue 93).run Tryd.prog w = .ok (.agg (rowN (zs 64))) w := by kernel_rfl
theorem zero48 (w : World) : (zeroValue 75).run Tryd.prog w = .ok (.agg (rowN (zs 8))) w := by kernel_rfl
theorem wpList_built {w : World} {ops : Array Oper} {rest : List Oper} {o : Oper} {a : Act} {Q : Exit → Act → World → Prop} (hg : o.guard = none) (t : TypeId) (parts : Array (Nat × Operand)) (ho : o.op = .build t parts) (cs : Array Value)
    (hb : Tryd.prog.built t (parts.map fun (i, x) => (i, a.eval x)).toList = some cs)
    (h : wpList Tryd.prog ops Q rest (a.put o.dst (.agg cs)) w) : wpList Tryd.prog ops Q (o :: rest) a w :=
  wpList_build hg t parts ho (by rw [hb]; rfl) (by rw [hb]; exact h)
theorem kcZ : (Tryd.prog.info? 93).map (·.size) = some (rowN kc).size := by rw [rowN_size]; exact size60
theorem kcY : (rowN (zs 64)).size = (rowN kc).size := by rw [rowN_size, rowN_size]; rfl
set_option maxRecDepth 100000 in
set_option maxHeartbeats 2000000 in
theorem constants_any (w : World) : Calls Tryd.prog 56 #[] w fun e w' => e = .returned (.agg (rowN kc)) ∧ Below w.heap.size w w' := by
  have hz60 := zero60
  have HZ := Lib.hid kcZ
  have HY := Lib.hid kcY
  have HX := Lib.hid (rowN_one kc)
  go_enter Tryd.func56, Tryd.ntmps56
  go_upto_region 1 with fail
  clear hz60
  go_wp2_with (first
    | (refine wpList_built rfl 93 _ rfl (rowN kc) (by kernel_rfl) ?_)
    | (refine wpList_store_row rfl 93 (.tmp 0) (.tmp 1) rfl w.heap.size (rowN kc) rfl rfl 93 _ (heap_alloc_new _ _) HZ.out HY.out HX.out ?_))
  exact bodyPost_ret (v := .agg (rowN kc)) (results_cell_row Tryd.results56 _ _ w.heap.size 93 (rowN kc) (0, 0) _ rfl (setRow_heap _ _ _ _ _ _ (heap_alloc_new _ _)) Tryd.underlying93 rfl HZ.out) rfl ⟨rfl, below_setRow ((Below.refl _ _).alloc (Nat.le_refl _) _) (Nat.le_refl _) _⟩
end
section
open Go.ChangeShapes Go.WideShapes Go.ChangeAt Go.RowKit
set_option maxRecDepth 100000
/-- the first n operations come up in whatever order, each quiet in the class; those behind them wait -/
def HeadsR (P : Program) (ops : Array Oper) (C : World → Prop) (n : Nat) (L : Array Bool → Act → Prop) : Nat → Array Bool → Act → Prop
  | 0, listed, a => L listed a
  | f + 1, listed, a => Region.ready .any ops listed ≠ [] ∧ ∀ i ∈ Region.ready .any ops listed, i < n ∧ qOp P ops C i (HeadsR P ops C n L f (listed.setIfInBounds i true)) a
section
variable {P : Program} {ops : Array Oper} {C : World → Prop}
theorem heads_anyR {n g : Nat} {L : Array Bool → Act → Prop} {Q' : Exit → Act → World → Prop} (hL : ∀ listed a w, C w → L listed a → wpAny P .any ops Q' g listed a w) :
    ∀ (f : Nat) (listed : Array Bool) (a : Act) (w : World), C w → HeadsR P ops C n L f listed a → wpAny P .any ops Q' (f + g) listed a w
  | 0, listed, a, w, hw, h => by rw [Nat.zero_add]; exact hL _ _ _ hw h
  | f + 1, listed, a, w, hw, h => by
    rw [show f + 1 + g = (f + g) + 1 by omega]
    exact ⟨fun h0 => absurd h0 h.1, fun i hi => wpOp_of_qOp hw (fun a' w' hw' h' => heads_anyR hL f _ a' w' hw' h') (h.2 i hi).2⟩
theorem heads_firstR {n i : Nat} {oi : Oper} {v : Value} {L : Array Bool → Act → Prop} (hi : ops[i]? = some oi) (hsel : ∀ (j : Nat) (o : Oper) cs b, ops[j]? = some o → o.op ≠ .select cs b)
    (hs : Region.sinkB .any ops n = true) (hc : Region.chainB .any ops n = true) (hn : n < ops.size) (hin : i < n) (hdone : ∀ listed a, L listed a → ∀ j ∈ Region.ready .any ops listed, n ≤ j) :
    ∀ (f : Nat) (listed : Array Bool) (a : Act), HeadInv .any ops n listed →
      (∀ j oj, ops[j]? = some oj → j ≠ i → listed.getD j true = false → (∀ e ∈ oj.after, Region.binds .any e = true → e.on ≠ i) → oi.apart ops oj = true) →
      i ∈ Region.ready .any ops listed → YieldsIn P ops C oi v a →
      HeadsR P ops C n L f (listed.setIfInBounds i true) (a.put oi.dst v) → HeadsR P ops C n L (f + 1) listed a := by
  intro f
  induction f with
  | zero =>
    intro listed a inv _ hr hy H
    have hun := (mem_ready.1 hr).1
    refine ⟨List.ne_nil_of_mem hr, fun j hj => ?_⟩
    have hjn : j < n := Nat.lt_of_not_le fun h => tail_waits hs hc hn inv _ i rfl hin hun j h hj
    refine ⟨hjn, ?_⟩
    by_cases hji : j = i
    · subst hji; exact hy.qOp hi H
    · exact absurd (hdone _ _ H j (ready_mono hj hji)) (by omega)
  | succ f ih =>
    intro listed a inv hfree hr hy H
    have hun := (mem_ready.1 hr).1
    refine ⟨List.ne_nil_of_mem hr, fun j hj => ?_⟩
    have hjn : j < n := Nat.lt_of_not_le fun h => tail_waits hs hc hn inv _ i rfl hin hun j h hj
    refine ⟨hjn, ?_⟩
    by_cases hji : j = i
    · subst hji; exact hy.qOp hi H
    · obtain ⟨hjun, oj, hoj, hall⟩ := mem_ready.1 hj
      have hnot : ∀ e ∈ oj.after, Region.binds .any e = true → e.on ≠ i := fun e he hb heq => by
        have h1 := hall e he hb
        rw [heq, getD_both hun] at h1
        cases h1
      have h2 := qOp_put hoj (hfree j oj hoj hji hjun hnot) (fun cs b => hsel i oi cs b hi) (fun cs b => hsel j oj cs b hoj) hy (H.2 j (ready_mono hj hji)).2
      refine qOp_mono (fun a' h3 => ih (listed.setIfInBounds j true) a' (inv.set hj hjn) (fun k ok hk hki hkun hno => hfree k ok hk hki ?_ hno) (ready_mono hr (Ne.symm hji)) h3.1 ?_) h2
      · by_cases hjk : j = k
        · subst hjk; exact hjun
        · rw [getD_set_ne true hjk] at hkun; exact hkun
      · rw [Array.setIfInBounds_comm _ _ hji]
        exact h3.2
theorem heads_lexR {n g : Nat} {Lq : Act → Prop} (hsel : Region.noSelect ops = true) (hs : Region.sinkB .any ops n = true) (hc : Region.chainB .any ops n = true) (hn : n < ops.size) :
    ∀ (l : List Oper) (k : Nat) (listed : Array Bool) (a : Act), (∀ j, j < l.length → l[j]? = ops[k + j]?) → k + l.length = n → HeadInv .any ops n listed →
    Region.lexHead .any ops g l.length k listed = true → wpQuiet P ops C Lq l a →
    HeadsR P ops C n (fun listed' a' => Region.seqB .any ops g n listed' = true ∧ Lq a') l.length listed a
  | [], k, listed, a, _, hk, _, hB, h => by
    obtain rfl : k = n := by simpa using hk
    exact ⟨by simpa [Region.lexHead] using hB, h⟩
  | o :: l, k, listed, a, hl, hk, inv, hB, h => by
    have h0 : ops[k]? = some o := by simpa using (hl 0 (by simp)).symm
    simp only [List.length_cons, Region.lexHead, Bool.and_eq_true] at hB
    simp only [List.length_cons] at hk
    have hr' : k ∈ Region.ready .any ops listed := by simpa using hB.1.1
    obtain ⟨v, hy, hK⟩ := yieldsIn_of_qOp h0 (show qOp P ops C k (wpQuiet P ops C Lq l) a by unfold qOp; simp only [h0]; exact h)
    exact heads_firstR h0 (Region.noSelect_spec hsel) hs hc hn (by omega) (fun listed' a' hL => seqB_ready hL.1) l.length listed a inv (Region.free_spec h0 hB.1.2) hr' hy
      (heads_lexR hsel hs hc hn l (k + 1) _ _ (fun j hj => by have := hl (j + 1) (by simp; omega); simpa [Nat.add_assoc, Nat.add_comm 1 j] using this) (by omega) (inv.set hr' (by omega)) hB.2 hK)
/-- A region that draws its order: its first n operations are quiet in a class of worlds, the others follow in one order. -/
theorem wp_region_quiet_tailR {id : Nat} {Q : Exit → Act → World → Prop} {a : Act} {w : World} {l : List Oper} (n : Nat) (hm : P.follows .mixedOrders = true) (hB : Region.lexTailB .any l.toArray n = true) (hC : C { w with drawn := w.drawn + 1 })
    (h : wpQuiet P l.toArray C (fun a' => ∀ w', C w' → wpList P l.toArray Q (l.drop n) a' w') (l.take n) a) : (Code.region id l.toArray true).wp P Q a w := by
  simp only [Region.lexTailB, Bool.and_eq_true, decide_eq_true_eq] at hB
  obtain ⟨⟨⟨⟨hsel, hn⟩, hs⟩, hc⟩, hlex⟩ := hB
  have hn' : n < l.length := by simpa using hn
  have htl : (l.take n).length = n := by simp; omega
  have hdl : (l.drop n).length = l.toArray.size - n := by simp
  have inv0 : HeadInv .any l.toArray n (Array.replicate l.toArray.size false) :=
    ⟨by simp, fun j oj _ hl => (by rw [getD_replicate_false] at hl; cases hl), fun t _ ht => getD_in (by simpa using ht) (getD_replicate_false _ _)⟩
  have H := heads_lexR (g := l.toArray.size - n) hsel hs hc hn (l.take n) 0 _ a (fun j hj => by
    have hj' : j < n := by rw [htl] at hj; exact hj
    simp [hj']) (by simpa using htl) inv0 (by rw [htl]; exact hlex) h
  have K := heads_anyR (Q' := Q) (g := l.toArray.size - n) (fun listed a' w' hw' hL => by
    have := wpAny_of_seq (md := .any) (Q' := Q) (l.drop n) n listed a' w' (fun j => by simp [List.getElem?_drop]) (by rw [hdl]; exact hL.1) (hL.2 w' hw')
    rwa [hdl] at this) _ _ _ _ hC H
  rw [htl, show n + (l.toArray.size - n) = l.toArray.size by omega] at K
  exact wp_region_any hm K
end
end
section
open Go.ChangeShapes Go.WideShapes Go.ChangeAt Go.RowKit
set_option maxRecDepth 100000
/-- bytes -/
def rng (l : List Int) : Prop := ∀ x ∈ l, 0 ≤ x ∧ x < 256
/-- all are numbers of 32 bits -/
def allW (l : List Int) : Prop := ∀ x ∈ l, W32 x
theorem allW_get {l : List Int} (h : allW l) (i : Nat) (hi : i < l.length) : W32 (l.getD i 0) := h _ (by simp [hi])
theorem rng_get {l : List Int} (h : rng l) (i : Nat) (hi : i < l.length) : 0 ≤ l.getD i 0 ∧ l.getD i 0 < 256 := h _ (by simp [hi])
theorem first_in (l : List Int) (hr : rng l) : ∀ n, 4 * n ≤ l.length → allW (first l n)
  | 0, _ => fun x hx => by cases hx
  | n + 1, h => by
    intro x hx
    rcases List.mem_append.1 hx with hx | hx
    · exact first_in l hr n (by omega) x hx
    · obtain rfl := List.mem_singleton.1 hx
      have b0 := rng_get hr (4 * n) (by omega)
      have b1 := rng_get hr (4 * n + 1) (by omega)
      have b2 := rng_get hr (4 * n + 2) (by omega)
      have b3 := rng_get hr (4 * n + 3) (by omega)
      rw [word_sum _ _ _ _ b0 b1 b2 b3]
      unfold W32
      omega
theorem ext_in (b : List Int) (hb : allW b) : ∀ n, allW (ext b n)
  | 0 => hb
  | n + 1 => by
    intro x hx
    rcases List.mem_append.1 hx with hx | hx
    · exact ext_in b hb n x hx
    · obtain rfl := List.mem_singleton.1 hx
      unfold next W32
      omega
/-- 64 words, those of ws first -/
def padw (ws : List Int) : List Int := ws ++ zs (64 - ws.length)
theorem padw_length (ws : List Int) (h : ws.length ≤ 64) : (padw ws).length = 64 := by simp [padw, zs]; omega
theorem padw_get (ws : List Int) (i : Nat) (h : i < ws.length) : (padw ws).getD i 0 = ws.getD i 0 := by simp [padw, List.getElem?_append, h]
theorem padw_set (ws : List Int) (x : Int) (h : ws.length < 64) : (padw ws).set ws.length x = padw (ws ++ [x]) := by
  unfold padw zs
  rw [List.length_append, List.length_singleton, show 64 - ws.length = (64 - (ws.length + 1)) + 1 by omega, List.replicate_succ, List.set_append_right _ _ (Nat.le_refl _)]
  simp
/-- the world while the words are made -/
structure Bl (w : World) (s : St) (ws : List Int) (wr : World) : Prop where
  below : Below w.heap.size w wr
  box : wr.heap[w.heap.size]? = some (.cells (rowN s.list) 75 (0, 0))
  res : wr.heap[w.heap.size + 1]? = some (.cells (rowN (zs 8)) 75 (0, 0))
  row : wr.heap[w.heap.size + 2]? = some (.cells (rowN (padw ws)) 93 (0, 0))
section
variable {w wr W : World} {s : St} {ws : List Int}
theorem lt_of_row {g : Nat} {o : Obj} (h : wr.heap[g]? = some o) : g < wr.heap.size := (Array.getElem?_eq_some_iff.1 h).1
theorem Bl.next (h : Bl w s ws wr) (hb : Below wr.heap.size wr W) : Bl w s ws W :=
  ⟨h.below.trans (hb.mono h.below.size), (hb.block _ (lt_of_row h.box)).trans h.box, (hb.block _ (lt_of_row h.res)).trans h.res, (hb.block _ (lt_of_row h.row)).trans h.row⟩
theorem Bl.drew (h : Bl w s ws wr) : Bl w s ws wr.drew := h.next (Below.refl _ _).drew
theorem Bl.cell (h : Bl w s ws wr) (hl : ws.length ≤ 64) (i : Nat) (hi : i < ws.length) : wr.cell? ⟨w.heap.size + 2, i, none⟩ = some (.int .i64 (ws.getD i 0)) := by
  rw [cell_of_row _ _ _ _ _ _ h.row, rowN_get _ _ (by rw [padw_length _ hl]; omega), padw_get _ _ hi]
theorem Bl.some (h : Bl w s ws wr) (hl : ws.length ≤ 64) (i : Nat) (hi : i < 64) : wr.cell? ⟨w.heap.size + 2, i, none⟩ = some (.int .i64 ((padw ws).getD i 0)) := by
  rw [cell_of_row _ _ _ _ _ _ h.row, rowN_get _ _ (by rw [padw_length _ hl]; omega)]
theorem Bl.free (h : Bl w s ws wr) (i : Nat) : wr.frozen? ⟨w.heap.size + 2, i, none⟩ = false := frozen_of_row _ _ _ _ _ h.row
theorem Bl.put (h : Bl w s ws wr) (hl : ws.length < 64) (k : Nat) (hk : ws.length = k) (x : Int) : Bl w s (ws ++ [x]) (wr.setCell ⟨w.heap.size + 2, k, none⟩ (.int .i64 x)) := by
  subst hk
  refine ⟨h.below.setCell (by simp) _, ?_, ?_, ?_⟩
  · rw [heap_setCell_other _ _ _ _ (by simp)]; exact h.box
  · rw [heap_setCell_other _ _ _ _ (by simp)]; exact h.res
  · rw [heap_setCell_same _ _ _ _ _ _ h.row, rowN_set, padw_set _ _ hl]
end
/-- the world while the state is turned: the constants lie at gk, the state at gx -/
structure Bx (w : World) (s : St) (ws : List Int) (gk gx : Nat) (l : List Int) (wr : World) : Prop where
  bl : Bl w s ws wr
  k3 : w.heap.size + 2 < gk
  kx : gk < gx
  con : wr.heap[gk]? = some (.cells (rowN kc) 93 (0, 0))
  st : wr.heap[gx]? = some (.cells (rowN l) 75 (0, 0))
section
variable {w wr W : World} {s : St} {ws l : List Int} {gk gx : Nat}
theorem Bx.next (h : Bx w s ws gk gx l wr) (hb : Below wr.heap.size wr W) : Bx w s ws gk gx l W :=
  ⟨h.bl.next hb, h.k3, h.kx, (hb.block _ (lt_of_row h.con)).trans h.con, (hb.block _ (lt_of_row h.st)).trans h.st⟩
theorem Bx.drew (h : Bx w s ws gk gx l wr) : Bx w s ws gk gx l wr.drew := h.next (Below.refl _ _).drew
theorem Bx.cell (h : Bx w s ws gk gx l wr) (i : Nat) (hi : i < l.length) : wr.cell? ⟨gx, i, none⟩ = some (.int .i64 (l.getD i 0)) := by
  rw [cell_of_row _ _ _ _ _ _ h.st, rowN_get _ _ hi]
theorem Bx.kcell (h : Bx w s ws gk gx l wr) (i : Nat) (hi : i < 64) : wr.cell? ⟨gk, i, none⟩ = some (.int .i64 (kc.getD i 0)) := by
  rw [cell_of_row _ _ _ _ _ _ h.con, rowN_get _ _ hi]
theorem Bx.free (h : Bx w s ws gk gx l wr) (i : Nat) : wr.frozen? ⟨gx, i, none⟩ = false := frozen_of_row _ _ _ _ _ h.st
theorem Bx.put (h : Bx w s ws gk gx l wr) (i : Nat) (x : Int) : Bx w s ws gk gx (l.set i x) (wr.setCell ⟨gx, i, none⟩ (.int .i64 x)) := by
  have h1 := h.k3
  have h2 := h.kx
  refine ⟨⟨h.bl.below.setCell (by simp only; omega) _, ?_, ?_, ?_⟩, h1, h2, ?_, ?_⟩
  · rw [heap_setCell_other _ _ _ _ (by simp only; omega)]; exact h.bl.box
  · rw [heap_setCell_other _ _ _ _ (by simp only; omega)]; exact h.bl.res
  · rw [heap_setCell_other _ _ _ _ (by simp only; omega)]; exact h.bl.row
  · rw [heap_setCell_other _ _ _ _ (by simp only; omega)]; exact h.con
  · rw [heap_setCell_same _ _ _ _ _ _ h.st, rowN_set]
theorem Bx.store (h : Bx w s ws gk gx l wr) (l' : List Int) : Bx w s ws gk gx l' (wr.setRow gx (rowN l')) := by
  have h1 := h.k3
  have h2 := h.kx
  refine ⟨⟨below_setRow h.bl.below (by omega) _, ?_, ?_, ?_⟩, h1, h2, ?_, ?_⟩
  · rw [setRow_other _ _ _ _ (by omega)]; exact h.bl.box
  · rw [setRow_other _ _ _ _ (by omega)]; exact h.bl.res
  · rw [setRow_other _ _ _ _ (by omega)]; exact h.bl.row
  · rw [setRow_other _ _ _ _ (by omega)]; exact h.con
  · exact setRow_heap _ _ _ _ _ _ h.st
end
/-- a state of numbers of 32 bits -/
def StW (s : St) : Prop := allW s.list
theorem step_in (s : St) (k x : Int) (h : StW s) : StW (s.step k x) := by
  intro y hy
  have m : ∀ z : Int, W32 (z % 4294967296) := fun z => by unfold W32; omega
  simp only [St.step, St.list, List.mem_cons, List.not_mem_nil, or_false] at hy
  rcases hy with rfl | rfl | rfl | rfl | rfl | rfl | rfl | rfl
  · exact m _
  · exact h _ (by simp [St.list])
  · exact h _ (by simp [St.list])
  · exact h _ (by simp [St.list])
  · exact m _
  · exact h _ (by simp [St.list])
  · exact h _ (by simp [St.list])
  · exact h _ (by simp [St.list])
theorem rounds_in (s : St) (ws : List Int) (h : StW s) : ∀ n, StW (s.rounds ws n)
  | 0 => h
  | n + 1 => step_in _ _ _ (rounds_in s ws h n)
theorem plus_in (s x : St) : StW (s.plus x) := by
  intro y hy
  have m : ∀ z : Int, W32 (z % 4294967296) := fun z => by unfold W32; omega
  simp only [St.plus, St.list, List.mem_cons, List.not_mem_nil, or_false] at hy
  rcases hy with rfl | rfl | rfl | rfl | rfl | rfl | rfl | rfl <;> exact m _
theorem turn_in (s : St) (l : List Int) : StW (s.turn l) := plus_in _ _
theorem kc_in : allW kc := by unfold allW W32; decide
/-- the reference adds the other way round -/
theorem mix_swap (x s : St) : mix x.list s.list 8 = (s.plus x).list := by
  rw [mix_all]
  simp only [St.plus, St.list, Int.add_comm]
end
section
open Go.ChangeShapes Go.WideShapes Go.ChangeAt Go.RowKit
set_option maxRecDepth 100000
theorem alloc3 (w : World) (X Y Z : Obj) : (((w.alloc X).alloc Y).alloc Z).heap[w.heap.size]? = some X ∧ (((w.alloc X).alloc Y).alloc Z).heap[w.heap.size + 1]? = some Y ∧ (((w.alloc X).alloc Y).alloc Z).heap[w.heap.size + 2]? = some Z := by
  have h1 : w.heap.size < (w.alloc X).heap.size := by simp
  have h2 : w.heap.size + 1 < ((w.alloc X).alloc Y).heap.size := by simp
  refine ⟨?_, ?_, ?_⟩
  · rw [Below.heap_alloc _ _ _ (by simp; omega), Below.heap_alloc _ _ _ h1]
    exact heap_alloc_new _ _
  · rw [Below.heap_alloc _ _ _ h2]
    have := heap_alloc_new (w.alloc X) Y
    simpa using this
  · have := heap_alloc_new ((w.alloc X).alloc Y) Z
    simpa using this
section
variable {a : Act} {o : Oper} {W : World}
theorem run_sub (u v z : Int) (h : u - v = z) (h1 : -9223372036854775808 ≤ z) (h2 : z ≤ 9223372036854775807) : (binOp .sub 3 (.int .i64 u) (.int .i64 v)).run Tryd.prog W = .ok (.int .i64 z) W := by
  have e : IntKind.i64.wrap (u - v) = z := by rw [IntWalk.i64_in _ (by omega)]; exact h
  simp [go_sem, e]
theorem run_add (u v z : Int) (h : u + v = z) (h1 : -9223372036854775808 ≤ z) (h2 : z ≤ 9223372036854775807) : (binOp .add 3 (.int .i64 u) (.int .i64 v)).run Tryd.prog W = .ok (.int .i64 z) W := by
  have e : IntKind.i64.wrap (u + v) = z := by rw [IntWalk.i64_in _ (by omega)]; exact h
  simp [go_sem, e]
theorem run_mul (u v z : Int) (h : u * v = z) (h1 : -9223372036854775808 ≤ z) (h2 : z ≤ 9223372036854775807) : (binOp .mul 3 (.int .i64 u) (.int .i64 v)).run Tryd.prog W = .ok (.int .i64 z) W := by
  have e : IntKind.i64.wrap (u * v) = z := by rw [IntWalk.i64_in _ (by omega)]; exact h
  simp [go_sem, e]
theorem run_rem (u v z : Int) (h : u % v = z) (h0 : 0 ≤ u) (hv : 0 < v) (h2 : v ≤ 9223372036854775807) : (binOp .rem 3 (.int .i64 u) (.int .i64 v)).run Tryd.prog W = .ok (.int .i64 z) W := by
  have b1 := Int.emod_nonneg u (show v ≠ 0 by omega)
  have b2 := Int.emod_lt_of_pos u hv
  have c : u.tmod v = u % v := Int.tmod_eq_emod_of_nonneg h0
  have d : ¬ v = 0 := by omega
  have _ := b1
  have _ := b2
  have _ := h2
  simp [go_sem, d, c, h]
theorem exec_bin (op : BinOp) (x y : Operand) (ho : o.op = .binOp op 3 x y 3) (hop : (op == .eql || op == .neq) = false) (u v z : Int) (hx : a.eval x = .int .i64 u) (hy : a.eval y = .int .i64 v) (h : (binOp op 3 (.int .i64 u) (.int .i64 v)).run Tryd.prog W = .ok (.int .i64 z) W) : (execOp a.eval o).run Tryd.prog W = .ok (.value (.int .i64 z)) W := by
  unfold execOp
  have hg : (eqGuard op 3 x y (.int .i64 u) (.int .i64 v)).run Tryd.prog W = .ok () W := by
    unfold eqGuard
    cases op <;> simp_all
  simp [ho, hx, hy, hg, h]
theorem built48 (a b c d e f g h : Int) : Tryd.prog.built 75 [(0, .int .i64 a), (1, .int .i64 b), (2, .int .i64 c), (3, .int .i64 d), (4, .int .i64 e), (5, .int .i64 f), (6, .int .i64 g), (7, .int .i64 h)] = some (rowN [a, b, c, d, e, f, g, h]) := by kernel_rfl
theorem wpList_build48 {ops : Array Oper} {rest : List Oper} {Q : Exit → Act → World → Prop} (hg : o.guard = none) (x0 x1 x2 x3 x4 x5 x6 x7 : Operand) (ho : o.op = .build 75 #[(0, x0), (1, x1), (2, x2), (3, x3), (4, x4), (5, x5), (6, x6), (7, x7)])
    (v0 v1 v2 v3 v4 v5 v6 v7 : Int) (h0 : a.eval x0 = .int .i64 v0) (h1 : a.eval x1 = .int .i64 v1) (h2 : a.eval x2 = .int .i64 v2) (h3 : a.eval x3 = .int .i64 v3) (h4 : a.eval x4 = .int .i64 v4) (h5 : a.eval x5 = .int .i64 v5) (h6 : a.eval x6 = .int .i64 v6) (h7 : a.eval x7 = .int .i64 v7)
    (h : wpList Tryd.prog ops Q rest (a.put o.dst (.agg (rowN [v0, v1, v2, v3, v4, v5, v6, v7]))) W) : wpList Tryd.prog ops Q (o :: rest) a W :=
  wpList_built hg 75 _ ho _ (by
    have e : ((#[(0, x0), (1, x1), (2, x2), (3, x3), (4, x4), (5, x5), (6, x6), (7, x7)] : Array (Nat × Operand)).map fun (i, x) => (i, a.eval x)).toList = [(0, .int .i64 v0), (1, .int .i64 v1), (2, .int .i64 v2), (3, .int .i64 v3), (4, .int .i64 v4), (5, .int .i64 v5), (6, .int .i64 v6), (7, .int .i64 v7)] := by simp [h0, h1, h2, h3, h4, h5, h6, h7]
    rw [e]
    exact built48 v0 v1 v2 v3 v4 v5 v6 v7) h
theorem size3 : (Tryd.prog.info? 3).map (·.size) = some 1 := by kernel_rfl
theorem exec_idx (t e n : Nat) (ht : Tryd.prog.underlying t = some (.array n e)) (he : (Tryd.prog.info? e).map (·.size) = some 1) (x y : Operand) (ho : o.op = .indexAddr t x y) (g i : Nat) (hx : a.eval x = .pointer (some ⟨g, 0, none⟩)) (hy : a.eval y = .int .i64 (i : Int)) (hi : i < n) :
    (execOp a.eval o).run Tryd.prog W = .ok (.value (.pointer (some ⟨g, i, none⟩))) W := by
  have hadd : (⟨g, 0, none⟩ : Addr).add i = ⟨g, i, none⟩ := by unfold Addr.add; split <;> simp_all
  cases hq : Tryd.prog.info? e with
  | none => simp [hq] at he
  | some j =>
    have hj : j.size = 1 := by simpa [hq] using he
    unfold execOp
    simp [ho, hx, hy, Instr.indexAt, Instr.sureAddr, asIntOf, run_underlying ht, sizeOf, typeInfo, hq, hj, hi, hadd]
theorem exec_built (t : TypeId) (parts : Array (Nat × Operand)) (ho : o.op = .build t parts) (cs : Array Value) (hb : Tryd.prog.built t (parts.map fun (i, x) => (i, a.eval x)).toList = some cs) : (execOp a.eval o).run Tryd.prog W = .ok (.value (.agg cs)) W := by
  unfold execOp
  simp only [ho, Sem.run_bind, run_build W t _ cs hb, Result.andThen_ok, Sem.run_pure]
theorem cf28 (vs : Array Value) (W : World) : (callFunc 55 vs).run Tryd.prog W = .ok (.enter 55 vs) W := cf Tryd.func55 (by kernel_rfl) (by kernel_rfl) vs W
theorem cf23 (vs : Array Value) (W : World) : (callFunc 43 vs).run Tryd.prog W = .ok (.enter 43 vs) W := cf Tryd.func43 (by kernel_rfl) (by kernel_rfl) vs W
theorem cf22 (vs : Array Value) (W : World) : (callFunc 42 vs).run Tryd.prog W = .ok (.enter 42 vs) W := cf Tryd.func42 (by kernel_rfl) (by kernel_rfl) vs W
theorem exec_call3 (f : FuncId) (x y z : Operand) (ats : Array TypeId) (u v t : Value) (ho : o.op = .call { callee := .value (.func f), args := #[x, y, z], argTypes := ats }) (hx : a.eval x = u) (hy : a.eval y = v) (hz : a.eval z = t)
    (hf : (callFunc f #[u, v, t]).run Tryd.prog W = .ok (.enter f #[u, v, t]) W) : (execOp a.eval o).run Tryd.prog W = .ok (.enter f #[u, v, t]) W :=
  exec_call f #[x, y, z] ats #[u, v, t] ho (by simp [hx, hy, hz]) hf
end
end
section
open Go.ChangeShapes Go.WideShapes Go.ChangeAt Go.RowKit
set_option maxRecDepth 100000
theorem blocks_succ : ∀ (j : Nat) (s : St) (l : List Int), blocks (j + 1) s l = (blocks j s l).turn ((l.drop (64 * j)).take 64)
  | 0, s, l => by simp [blocks]
  | j + 1, s, l => by
    rw [blocks, blocks_succ j, blocks, List.drop_drop, show 64 + 64 * j = 64 * (j + 1) by omega]
theorem rng_full (l : List Int) (n : Nat) (h : rng l) : rng (full l n) := by
  intro x hx
  unfold full at hx
  simp only [List.cons_append, List.mem_append, List.mem_cons, List.mem_replicate] at hx
  rcases hx with h1 | rfl | ⟨_, rfl⟩ | h1
  · exact h x h1
  · omega
  · omega
  · obtain ⟨i, hi⟩ := List.getElem?_of_mem h1
    have hi8 : i < 8 := by
      have := (List.getElem?_eq_some_iff.1 hi).1
      rwa [tail8_length] at this
    rw [tail8_at n i hi8] at hi
    injection hi with hi
    rw [← hi]
    omega
/-- a byte of the digest -/
def dbyte (s : List Int) (j : Nat) : Int := s.getD (j / 4) 0 / 2 ^ (24 - 8 * (j % 4)) % 256
/-- i bytes of the digest -/
def digs (s : List Int) (i : Nat) : List Int := (List.range 32).map (fun j => if j < i then dbyte s j else 0)
theorem digs_length (s : List Int) (i : Nat) : (digs s i).length = 32 := by simp [digs]
theorem digs_set (s : List Int) (i : Nat) (_hi : i < 32) : (digs s i).set i (dbyte s i) = digs s (i + 1) := by
  apply List.ext_getElem (by simp [digs])
  intro n h1 h2
  simp only [digs, List.getElem_set, List.getElem_map, List.getElem_range]
  by_cases hn : i = n
  · subst hn; simp
  · rw [if_neg hn]
    by_cases h : n < i
    · rw [if_pos h, if_pos (by omega)]
    · rw [if_neg h, if_neg (by omega)]
theorem digs_all (s : List Int) : digs s 32 = dig s 8 := by
  simp [digs, dig, dbyte, List.range_succ, List.replicate]
structure Su (w : World) (s : St) (c o : Nat) (F : List Int) (wr : World) : Prop where
  below : Below w.heap.size w wr
  res : wr.heap[w.heap.size]? = some (.cells (rowB (zs 32)) 23 (0, 0))
  st : wr.heap[w.heap.size + 1]? = some (.cells (rowN s.list) 75 (0, 0))
  lies : Lies wr c o F
  pos : 0 < F.length
  cne : w.heap.size + 1 < c
section
variable {w wr W : World} {s : St} {c o : Nat} {F : List Int}
theorem Su.next (h : Su w s c o F wr) (hb : Below wr.heap.size wr W) : Su w s c o F W :=
  ⟨h.below.trans (hb.mono h.below.size), (hb.block _ (lt_of_row h.res)).trans h.res, (hb.block _ (lt_of_row h.st)).trans h.st, fun i hi => (hb.cell (block_lt_of_cell (h.lies i hi))).trans (h.lies i hi), h.pos, h.cne⟩
theorem Su.drew (h : Su w s c o F wr) : Su w s c o F wr.drew := h.next (Below.refl _ _).drew
theorem Su.store (h : Su w s c o F wr) (x : St) : Su w x c o F (wr.setRow (w.heap.size + 1) (rowN x.list)) := by
  have h1 := h.cne
  refine ⟨below_setRow h.below (by omega) _, ?_, setRow_heap _ _ _ _ _ _ h.st, fun i hi => ?_, h.pos, h1⟩
  · rw [setRow_other _ _ _ _ (by omega)]; exact h.res
  · have hg : wr.heap[c]? = (wr.setRow (w.heap.size + 1) (rowN x.list)).heap[c]? := (setRow_other _ _ _ _ (by omega)).symm
    rw [← h.lies i hi]
    exact World.cell?_of_block hg.symm
end
/-- the world while the digest is written -/
structure Sv (w : World) (s : St) (g : Nat) (l : List Int) (wr : World) : Prop where
  below : Below w.heap.size w wr
  res : wr.heap[w.heap.size]? = some (.cells (rowB (zs 32)) 23 (0, 0))
  st : wr.heap[w.heap.size + 1]? = some (.cells (rowN s.list) 75 (0, 0))
  ge : w.heap.size + 1 < g
  row : wr.heap[g]? = some (.cells (rowB l) 23 (0, 0))
section
variable {w wr W : World} {s : St} {g : Nat} {l : List Int}
theorem Sv.next (h : Sv w s g l wr) (hb : Below wr.heap.size wr W) : Sv w s g l W :=
  ⟨h.below.trans (hb.mono h.below.size), (hb.block _ (lt_of_row h.res)).trans h.res, (hb.block _ (lt_of_row h.st)).trans h.st, h.ge, (hb.block _ (lt_of_row h.row)).trans h.row⟩
theorem Sv.drew (h : Sv w s g l wr) : Sv w s g l wr.drew := h.next (Below.refl _ _).drew
theorem Sv.put (h : Sv w s g l wr) (i : Nat) (x : Int) : Sv w s g (l.set i x) (wr.setCell ⟨g, i, none⟩ (.int .u8 x)) := by
  have h1 := h.ge
  refine ⟨h.below.setCell (by simp only; omega) _, ?_, ?_, h1, ?_⟩
  · rw [heap_setCell_other _ _ _ _ (by simp only; omega)]; exact h.res
  · rw [heap_setCell_other _ _ _ _ (by simp only; omega)]; exact h.st
  · rw [heap_setCell_same _ _ _ _ _ _ h.row, rowB_set]
theorem Sv.cell (h : Sv w s g l wr) (i : Nat) (hi : i < l.length) : wr.cell? ⟨g, i, none⟩ = some (.int .u8 (l.getD i 0)) := by
  rw [cell_of_row _ _ _ _ _ _ h.row, rowB_get _ _ hi]
theorem Sv.scell (h : Sv w s g l wr) (i : Nat) (hi : i < 8) : wr.cell? ⟨w.heap.size + 1, i, none⟩ = some (.int .i64 (s.list.getD i 0)) := by
  rw [cell_of_row _ _ _ _ _ _ h.st, rowN_get _ _ hi]
theorem Sv.free (h : Sv w s g l wr) (i : Nat) : wr.frozen? ⟨g, i, none⟩ = false := frozen_of_row _ _ _ _ _ h.row
end
theorem run_chunk (c o L cap k : Nat) (h1 : k + 64 ≤ L) (h2 : L ≤ cap) (w : World) : (Instr.slice 57 (.slice (some ⟨c, o, none⟩) L cap) (some (.int .i64 (k : Int))) (some (.int .i64 ((k + 64 : Nat) : Int))) none).run Tryd.prog w = .ok (.slice (some ⟨c, o + k, none⟩) 64 (cap - k)) w := by
  have hadd : (⟨c, o, none⟩ : Addr).add k = ⟨c, o + k, none⟩ := by unfold Addr.add; split <;> simp_all
  cases hq : Tryd.prog.info? 5 with
  | none => have := size5; simp [hq] at this
  | some i =>
    have hi : i.size = 1 := by have := size5; simpa [hq] using this
    have e1 : ((k + 64 : Nat) : Int) ≤ (cap : Int) := by omega
    have e2 : (0 : Int) ≤ ((k + 64 : Nat) : Int) := by omega
    have e3 : ((k + 64 : Nat) : Int).toNat = k + 64 := by omega
    have e4 : ¬ cap = k := by omega
    simp only [Instr.slice, run_underlying Tryd.underlying57, Instr.sliceBounds, Instr.sliceBound, asIntOf, sizeOf, typeInfo, Sem.run_bind, Result.andThen_ok, Sem.run_pure, Sem.run_ite, e1, e2, and_self, if_true, e3]
    simp [hq, hi, hadd, e4]
    intro h
    exact absurd h (by omega)
theorem exec_cut2 {a : Act} {o : Oper} {W : World} (x y z : Operand) (ho : o.op = .slice 57 x (some y) (some z) none) (u : Value) (hr : (Instr.slice 57 (a.eval x) (some (a.eval y)) (some (a.eval z)) none).run Tryd.prog W = .ok u W) : (execOp a.eval o).run Tryd.prog W = .ok (.value u) W := by
  unfold execOp
  simp [ho, Instr.sliceAt, run_underlying Tryd.underlying57, hr]
end
end Go.Proofs.YtmolkbmdfkeniaaDoor
-- from Ss
namespace Go.Proofs.YtmolkbmdfkeniaaDoor
open Go.ChangeShapes Go.WideShapes Go.ChangeAt Go.RowKit
set_option maxRecDepth 100000
/-- what the reference's block does -/
def BlockSpec : Prop := ∀ (w : World) (s : St) (_ : StW s) (c o cap : Nat) (b : List Int) (_ : b.length = 64) (_ : Lies w c o b) (_ : rng b) (_ : 64 ≤ cap),
    Calls Tryd.prog 42 #[.agg (rowN s.list), .slice (some ⟨c, o, none⟩) 64 cap] w fun e w' => e = .returned (.agg (rowN (s.turn b).list)) ∧ Below w.heap.size w w'
theorem start_in : StW start := by unfold StW allW W32; decide
theorem blocks_in : ∀ (j : Nat) (s : St) (l : List Int), StW s → StW (blocks j s l)
  | 0, _, _, h => h
  | j + 1, _, _, _ => blocks_in j _ _ (turn_in _ _)
theorem zero25 (w : World) : (zeroValue 23).run Tryd.prog w = .ok (.agg (rowB (zs 32))) w := by kernel_rfl
theorem startZ : (Tryd.prog.info? 75).map (·.size) = some (rowN start.list).size := by rw [rowN_size]; exact size48
theorem wpList_start {ops : Array Oper} {rest : List Oper} {o : Oper} {a : Act} {W : World} {Q : Exit → Act → World → Prop} (sl : List Int) (hsl : start.list = sl) (hg : o.guard = none)
    (ho : o.op = .build 75 #[(0, .const (.int .i64 1779033703)), (1, .const (.int .i64 3144134277)), (2, .const (.int .i64 1013904242)), (3, .const (.int .i64 2773480762)), (4, .const (.int .i64 1359893119)), (5, .const (.int .i64 2600822924)), (6, .const (.int .i64 528734635)), (7, .const (.int .i64 1541459225))])
    (h : wpList Tryd.prog ops Q rest (a.put o.dst (.agg (rowN sl))) W) : wpList Tryd.prog ops Q (o :: rest) a W := by
  subst hsl
  exact wpList_build48 hg _ _ _ _ _ _ _ _ ho 1779033703 3144134277 1013904242 2773480762 1359893119 2600822924 528734635 1541459225 rfl rfl rfl rfl rfl rfl rfl rfl h
theorem exec_call2' {a : Act} {o : Oper} {W : World} (f : FuncId) (x y : Operand) (ats : Array TypeId) (u v : Value) (ho : o.op = .call { callee := .value (.func f), args := #[x, y], argTypes := ats }) (hx : a.eval x = u) (hy : a.eval y = v)
    (hf : (callFunc f #[u, v]).run Tryd.prog W = .ok (.enter f #[u, v]) W) : (execOp a.eval o).run Tryd.prog W = .ok (.enter f #[u, v]) W :=
  exec_call f #[x, y] ats #[u, v] ho (by simp [hx, hy]) hf
theorem exec_byte {a : Act} {o : Oper} {W : World} (x : Operand) (ho : o.op = .convert 3 5 x) (z : Int) (hx : a.eval x = .int .i64 z) (h1 : 0 ≤ z) (h2 : z < 256) : (execOp a.eval o).run Tryd.prog W = .ok (.value (.int .u8 z)) W := by
  have e : IntKind.u8.wrap z = z := by simp [IntKind.wrap, IntKind.bits, IntKind.signed]; omega
  have hc : (convert 3 5 (.int .i64 z)).run Tryd.prog W = .ok (.int .u8 z) W := by simp [go_sem, e]
  unfold execOp
  simp [ho, hx, hc]
set_option maxRecDepth 100000 in
set_option maxHeartbeats 8000000 in
theorem ref_sum (hblk : BlockSpec) (w : World) (sp : Option Addr) (m cap : Nat) (l : List Int) (hm : l.length = m) (hb : Bytes w sp cap l) (hz : sp = none → cap = 0) (hr : rng l) (hn : m ≤ 90000) :
    Calls Tryd.prog 25 #[.slice sp m cap] w fun e w' => e = .returned (.agg (rowB (sum l))) ∧ Below w.heap.size w w' := by
  have HBk := Lib.hid hblk
  have HM := Lib.hid hm
  have HB := Lib.hid hb
  have HR : Hid (rng (full l m)) := Lib.hid (rng_full l m hr)
  have HSum := Lib.hid (sum_full l)
  rw [hm] at HSum
  clear hblk hm hb hr
  have hz25 := zero25
  have hz48 := zero48
  have HZ := Lib.hid startZ
  have HY := Lib.hid (show (rowN (zs 8)).size = (rowN start.list).size by rw [rowN_size, rowN_size]; rfl)
  have HX := Lib.hid (rowN_one start.list)
  obtain ⟨sl, hsl⟩ : ∃ x, start.list = x := ⟨_, rfl⟩
  rw [hsl] at HZ HY HX
  have HSl := Lib.hid hsl
  clear hsl
  go_enter Tryd.func25, Tryd.ntmps25
  go_upto_region 2 with (first
    | (refine wpList_start sl HSl.out rfl rfl ?_)
    | (refine wpList_store_row rfl 75 (.tmp 3) (.tmp 8) rfl (w.heap.size + 1) (rowN sl) rfl rfl 75 _ (heap_alloc2_new _ _ _) HZ.out HY.out HX.out ?_))
  clear hz25 hz48
  refine gen_world (Q := fun w => Code.wp _ _ _ _ w) _ (fun W => Below w.heap.size w W ∧ W.heap[w.heap.size]? = some (.cells (rowB (zs 32)) 23 (0, 0)) ∧ W.heap[w.heap.size + 1]? = some (.cells (rowN start.list) 75 (0, 0))) ⟨below_setRow (((Below.refl _ _).alloc (Nat.le_refl _) _).alloc (by simp) _) (by omega) _, ?_, ?_⟩ ?_
  · rw [setRow_other _ _ _ _ (by omega)]; exact heap_alloc2_old _ _ _
  · rw [HSl.out]; exact setRow_heap _ _ _ _ _ _ (heap_alloc2_new _ _ _)
  rintro w1 ⟨hb1, hr1, hs1⟩
  have HB1 := Lib.hid hb1
  have HR1 := Lib.hid hr1
  have HS1 := Lib.hid hs1
  clear hb1 hr1 hs1
  go_wp2_with fail
  refine (filled_any w1 sp m cap l HM.out (HB.out.below HB1.out) hz (by omega)).mono ?_
  rintro e w2 ⟨s4, c4, rfl, ho⟩
  have hFl := full_length l m
  rw [HM.out] at hFl
  have hFw := full_whole l m
  obtain ⟨F, hF⟩ : ∃ F, full l m = F := ⟨_, rfl⟩
  obtain ⟨L, hL⟩ : ∃ L, m + 9 + zn m = L := ⟨_, rfl⟩
  have hzn : zn m ≤ 63 := by unfold zn; omega
  have hL1 : L ≤ 100000 := by omega
  have hL2 : 9 ≤ L := by omega
  rw [hF] at ho HR hFl hFw HSum
  rw [hL] at ho hFl ⊢
  rw [hFl] at hFw
  obtain ⟨sp', cap', he, _, hby, _, hbase⟩ := own_bytes ho.own
  cases he
  obtain ⟨c, o, rfl, hli⟩ := hby.lies (by omega)
  have hLc : L ≤ c4 := by have := hby.le; omega
  have hcb : w.heap.size + 1 < c := Nat.lt_of_lt_of_le (lt_of_row HS1.out) (hbase c o rfl)
  have hb2 := ho.below
  have hsu : Su w start c o F w2 := ⟨HB1.out.trans (hb2.mono HB1.out.size), (hb2.block _ (lt_of_row HR1.out)).trans HR1.out, (hb2.block _ (lt_of_row HS1.out)).trans HS1.out, hli, by omega, hcb⟩
  have HFl := Lib.hid hFl
  obtain ⟨q, hq⟩ : ∃ q, L = 64 * q := ⟨L / 64, by omega⟩
  have hq1 : L ≤ 64 * q := by omega
  have hq2 : 64 * q ≤ L := by omega
  have HAb : Hid (absorb start F = blocks q start F) := Lib.hid (by unfold absorb; rw [hFl, hq, Nat.mul_div_cancel_left _ (by omega)])
  clear ho hFl hFw hF hL hzn hby hbase hli hb2 HB1 HR1 HS1 hq hn hz
  go_wp2
  go_loopw [5] (fun i wr => ∃ k j : Nat, k ≤ 64 * j ∧ 64 * j ≤ k ∧ j ≤ q ∧ i = .int .i64 k ∧ Su w (blocks j start F) c o F wr) (fun i _ => L - (intOf i).toNat)
  case atStart => exact ⟨0, 0, by omega, by omega, by omega, rfl, hsu⟩
  case round =>
    clear hsu
    obtain ⟨k, j, hk1, hk2, hjq, rfl, hsu⟩ := hrel
    by_cases hlt : k < L
    · have hdt : decide (k < L) = true := by simp; omega
      have HSn := Lib.hid (blocks_succ j start F)
      have hkk : 64 * j = k := by omega
      rw [hkk] at HSn
      clear hkk
      have hk64 : k + 64 ≤ L := by omega
      have hin := blocks_in j start F start_in
      obtain ⟨s, hs⟩ : ∃ s, blocks j start F = s := ⟨_, rfl⟩
      rw [hs] at hsu HSn hin
      clear hs
      have HIn : Hid (StW s) := Lib.hid hin
      have HZs := Lib.hid (show (Tryd.prog.info? 75).map (·.size) = some (rowN s.list).size by rw [rowN_size]; exact size48)
      have HZt := Lib.hid (show (Tryd.prog.info? 75).map (·.size) = some (rowN (s.turn ((F.drop k).take 64)).list).size by rw [rowN_size]; exact size48)
      have HYt := Lib.hid (show (rowN s.list).size = (rowN (s.turn ((F.drop k).take 64)).list).size by rw [rowN_size, rowN_size]; rfl)
      have HXt := Lib.hid (rowN_one (s.turn ((F.drop k).take 64)).list)
      have HCl := Lib.hid (show ((F.drop k).take 64).length = 64 by rw [List.length_take, List.length_drop, HFl.out]; omega)
      have HCr : Hid (rng ((F.drop k).take 64)) := Lib.hid (fun x hx => HR.out x (List.mem_of_mem_drop (List.mem_of_mem_take hx)))
      have CB : ∀ W, Su w s c o F W → Calls Tryd.prog 42 #[.agg (rowN s.list), .slice (some ⟨c, o + k, none⟩) 64 (c4 - k)] W fun e W' => e = .returned (.agg (rowN (s.turn ((F.drop k).take 64)).list)) ∧ Su w s c o F W' := fun W h => (HBk.out W s HIn.out c (o + k) (c4 - k) _ HCl.out ((h.lies.drop k).take 64) HCr.out (by omega)).mono (fun e W' h' => ⟨h'.1, h.next h'.2⟩)
      have CBh := Lib.hid CB
      have RC := Lib.hid (run_chunk c o L c4 k hk64 hLc)
      obtain ⟨t, ht⟩ : ∃ t, s.turn ((F.drop k).take 64) = t := ⟨_, rfl⟩
      rw [ht] at HSn HZt HYt HXt CBh
      have HSu := Lib.hid hsu
      clear CB ht hin hsu
      go_upto_region 6 with fail
      refine wp_region_quiet_tailR (C := fun W => Su w s c o F W) 7 (by kernel_rfl) (by kernel_rfl) HSu.out.drew ?_
      simp only [List.take_succ_cons, List.take_zero, List.drop_succ_cons, List.drop_zero]
      refine q_val (.agg (rowN s.list)) rfl (fun W hW => exec_load_row 75 (.tmp 3) rfl (w.heap.size + 1) rfl 75 (rowN s.list) (0, 0) _ hW.st Tryd.underlying75 rfl HZs.out) ?_
      simp only [Act.put, List.setIfInBounds_toArray, List.set_cons_succ, List.set_cons_zero]
      refine q_val _ rfl (fun _ _ => rfl) ?_
      simp only [Act.put, List.setIfInBounds_toArray, List.set_cons_succ, List.set_cons_zero]
      refine q_val _ rfl (fun _ _ => rfl) ?_
      simp only [Act.put, List.setIfInBounds_toArray, List.set_cons_succ, List.set_cons_zero]
      refine q_val _ rfl (fun _ _ => rfl) ?_
      simp only [Act.put, List.setIfInBounds_toArray, List.set_cons_succ, List.set_cons_zero]
      refine q_val (.int .i64 ((k + 64 : Nat) : Int)) rfl (fun W hW => exec_bin .add (.tmp 20) (.const (.int .i64 64)) rfl rfl (k : Int) 64 _ rfl rfl (run_add _ _ _ (by omega) (by omega) (by omega))) ?_
      simp only [Act.put, List.setIfInBounds_toArray, List.set_cons_succ, List.set_cons_zero]
      refine q_val (.slice (some ⟨c, o + k, none⟩) 64 (c4 - k)) rfl (fun W hW => exec_cut2 (.tmp 18) (.tmp 19) (.tmp 21) rfl _ (RC.out W)) ?_
      simp only [Act.put, List.setIfInBounds_toArray, List.set_cons_succ, List.set_cons_zero]
      refine q_call 42 #[.agg (rowN s.list), .slice (some ⟨c, o + k, none⟩) 64 (c4 - k)] (.agg (rowN t.list)) rfl (fun _ _ => exec_call2' 42 (.tmp 17) (.tmp 22) #[75, 57] _ _ rfl rfl rfl (cf22 _ _)) (fun W hW => CBh.out W hW) ?_
      simp only [Act.put, List.setIfInBounds_toArray, List.set_cons_succ, List.set_cons_zero]
      refine wpQuiet_nil ?_
      intro w5 h5
      have HSt5 := Lib.hid h5.st
      have HN5 := Lib.hid (h5.store t)
      clear h5
      go_wp2_with (refine wpList_store_row rfl 75 (.tmp 3) (.tmp 23) rfl (w.heap.size + 1) (rowN t.list) rfl rfl 75 _ HSt5.out HZt.out HYt.out HXt.out ?_)
      go_roundw
      case rel => exact ⟨k + 64, j + 1, by omega, by omega, by omega, by go_num, by rw [HSn.out]; exact HN5.out⟩
      case measure => simp [intOf]; omega
    · have hdf : decide (k < L) = false := by simp; omega
      obtain rfl : j = q := by omega
      rw [← HAb.out] at hsu
      have hSin : StW (absorb start F) := by rw [HAb.out]; exact blocks_in _ _ _ start_in
      obtain ⟨S, hS⟩ : ∃ S, absorb start F = S := ⟨_, rfl⟩
      rw [hS] at hsu HSum hSin
      have HIn : Hid (StW S) := Lib.hid hSin
      have HSu := Lib.hid hsu
      have hgq : w.heap.size + 1 < wr.heap.size := lt_of_row hsu.st
      have hz25 := zero25
      clear hS hsu hSin
      go_upto_region 8 with fail
      clear hz25
      refine gen_world (Q := fun w => Code.wp _ _ _ _ w) _ (Sv w S wr.heap.size (zs 32)) ?_ ?_
      · have hba : Below wr.heap.size wr (wr.alloc (.cells (rowB (zs 32)) 23)) := (Below.refl _ _).alloc (Nat.le_refl _) _
        have hn := HSu.out.next hba
        exact ⟨hn.below, hn.res, hn.st, hgq, heap_alloc_new _ _⟩
      generalize wr.heap.size = gq at hgq ⊢
      intro w6 hsv
      go_wp2
      go_loopw [7] (fun i wr => ∃ k : Nat, k ≤ 32 ∧ i = .int .i64 k ∧ Sv w S gq (digs S.list k) wr) (fun i _ => 32 - (intOf i).toNat)
      case atStart => exact ⟨0, by omega, rfl, hsv⟩
      case round =>
        clear hsv
        obtain ⟨k, hk, rfl, hsv⟩ := hrel
        by_cases hlt : k < 32
        · have hdt : decide ((k : Int) < 32) = true := by simp; omega
          have HDs := Lib.hid (digs_set S.list k hlt)
          have HDl := Lib.hid (digs_length S.list k)
          have X := allW_get HIn.out (k / 4) (by show k / 4 < 8; omega)
          have kS : ∀ W, Sv w S gq (digs S.list k) W → W.cell? ⟨w.heap.size + 1, k / 4, none⟩ = some (.int .i64 (S.list.getD (k / 4) 0)) := fun W h => h.scell (k / 4) (by omega)
          have hdb : dbyte S.list k = S.list.getD (k / 4) 0 / 2 ^ (24 - 8 * (k % 4)) % 256 := rfl
          obtain ⟨x, hx⟩ : ∃ x, S.list.getD (k / 4) 0 = x := ⟨_, rfl⟩
          obtain ⟨e, he⟩ : ∃ e, 24 - 8 * (k % 4) = e := ⟨_, rfl⟩
          rw [hx] at X kS hdb
          rw [he] at hdb
          obtain ⟨p1, p2⟩ := pow_le e (by omega)
          have pw : ∀ W, Sv w S gq (digs S.list k) W → Calls Tryd.prog 43 #[.int .i64 (e : Int)] W fun x W' => x = .returned (.int .i64 (2 ^ e)) ∧ Sv w S gq (digs S.list k) W' := fun W h => (power_any e (by omega) W).mono (fun x W' h' => ⟨h'.1, by rw [← h'.2]; exact h⟩)
          obtain ⟨P, hP⟩ : ∃ P : Int, 2 ^ e = P := ⟨_, rfl⟩
          rw [hP] at pw p1 p2 hdb
          obtain ⟨x1, x2⟩ := X
          have hq0 : 0 ≤ x / P := Int.ediv_nonneg x1 (by omega)
          obtain ⟨Q, hQ⟩ : ∃ Q, x / P = Q := ⟨_, rfl⟩
          rw [hQ] at hdb hq0
          obtain ⟨Z, hZ⟩ : ∃ Z, Q % 256 = Z := ⟨_, rfl⟩
          have hZ1 : 0 ≤ Z := by omega
          have hZ2 : Z < 256 := by omega
          have HQ := Lib.hid hQ
          have HZ3 := Lib.hid hZ
          have HDb : Hid (dbyte S.list k = Z) := Lib.hid (by rw [hdb, hZ])
          have KS := Lib.hid kS
          have PW := Lib.hid pw
          have HSv := Lib.hid hsv
          have HE1 : Hid ((24 : Int) - ((8 * (k % 4) : Nat) : Int) = (e : Int)) := Lib.hid (by omega)
          obtain ⟨D, hD⟩ : ∃ D, digs S.list k = D := ⟨_, rfl⟩
          rw [hD] at HDs HDl KS PW HSv
          clear kS pw hx he hP hQ hZ hdb hsv hD
          go_upto_region 11 with fail
          refine wp_region_quiet_tailR (C := fun W => Sv w S gq D W) 14 (by kernel_rfl) (by kernel_rfl) HSv.out.drew ?_
          simp only [List.take_succ_cons, List.take_zero, List.drop_succ_cons, List.drop_zero]
          refine q_val _ rfl (fun _ _ => rfl) ?_
          simp only [Act.put, List.setIfInBounds_toArray, List.set_cons_succ, List.set_cons_zero]
          refine q_val _ rfl (fun _ _ => rfl) ?_
          simp only [Act.put, List.setIfInBounds_toArray, List.set_cons_succ, List.set_cons_zero]
          refine q_val (.int .i64 ((k / 4 : Nat) : Int)) rfl (fun W hW => exec_bin .quo (.tmp 29) (.const (.int .i64 4)) rfl rfl (k : Int) 4 _ rfl rfl (by have h := run_quo (k : Int) 4 (by omega) (by omega) (by omega) W; rwa [show (k : Int) / 4 = ((k / 4 : Nat) : Int) by omega] at h)) ?_
          simp only [Act.put, List.setIfInBounds_toArray, List.set_cons_succ, List.set_cons_zero]
          refine q_val (.pointer (some ⟨w.heap.size + 1, k / 4, none⟩)) rfl (fun W hW => exec_idx 75 3 8 Tryd.underlying75 size3 (.tmp 3) (.tmp 30) rfl (w.heap.size + 1) (k / 4) rfl rfl (by omega)) ?_
          simp only [Act.put, List.setIfInBounds_toArray, List.set_cons_succ, List.set_cons_zero]
          refine q_val (.int .i64 x) rfl (fun W hW => exec_load_int (.tmp 31) rfl (w.heap.size + 1) (k / 4) x rfl (KS.out W hW)) ?_
          simp only [Act.put, List.setIfInBounds_toArray, List.set_cons_succ, List.set_cons_zero]
          refine q_val _ rfl (fun _ _ => rfl) ?_
          simp only [Act.put, List.setIfInBounds_toArray, List.set_cons_succ, List.set_cons_zero]
          refine q_val (.int .i64 ((k % 4 : Nat) : Int)) rfl (fun W hW => exec_bin .rem (.tmp 33) (.const (.int .i64 4)) rfl rfl (k : Int) 4 _ rfl rfl (run_rem _ _ _ (by omega) (by omega) (by omega) (by omega))) ?_
          simp only [Act.put, List.setIfInBounds_toArray, List.set_cons_succ, List.set_cons_zero]
          refine q_val (.int .i64 ((8 * (k % 4) : Nat) : Int)) rfl (fun W hW => exec_bin .mul (.const (.int .i64 8)) (.tmp 34) rfl rfl 8 ((k % 4 : Nat) : Int) _ rfl rfl (run_mul _ _ _ (by omega) (by omega) (by omega))) ?_
          simp only [Act.put, List.setIfInBounds_toArray, List.set_cons_succ, List.set_cons_zero]
          refine q_val (.int .i64 (e : Int)) rfl (fun W hW => exec_bin .sub (.const (.int .i64 24)) (.tmp 35) rfl rfl 24 ((8 * (k % 4) : Nat) : Int) _ rfl rfl (run_sub _ _ _ HE1.out (by omega) (by have := HE1.out; omega))) ?_
          simp only [Act.put, List.setIfInBounds_toArray, List.set_cons_succ, List.set_cons_zero]
          refine q_call 43 #[.int .i64 (e : Int)] (.int .i64 P) rfl (fun _ _ => exec_call1 43 (.tmp 36) #[3] _ rfl rfl (cf23 _ _)) (fun W hW => PW.out W hW) ?_
          simp only [Act.put, List.setIfInBounds_toArray, List.set_cons_succ, List.set_cons_zero]
          refine q_val (.int .i64 Q) rfl (fun W hW => exec_bin .quo (.tmp 32) (.tmp 37) rfl rfl x P Q rfl rfl (by have h := run_quo x P x1 (by omega) (by omega) W; rwa [HQ.out] at h)) ?_
          simp only [Act.put, List.setIfInBounds_toArray, List.set_cons_succ, List.set_cons_zero]
          refine q_val (.int .i64 Z) rfl (fun W hW => exec_bin .rem (.tmp 38) (.const (.int .i64 256)) rfl rfl Q 256 Z rfl rfl (run_rem _ _ _ HZ3.out hq0 (by omega) (by omega))) ?_
          simp only [Act.put, List.setIfInBounds_toArray, List.set_cons_succ, List.set_cons_zero]
          refine q_val (.int .u8 Z) rfl (fun W hW => exec_byte (.tmp 39) rfl Z rfl hZ1 hZ2) ?_
          simp only [Act.put, List.setIfInBounds_toArray, List.set_cons_succ, List.set_cons_zero]
          refine q_val (.pointer (some ⟨gq, k, none⟩)) rfl (fun W hW => exec_idx 23 5 32 Tryd.underlying23 size5 (.tmp 6) (.tmp 28) rfl gq k rfl rfl hlt) ?_
          simp only [Act.put, List.setIfInBounds_toArray, List.set_cons_succ, List.set_cons_zero]
          refine wpQuiet_nil ?_
          intro w7 h7
          have c1 := h7.cell k (by rw [HDl.out]; exact hlt)
          have f1 := h7.free k
          have HN7 := Lib.hid (h7.put k Z)
          clear h7
          go_wp2
          clear c1 f1
          go_roundw
          case rel => exact ⟨k + 1, by omega, by go_num, by rw [← HDs.out, HDb.out]; exact HN7.out⟩
          case measure => simp [intOf]; omega
        · obtain rfl : k = 32 := by omega
          clear hk hlt
          rw [show ((32 : Nat) : Int) = 32 from rfl]
          have hdf2 : decide ((32 : Int) < 32) = false := by decide
          rw [digs_all] at hsv
          have HFin : Hid (dig S.list 8 = sum l) := Lib.hid (by rw [HSum.out]; rfl)
          rw [HFin.out] at hsv
          have HLn := Lib.hid (sum_length l)
          obtain ⟨D, hD⟩ : ∃ D, sum l = D := ⟨_, rfl⟩
          rw [hD] at hsv HLn
          have HD := Lib.hid hD
          have HZd := Lib.hid (show (Tryd.prog.info? 23).map (·.size) = some (rowB D).size by rw [rowB_size, HLn.out]; exact size25)
          have HYd := Lib.hid (show (rowB (zs 32)).size = (rowB D).size by rw [rowB_size, rowB_size, HLn.out]; rfl)
          have HXd := Lib.hid (rowB_one D)
          have HRd := Lib.hid hsv.row
          have HQd := Lib.hid hsv.res
          have HBd := Lib.hid hsv.below
          clear hD hsv
          go_wp2_with (first
            | (refine wpList_load_row rfl 23 (.tmp 6) rfl gq rfl 23 (rowB D) (0, 0) _ HRd.out Tryd.underlying23 rfl HZd.out ?_)
            | (refine wpList_store_row rfl 23 (.tmp 2) (.tmp 42) rfl w.heap.size (rowB D) rfl rfl 23 _ HQd.out HZd.out HYd.out HXd.out ?_))
          exact bodyPost_ret (v := .agg (rowB D)) (results_cell_row Tryd.results25 _ _ w.heap.size 23 (rowB D) (0, 0) _ rfl (setRow_heap _ _ _ _ _ _ HQd.out) Tryd.underlying23 rfl HZd.out) rfl ⟨by rw [HD.out], below_setRow HBd.out (Nat.le_refl _) _⟩
end Go.Proofs.YtmolkbmdfkeniaaDoor
