import Derived.Test.YtkfkjapkcjidnaaMf
import Derived.Test.YtkfkjapkcjidnaaTf
import Derived.RangeFuncNested
import Derived.RangeFuncBound
import Derived.RangeFuncCalls
import Derived.RangeFuncLeaves
import Derived.Shelf.Abstract
import Derived.Shelf.RegionOpen
import Derived.OwnWalkIn
import Derived.TacticsInMore
import Derived.LoopNIn
import Derived.LoopIn
import Derived.Maps.AppendAt
import Derived.Sort.QuietIn
namespace Go.Proofs.Ytkfkjapkcjidnaa.Wg
set_option maxRecDepth 100000
open Go.ChangeShapes Go.WideShapes Go.ChangeAt Go.RowKit Go.Shelf Go.Proofs.Ytkfkjapkcjidnaa.Tn
attribute [local go_sem] Oper.semAt_some

/-! ### the landed code: rows of a matrix, by slices.Chunk -/
/-- the q-th row's slice -/
def rowS (sp : Option Addr) (cap C q : Nat) : Value := .slice (cutA sp cap (q * C)) C C
set_option maxHeartbeats 4000000 in
theorem chunk_any (w : World) (sp : Option Addr) (cap N C : Nat) (hC : 1 ≤ C) (hC2 : C ≤ 64) : Calls Try.prog 40 #[.slice sp N cap, .int .i64 C] w fun e w' => e = .returned (.func (.func 61) #[] #[.pointer (some ⟨w.heap.size, 0, none⟩), .pointer (some ⟨w.heap.size + 1, 0, none⟩)]) ∧ w' = (w.alloc (.cells #[.slice sp N cap] 26)).alloc (.cells #[.int .i64 C] 3) := by
  have d1 : decide ((C : Int) < 1) = false := by simp; omega
  go_enter Try.func40, Try.ntmps40
  go_wp2
  go_ret
  exact ⟨rfl, rfl⟩
theorem noGoto_normal {Q : Exit → Act → World → Prop} {a : Act} {w : World} (h : Q .normal a w) : Exit.noGoto Q .normal a w := h
/-- s[k:] of a slice of numbers -/
theorem run_tail (sp : Option Addr) (m cap k : Nat) (hk : k ≤ m) (_hm : m ≤ cap) (w : World) : (Instr.slice 26 (.slice sp m cap) (some (.int .i64 (k : Int))) none none).run Try.prog w = .ok (.slice (cutA sp cap k) (m - k) (cap - k)) w := by
  cases hq : Try.prog.info? 3 with
  | none => have := size3; simp [hq] at this
  | some i =>
    have hi : i.size = 1 := by have := size3; simpa [hq] using this
    simp only [Instr.slice, run_underlying Try.underlying26, Instr.sliceBounds, Instr.sliceBound, asIntOf, sizeOf, typeInfo, Sem.run_bind, Result.andThen_ok, Sem.run_pure, Sem.run_ite]
    simp [hq, hi, hk, cutA]
/-- s[k:h:h] of a slice of numbers -/
theorem run_three (sp : Option Addr) (m cap k h : Nat) (hk : k < h) (hh : h ≤ cap) (w : World) : (Instr.slice 26 (.slice sp m cap) (some (.int .i64 (k : Int))) (some (.int .i64 (h : Int))) (some (.int .i64 (h : Int)))).run Try.prog w = .ok (.slice (cutA sp cap k) (h - k) (h - k)) w := by
  cases hq : Try.prog.info? 3 with
  | none => have := size3; simp [hq] at this
  | some i =>
    have hi : i.size = 1 := by have := size3; simpa [hq] using this
    have hle : k ≤ h := by omega
    have hne : ¬ h = k := by omega
    have hne2 : ¬ cap = k := by omega
    simp only [Instr.slice, run_underlying Try.underlying26, Instr.sliceBounds, Instr.sliceBound, asIntOf, sizeOf, typeInfo, Sem.run_bind, Result.andThen_ok, Sem.run_pure, Sem.run_ite]
    simp [hq, hi, hle, hh, cutA, hne, hne2]

/-- the cells of a Chunk's own two variables stay -/
def KeepAt (bn bi : Nat) (W W' : World) : Prop := ∀ b v, b = bn ∨ b = bi → W.cell? ⟨b, 0, none⟩ = some v → W'.cell? ⟨b, 0, none⟩ = some v
theorem keep_t {bn bi : Nat} {A B C : World} (h : KeepAt bn bi A B) (k : KeepAt bn bi B C) : KeepAt bn bi A C := fun b v hb hc => k b v hb (h b v hb hc)
theorem keep_b {bn bi : Nat} (W : World) (l : Nat) (o o' : Obj) (h : W.heap[l]? = some o) (ho : o.isCells = false) : KeepAt bn bi W (W.putObj l o') := fun b v _ hc =>
  cell_kept hc (grownBy_putObj' W l o') (fun r e => by cases e; exact ⟨o, h, ho⟩)
theorem keep_of {bn bi : Nat} {W W' : World} (hb : Below W.heap.size W W') : KeepAt bn bi W W' := fun _ _ _ hc => (hb.cell (block_lt_of_cell hc)).trans hc
theorem abides_drawN {J : List Nat → World → Prop} {B : Nat} (h : AbidesFrom B J) {s : List Nat} {w : World} (n : Nat) (hs : J s w) : J s (w.drewN n) := h s w _ none hs ⟨rfl, rfl, rfl, Nat.le_refl _, fun _ _ _ => rfl⟩ (fun r e => by cases e)
set_option maxHeartbeats 4000000 in
theorem chunk1_in (m : Nat) (hm : 1 ≤ m) (l bs bn : Nat) (sp : Option Addr) (cap N C R : Nat) (hN : N = R * C) (hC : 1 ≤ C) (hN2 : N ≤ 32768) (hcap : N ≤ cap) (J Jx : List Nat → World → Prop)
    (hY : ∀ pre x W, x < R → J pre W → pre.length < R → YieldAt Fence.wide (m - 1) Try.prog l #[rowS sp cap C x] W fun e W' => (e = .returned (.bool true) ∧ J (pre ++ [x]) W' ∧ KeepAt bs bn W W') ∨ (e = .returned (.bool false) ∧ Jx (pre ++ [x]) W'))
    (W : World) (hJ : AbidesFrom W.heap.size J) (cs : W.cell? ⟨bs, 0, none⟩ = some (.slice sp N cap)) (cn : W.cell? ⟨bn, 0, none⟩ = some (.int .i64 C)) (h0 : J [] W) :
    CallsIn Fence.wide m Try.prog 61 #[.func (.yield l) #[] #[], .pointer (some ⟨bs, 0, none⟩), .pointer (some ⟨bn, 0, none⟩)] W fun e W' => (∃ v, e = .returned v) ∧ ((∃ ys, ys = List.range R ∧ J ys W') ∨ (∃ pre, True ∧ Jx pre W')) := by
  refine callsIn_of_wp Try.func61 rfl trivial ?_ rfl
  simp only [Try.ntmps61, List.size_toArray, List.length_cons, List.length_nil, Nat.reduceAdd, Nat.reduceSub, Array.replicate_succ, Array.replicate_zero, List.push_toArray, List.append_toArray, List.nil_append, List.cons_append]
  have HJ : Hid (AbidesFrom W.heap.size J) := hJ
  have HY := Lib.hid hY
  have HN := Lib.hid hN
  clear hJ hY hN
  gi_wp2
  gi_loopw [4] (fun t wr => ∃ q z : Nat, q ≤ R ∧ q * C = z ∧ t = .int .i64 (z : Int) ∧ J (List.range q) wr ∧ wr.cell? ⟨bs, 0, none⟩ = some (.slice sp N cap) ∧ wr.cell? ⟨bn, 0, none⟩ = some (.int .i64 C)) (fun t _ => N + 1 - (intOf t).toNat)
  case atStart => exact ⟨0, 0, by omega, by omega, rfl, h0, cs, cn⟩
  case round =>
    obtain ⟨q, z, hq, hz, rfl, hJr, csr, cnr⟩ := hrel
    by_cases hlt : q < R
    · have hzN : z + C ≤ N := by rw [HN.out, ← hz]; exact row_in hlt
      have hz1 : (q + 1) * C = z + C := by rw [Nat.add_mul, Nat.one_mul, hz]
      have HZ1 := Lib.hid hz1
      have HRow : Hid (rowS sp cap C q = .slice (cutA sp cap z) C C) := Lib.hid (by unfold rowS; rw [hz])
      have HJd := Lib.hid (fun n => abides_drawN HJ.out n hJr)
      have k1 := run_tail sp N cap z (by omega) hcap
      have k2 := run_three sp N cap z (z + C) (by omega) (by omega)
      rw [show z + C - z = C by omega] at k2
      have hzc : ((z + C : Nat) : Int) = (z : Int) + (C : Int) := by omega
      rw [hzc] at k2
      have hdt : decide (z < N) = true := by simp; omega
      have hCN : C ≤ N - z := by omega
      have hNz : ((N - z : Nat) : Int) = (N : Int) - (z : Int) := by omega
      clear hz hz1 hzc
      gi_wp2
      gi_quiet (fail)
      obtain ⟨fn, tmps, assign, body, hy, hR⟩ := HY.out (List.range q) q (wr.drewN nq) hlt (HJd.out nq) (by simpa using hlt)
      have HR := Lib.hid hR
      rw [HRow.out] at hy
      have csd : (wr.drewN nq).cell? ⟨bs, 0, none⟩ = some (.slice sp N cap) := csr
      have cnd : (wr.drewN nq).cell? ⟨bn, 0, none⟩ = some (.int .i64 C) := cnr
      have HCs := Lib.hid csd
      have HCn := Lib.hid cnd
      clear hR hJr csr cnr k1
      gi_wp2
      refine HR.out.mono ?_
      rintro e W3 (⟨rfl, hJ3, hb3⟩ | ⟨rfl, hJx3⟩)
      · have c1 := hb3 bs _ (Or.inl rfl) HCs.out
        have c2 := hb3 bn _ (Or.inr rfl) HCn.out
        rw [← List.range_succ] at hJ3
        have HJ3 : Hid (J (List.range (q + 1)) W3) := hJ3
        clear hJ3 hb3 csd cnd
        gi_wp2
        go_roundw
        case rel => exact ⟨q + 1, z + C, by omega, HZ1.out, by go_num, HJ3.out, c1, c2⟩
        case measure => simp [intOf]; omega
      · have HJx3 : Hid (Jx (List.range q ++ [q]) W3) := hJx3
        clear hJx3 csd cnd
        gi_wp2
        (try simp only [Exit.inBlock, Exit.then])
        refine bodyPost_ret (results_none rfl _ _ _) rfl ?_
        exact ⟨⟨_, rfl⟩, .inr ⟨_, trivial, HJx3.out⟩⟩
    · obtain rfl : q = R := by omega
      have hzN : z = N := by rw [← hz, HN.out]
      have hdf : decide (z < N) = false := by simp; omega
      clear hz
      gi_wp2
      go_end0
      exact ⟨⟨_, rfl⟩, .inl ⟨_, rfl, hJr⟩⟩

/-- a row's number -/
abbrev Rw (R : Nat) := { q : Nat // q < R }
theorem chunk_stops (m : Nat) (hm : 1 ≤ m) (bs bn : Nat) (sp : Option Addr) (cap N C R : Nat) (hN : N = R * C) (hC : 1 ≤ C) (hN2 : N ≤ 32768) (hcap : N ≤ cap) (w : World) (cs : w.cell? ⟨bs, 0, none⟩ = some (.slice sp N cap)) (cn : w.cell? ⟨bn, 0, none⟩ = some (.int .i64 C)) :
    SeqStopsK Fence.wide m Try.prog 61 #[.pointer (some ⟨bs, 0, none⟩), .pointer (some ⟨bn, 0, none⟩)] (fun x : Rw R => #[rowS sp cap C x.val]) (KeepAt bs bn) (fun ys => ys.map Subtype.val = List.range R) (fun _ => True) R w := fun l J Jx W hW hJ hJx hY h0 => by
  have h := chunk1_in m hm l bs bn sp cap N C R hN hC hN2 hcap (fun ys W => ∃ la : List (Rw R), la.map Subtype.val = ys ∧ J la W) (fun _ W => ∃ la : List (Rw R), Jx la W) (fun pre x W' hx ⟨la, e1, hj⟩ hlen => by
      refine (hY la ⟨x, hx⟩ W' hj (by rw [← e1, List.length_map] at hlen; exact hlen)).mono ?_
      rintro e w' (⟨h1, h2, h3⟩ | ⟨h1, h2⟩)
      · exact .inl ⟨h1, ⟨la ++ [⟨x, hx⟩], by simp [e1], h2⟩, h3⟩
      · exact .inr ⟨h1, _, h2⟩) W (fun s A B row ⟨la, e1, hj⟩ hg hr => ⟨la, e1, hJ la A B row hj hg hr⟩)
    ((hW.cell (block_lt_of_cell cs)).trans cs) ((hW.cell (block_lt_of_cell cn)).trans cn) ⟨[], rfl, h0⟩
  refine h.mono ?_
  rintro e w' ⟨h1, (⟨ys, rfl, la, e1, hj⟩ | ⟨_, _, la, hj⟩)⟩
  · exact ⟨h1, .inl ⟨la, e1, hj⟩⟩
  · exact ⟨h1, .inr ⟨la, trivial, hj⟩⟩
end Go.Proofs.Ytkfkjapkcjidnaa.Wg
