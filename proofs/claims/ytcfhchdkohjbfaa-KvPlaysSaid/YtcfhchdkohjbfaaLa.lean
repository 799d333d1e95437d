/- Pools of rows in pages: what the laws call: ints, row. -/
import Derived.Test.YtcfhchdkohjbfaaIi
import Derived.RangeFuncNested
import Derived.RangeFuncBound
import Derived.RangeFuncCalls
import Derived.RangeFuncLeaves
import Derived.Shelf.Abstract
import Derived.Shelf.RegionOpen
import Derived.OwnWalkIn
import Derived.TacticsInMore
import Derived.LoopNIn
import Derived.LoopIn
import Derived.Maps.AppendAt
import Derived.Sort.QuietIn
namespace Go.Proofs.Ytcfhchdkohjbfaa.Kv
set_option maxRecDepth 100000
open Go.ChangeShapes Go.WideShapes Go.ChangeAt Go.RowKit Go.Shelf Go.Proofs.Ytcfhchdkohjbfaa.Tn
attribute [local go_sem] Oper.semAt_some

abbrev Ix (N : Nat) := { q : Nat // q < N }
def numV (L : List Int) (q : Nat) : Value := .int .i64 (L.getD q 0)
set_option maxHeartbeats 4000000 in
theorem vals_in (m : Nat) (hm : 1 ≤ m) (l bs n0 : Nat) (_hbs : bs < n0) (L : List Int) (N : Nat) (hN : L.length = N) (hN2 : N ≤ 1000000) (sp : Option Addr) (cap : Nat) (hcap : N ≤ cap) (b : Option Nat) (hb : ∀ c, b = some c → c < n0) (J Jx : List Nat → World → Prop)
    (hY : ∀ pre x W, x < N → J pre W → pre.length < N → YieldAt Fence.wide (m - 1) Try.prog l #[numV L x] W fun e W' => (e = .returned (.bool true) ∧ J (pre ++ [x]) W' ∧ Below n0 W W') ∨ (e = .returned (.bool false) ∧ Jx (pre ++ [x]) W'))
    (W : World) (_hJ : AbidesFrom W.heap.size J) (cs : W.cell? ⟨bs, 0, none⟩ = some (.slice sp N cap)) (hrow : Row W 3 (.slice sp N cap) b (L.map (Value.int .i64))) (h0 : J [] W) :
    CallsIn Fence.wide m Try.prog 67 #[.func (.yield l) #[] #[], .pointer (some ⟨bs, 0, none⟩)] W fun e W' => (∃ v, e = .returned v) ∧ ((∃ ys, ys = List.range N ∧ J ys W') ∨ (∃ pre, True ∧ Jx pre W')) := by
  refine callsIn_of_wp Try.func67 rfl trivial ?_ rfl
  simp only [Try.ntmps67, List.size_toArray, List.length_cons, List.length_nil, Nat.reduceAdd, Nat.reduceSub, Array.replicate_succ, Array.replicate_zero, List.push_toArray, List.append_toArray, List.nil_append, List.cons_append]
  have HY := Lib.hid hY
  have HRow := Lib.hid hrow
  have HN := Lib.hid hN
  have HB := Lib.hid hb
  clear hY hrow hN hb
  gi_wp2
  gi_loopw [7] (fun t wr => ∃ q : Nat, q ≤ N ∧ t = .int .i64 (q : Int) ∧ J (List.range q) wr ∧ Row wr 3 (.slice sp N cap) b (L.map (Value.int .i64))) (fun t _ => N + 1 - (intOf t).toNat)
  case atStart => exact ⟨0, by omega, rfl, h0, HRow.out⟩
  case round =>
    obtain ⟨q, hq, rfl, hJr, hr⟩ := hrel
    have HJr := Lib.hid hJr
    have HR := Lib.hid hr
    clear hJr hr
    by_cases hlt : q < N
    · have hdt : decide (q < N) = true := by simpa using hlt
      have hdt2 : decide ((q : Int) < (N : Int)) = true := by simp; omega
      obtain ⟨sp', cap', he, _, _, _, hcl⟩ := HR.out.toSl
      injection he with e1 e2 e3
      subst e1
      subst e3
      clear e2
      obtain ⟨d, hbd, rfl, hcl2⟩ := hcl (by rw [List.length_map, HN.out]; omega)
      obtain ⟨x, hx⟩ : ∃ x, L.getD q 0 = x := ⟨_, rfl⟩
      have q4 : wr.cell? ⟨d, q, none⟩ = some (.int .i64 x) := hcl2 q _ (by
        rw [List.getElem?_map, List.getElem?_eq_getElem (by rw [HN.out]; exact hlt)]
        rw [← hx, List.getD_eq_getElem?_getD, List.getElem?_eq_getElem (by rw [HN.out]; exact hlt)]
        rfl)
      have HX := Lib.hid hx
      have HBd := Lib.hid hbd
      clear hx hcl hcl2 hbd
      obtain ⟨fn, tmps, assign, body, hy, hRr⟩ := HY.out (List.range q) q wr hlt HJr.out (by simpa using hlt)
      have HRr := Lib.hid hRr
      unfold numV at hy
      rw [HX.out] at hy
      clear hRr
      gi_wp2
      refine HRr.out.mono ?_
      rintro e W3 (⟨rfl, hJ3, hb3⟩ | ⟨rfl, hJx3⟩)
      · have hr3 := HR.out.kept (w' := W3) (fun c hc => hb3.block c (HB.out c hc))
        rw [← List.range_succ] at hJ3
        have HJ3 : Hid (J (List.range (q + 1)) W3) := hJ3
        have HR3 := Lib.hid hr3
        clear hJ3 hb3 hr3
        gi_wp2
        go_roundw
        case rel => exact ⟨q + 1, by omega, by go_num, HJ3.out, HR3.out⟩
        case measure => simp [intOf]; omega
      · have HJx3 : Hid (Jx (List.range q ++ [q]) W3) := hJx3
        clear hJx3
        gi_wp2
        (try simp only [Exit.inBlock, Exit.then])
        refine bodyPost_ret (results_none rfl _ _ _) rfl ?_
        exact ⟨⟨_, rfl⟩, .inr ⟨_, trivial, HJx3.out⟩⟩
    · obtain rfl : q = N := by omega
      have hdf : decide (q < q) = false := by simp
      have hdf2 : decide ((q : Int) < (q : Int)) = false := by simp
      gi_wp2
      go_end0
      exact ⟨⟨_, rfl⟩, .inl ⟨_, rfl, HJr.out⟩⟩
theorem vals_stops (m : Nat) (hm : 1 ≤ m) (bs n0 : Nat) (hbs : bs < n0) (L : List Int) (N : Nat) (hN : L.length = N) (hN2 : N ≤ 1000000) (sp : Option Addr) (cap : Nat) (hcap : N ≤ cap) (b : Option Nat) (hb : ∀ c, b = some c → c < n0) (w : World) (cs : w.cell? ⟨bs, 0, none⟩ = some (.slice sp N cap)) (hrow : Row w 3 (.slice sp N cap) b (L.map (Value.int .i64))) :
    SeqStopsK Fence.wide m Try.prog 67 #[.pointer (some ⟨bs, 0, none⟩)] (fun x : Ix N => #[numV L x.val]) (Below n0) (fun ys => ys.map Subtype.val = List.range N) (fun _ => True) N w := fun l J Jx W hW hJ hJx hY h0 => by
  have h := vals_in m hm l bs n0 hbs L N hN hN2 sp cap hcap b hb (fun ys W => ∃ la : List (Ix N), la.map Subtype.val = ys ∧ J la W) (fun _ W => ∃ la : List (Ix N), Jx la W) (fun pre x W' hx ⟨la, e1, hj⟩ hlen => by
      refine (hY la ⟨x, hx⟩ W' hj (by rw [← e1, List.length_map] at hlen; exact hlen)).mono ?_
      rintro e w' (⟨h1, h2, h3⟩ | ⟨h1, h2⟩)
      · exact .inl ⟨h1, ⟨la ++ [⟨x, hx⟩], by simp [e1], h2⟩, h3⟩
      · exact .inr ⟨h1, _, h2⟩) W (fun s A B row ⟨la, e1, hj⟩ hg hr => ⟨la, e1, hJ la A B row hj hg hr⟩)
    ((hW.cell (block_lt_of_cell cs)).trans cs) (hrow.kept fun c hc => hW.block c (hrow.lt hc)) ⟨[], rfl, h0⟩
  refine h.mono ?_
  rintro e w' ⟨h1, (⟨ys, rfl, la, e1, hj⟩ | ⟨_, _, la, hj⟩)⟩
  · exact ⟨h1, .inl ⟨la, e1, hj⟩⟩
  · exact ⟨h1, .inr ⟨la, trivial, hj⟩⟩
end Go.Proofs.Ytcfhchdkohjbfaa.Kv
