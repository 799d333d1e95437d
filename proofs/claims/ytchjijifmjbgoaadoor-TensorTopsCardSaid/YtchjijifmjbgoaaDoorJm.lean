import Derived.Test.YtchjijifmjbgoaaDoorJl
namespace Go.Proofs.YtchjijifmjbgoaaDoor.Tn
set_option maxRecDepth 100000
open Go.ChangeShapes Go.WideShapes Go.ChangeAt Go.RowKit Go.Shelf Go.Proofs.YtchjijifmjbgoaaDoor.Fx Go.Proofs.YtchjijifmjbgoaaDoor.Rf
attribute [local go_sem] Oper.semAt_some

theorem abides_drawN {J : List Nat → World → Prop} {B : Nat} (h : AbidesFrom B J) {s : List Nat} {w : World} (n : Nat) (hs : J s w) : J s (w.drewN n) := h s w _ none hs ⟨rfl, rfl, rfl, Nat.le_refl _, fun _ _ _ => rfl⟩ (fun r e => by cases e)
set_option maxHeartbeats 4000000 in
theorem chunk1_in (m : Nat) (hm : 1 ≤ m) (l bs bn n0 : Nat) (hbs : bs < n0) (hbn : bn < n0) (sp : Option Addr) (cap N C R : Nat) (hN : N = R * C) (hC : 1 ≤ C) (hN2 : N ≤ 32768) (hcap : N ≤ cap) (J Jx : List Nat → World → Prop)
    (hY : ∀ pre x W, x < R → J pre W → pre.length < R → YieldAt Fence.wide (m - 1) Tryd.prog l #[rowS sp cap C x] W fun e W' => (e = .returned (.bool true) ∧ J (pre ++ [x]) W' ∧ Below n0 W W') ∨ (e = .returned (.bool false) ∧ Jx (pre ++ [x]) W'))
    (W : World) (hJ : AbidesFrom W.heap.size J) (cs : W.cell? ⟨bs, 0, none⟩ = some (.slice sp N cap)) (cn : W.cell? ⟨bn, 0, none⟩ = some (.int .i64 C)) (h0 : J [] W) :
    CallsIn Fence.wide m Tryd.prog 72 #[.func (.yield l) #[] #[], .pointer (some ⟨bs, 0, none⟩), .pointer (some ⟨bn, 0, none⟩)] W fun e W' => (∃ v, e = .returned v) ∧ ((∃ ys, ys = List.range R ∧ J ys W') ∨ (∃ pre, True ∧ Jx pre W')) := by
  refine callsIn_of_wp Tryd.func72 rfl trivial ?_ rfl
  simp only [Tryd.ntmps72, List.size_toArray, List.length_cons, List.length_nil, Nat.reduceAdd, Nat.reduceSub, Array.replicate_succ, Array.replicate_zero, List.push_toArray, List.append_toArray, List.nil_append, List.cons_append]
  have HJ : Hid (AbidesFrom W.heap.size J) := hJ
  have HY := Lib.hid hY
  have HN := Lib.hid hN
  clear hJ hY hN
  gi_wp2
  gi_loopw [4] (fun t wr => ∃ q z : Nat, q ≤ R ∧ q * C = z ∧ t = .int .i64 (z : Int) ∧ J (List.range q) wr ∧ wr.cell? ⟨bs, 0, none⟩ = some (.slice sp N cap) ∧ wr.cell? ⟨bn, 0, none⟩ = some (.int .i64 C)) (fun t _ => N + 1 - (intOf t).toNat)
  case atStart => exact ⟨0, 0, by omega, by omega, rfl, h0, cs, cn⟩
  case round =>
    obtain ⟨q, z, hq, hz, rfl, hJr, csr, cnr⟩ := hrel
    by_cases hlt : q < R
    · have hzN : z + C ≤ N := by rw [HN.out, ← hz]; exact row_in hlt
      have hz1 : (q + 1) * C = z + C := by rw [Nat.add_mul, Nat.one_mul, hz]
      have HZ1 := Lib.hid hz1
      have HRow : Hid (rowS sp cap C q = .slice (cutA sp cap z) C C) := Lib.hid (by unfold rowS; rw [hz])
      have HJd := Lib.hid (fun n => abides_drawN HJ.out n hJr)
      have k1 := run_tail sp N cap z (by omega) hcap
      have k2 := run_three sp N cap z (z + C) (by omega) (by omega)
      rw [show z + C - z = C by omega] at k2
      have hzc : ((z + C : Nat) : Int) = (z : Int) + (C : Int) := by omega
      rw [hzc] at k2
      have hdt : decide (z < N) = true := by simp; omega
      have hCN : C ≤ N - z := by omega
      have hNz : ((N - z : Nat) : Int) = (N : Int) - (z : Int) := by omega
      clear hz hz1 hzc
      gi_wp2
      gi_quiet (fail)
      obtain ⟨fn, tmps, assign, body, hy, hR⟩ := HY.out (List.range q) q (wr.drewN nq) hlt (HJd.out nq) (by simpa using hlt)
      have HR := Lib.hid hR
      rw [HRow.out] at hy
      have csd : (wr.drewN nq).cell? ⟨bs, 0, none⟩ = some (.slice sp N cap) := csr
      have cnd : (wr.drewN nq).cell? ⟨bn, 0, none⟩ = some (.int .i64 C) := cnr
      have HCs := Lib.hid csd
      have HCn := Lib.hid cnd
      clear hR hJr csr cnr k1
      gi_wp2
      refine HR.out.mono ?_
      rintro e W3 (⟨rfl, hJ3, hb3⟩ | ⟨rfl, hJx3⟩)
      · have c1 := (hb3.cell (p := ⟨bs, 0, none⟩) hbs).trans HCs.out
        have c2 := (hb3.cell (p := ⟨bn, 0, none⟩) hbn).trans HCn.out
        rw [← List.range_succ] at hJ3
        have HJ3 : Hid (J (List.range (q + 1)) W3) := hJ3
        clear hJ3 hb3 csd cnd
        gi_wp2
        go_roundw
        case rel => exact ⟨q + 1, z + C, by omega, HZ1.out, by go_num, HJ3.out, c1, c2⟩
        case measure => simp [intOf]; omega
      · have HJx3 : Hid (Jx (List.range q ++ [q]) W3) := hJx3
        clear hJx3 csd cnd
        gi_wp2
        (try simp only [Exit.inBlock, Exit.then])
        refine bodyPost_ret (results_none rfl _ _ _) rfl ?_
        exact ⟨⟨_, rfl⟩, .inr ⟨_, trivial, HJx3.out⟩⟩
    · obtain rfl : q = R := by omega
      have hzN : z = N := by rw [← hz, HN.out]
      have hdf : decide (z < N) = false := by simp; omega
      clear hz
      gi_wp2
      go_end0
      exact ⟨⟨_, rfl⟩, .inl ⟨_, rfl, hJr⟩⟩
end Go.Proofs.YtchjijifmjbgoaaDoor.Tn
