import Derived.Test.YtmlkgbfaamdapaaDoorHe
import Derived.Test.YtmlkgbfaamdapaaDoorQu
import Derived.BigQuiet
namespace Go.Proofs.YtmlkgbfaamdapaaDoor
open Go.ChangeShapes Go.WideShapes Go.ChangeAt Go.RowKit

/-- the digits of the first n bytes -/
def hl (d : List Int) : Nat → List Int
  | 0 => []
  | n + 1 => hl d n ++ [digI (d.getD n 0 / 16)] ++ [digI (d.getD n 0 % 16)]
theorem hl_length (d : List Int) : ∀ n, (hl d n).length = 2 * n
  | 0 => rfl
  | n + 1 => by simp [hl, hl_length d n]; omega
theorem str_append (a b : List Int) : strOfNums a ++ strOfNums b = strOfNums (a ++ b) := by
  apply ByteArray.ext
  simp [strOfNums, ByteArray.data_append]
theorem one_digit : ∀ n : Nat, n < 16 → (hexD.extract n (n + 1)) = strOfNums [digI n] := by decide +kernel
theorem run_cut (y z : Int) (h0 : 0 ≤ y) (h1 : y < 16) (hz : z = y + 1) (w : World) : (Instr.slice 9 (.string hexD) (some (.int .i64 y)) (some (.int .i64 z)) none).run Tryd.prog w = .ok (.string (strOfNums [digI y])) w := by
  subst hz
  obtain ⟨n, rfl⟩ := Int.eq_ofNat_of_zero_le h0
  have hs : hexD.size = 16 := rfl
  have e : ((n : Int) + 1).toNat = n + 1 := by omega
  simp only [Instr.slice, run_underlying Tryd.underlying9, Instr.sliceBounds, Instr.sliceBound, asIntOf, Sem.run_bind, Result.andThen_ok, Sem.run_pure, Sem.run_ite]
  simp [hs, e, show (n : Int) + 1 ≤ 16 by omega, show (0 : Int) ≤ (n : Int) + 1 by omega, one_digit n (by omega)]

theorem run_cat (a b : List Int) (h : a.length + b.length ≤ 100) (w : World) : (binOp .add 9 (.string (strOfNums a)) (.string (strOfNums b))).run Tryd.prog w = .ok (.string (strOfNums (a ++ b))) w := by
  rw [← str_append, binOp_string_add, run_string_add_sum _ _ _ (by rw [strOfNums_size, strOfNums_size]; omega)]
theorem run_inc (u : Int) (h0 : 0 ≤ u) (h1 : u < 16) (w : World) : (binOp .add 3 (.int .i64 u) (.int .i64 1)).run Tryd.prog w = .ok (.int .i64 (u + 1)) w := by
  have e : IntKind.i64.wrap (u + 1) = u + 1 := IntWalk.i64_in _ (by omega)
  simp [go_sem, e]
theorem exec_cut {a : Act} {o : Oper} {W : World} (x lo hi : Operand) (ho : o.op = .slice 9 x (some lo) (some hi) none) (s t : ByteArray) (y z : Value) (hx : a.eval x = .string s) (hl : a.eval lo = y) (hh : a.eval hi = z)
    (h : (Instr.slice 9 (.string s) (some y) (some z) none).run Tryd.prog W = .ok (.string t) W) : (execOp a.eval o).run Tryd.prog W = .ok (.value (.string t)) W := by
  unfold execOp
  simp [ho, hx, hl, hh, run_sliceAt_string (P := Tryd.prog) (h := Tryd.underlying9), h]

set_option maxRecDepth 100000 in
set_option maxHeartbeats 2000000 in
theorem rhex_any (w : World) (d : List Int) (hd : d.length = 32) (hb : Byt d) :
    Calls Tryd.prog 17 #[.agg (rowB d)] w fun e w' => e = .returned (.string (strOfNums (hl d 32))) ∧ Below w.heap.size w w' := by
  have HD := Lib.hid hd
  have HB : Hid (Byt d) := hb
  clear hd hb
  go_enter Tryd.func17, Tryd.ntmps17
  go_wp2
  go_loopw [4, 3] (fun i v wr => ∃ n : Nat, n ≤ 32 ∧ i = .int .i64 n ∧ v = .string (strOfNums (hl d n)) ∧ Fl w w.heap.size 25 d wr) (fun i _ _ => 32 - (intOf i).toNat)
  case atStart => exact ⟨0, by omega, rfl, rfl, (Below.refl _ _).alloc (Nat.le_refl _) _, Nat.le_refl _, heap_alloc_new _ _⟩
  case round =>
    obtain ⟨n, hn, rfl, rfl, ht⟩ := hrel
    by_cases hlt : n < 32
    · have hdt : decide ((n : Int) < 32) = true := by simp; omega
      have c1 := ht.cell n (by rw [HD.out]; exact hlt)
      obtain ⟨b0, b1⟩ := HB.out n
      have hs : hl d (n + 1) = hl d n ++ [digI (d.getD n 0 / 16)] ++ [digI (d.getD n 0 % 16)] := rfl
      obtain ⟨x, hxx⟩ : ∃ x, d.getD n 0 = x := ⟨_, rfl⟩
      rw [hxx] at c1 b0 b1 hs
      have HS := Lib.hid hs
      clear hs hxx
      have HLn := Lib.hid (hl_length d n)
      go_wp2
      have u0 : 0 ≤ x / 16 := by omega
      have u1 : x / 16 < 16 := by omega
      have v0 : 0 ≤ x % 16 := by omega
      have v1 : x % 16 < 16 := by omega
      generalize x / 16 = u at u0 u1 HS ⊢
      generalize x % 16 = v at v0 v1 HS ⊢
      have j1 : ∀ w, (Instr.slice 9 (.string ⟨#[48, 49, 50, 51, 52, 53, 54, 55, 56, 57, 97, 98, 99, 100, 101, 102]⟩) (some (.int .i64 u)) (some (.int .i64 (u + 1))) none).run Tryd.prog w = .ok (.string (strOfNums [digI u])) w := run_cut u (u + 1) u0 u1 rfl
      have j2 : ∀ w, (Instr.slice 9 (.string ⟨#[48, 49, 50, 51, 52, 53, 54, 55, 56, 57, 97, 98, 99, 100, 101, 102]⟩) (some (.int .i64 v)) (some (.int .i64 (v + 1))) none).run Tryd.prog w = .ok (.string (strOfNums [digI v])) w := run_cut v (v + 1) v0 v1 rfl
      have k1 := run_cat (hl d n) [digI u] (by rw [HLn.out]; simp; omega)
      have k2 := run_cat (hl d n ++ [digI u]) [digI v] (by rw [List.length_append, HLn.out]; simp; omega)
      generalize hl d n = l at k1 k2 HS HLn ⊢
      refine wp_region_quiet (C := fun W => Fl w w.heap.size 25 d W) (by kernel_rfl) (by kernel_rfl) ⟨⟨ht.below.os, ht.below.tape, ht.below.output, ht.below.size, ht.below.block⟩, ht.ge, ht.row⟩ ?_
      refine q_val _ rfl (fun _ _ => rfl) ?_
      simp only [Act.put, List.setIfInBounds_toArray, List.set_cons_succ, List.set_cons_zero]
      go_big_quiet_step (fail)
      go_big_quiet_step (fail)
      refine q_val (.int .i64 (u + 1)) rfl (fun W _ => exec_binOp .add 3 3 (.tmp 23) (.const (.int .i64 1)) rfl (.int .i64 u) (.int .i64 1) _ rfl rfl rfl (run_inc u u0 u1 W)) ?_
      simp only [Act.put, List.setIfInBounds_toArray, List.set_cons_succ, List.set_cons_zero]
      refine q_val (.string (strOfNums [digI u])) rfl (fun W _ => exec_cut (.const (.string ⟨#[48, 49, 50, 51, 52, 53, 54, 55, 56, 57, 97, 98, 99, 100, 101, 102]⟩)) (.tmp 22) (.tmp 24) rfl _ _ _ _ rfl rfl rfl (j1 W)) ?_
      simp only [Act.put, List.setIfInBounds_toArray, List.set_cons_succ, List.set_cons_zero]
      refine q_val (.string (strOfNums (l ++ [digI u]))) rfl (fun W _ => exec_binOp .add 9 9 (.tmp 21) (.tmp 25) rfl _ _ _ rfl rfl rfl (k1 W)) ?_
      simp only [Act.put, List.setIfInBounds_toArray, List.set_cons_succ, List.set_cons_zero]
      go_big_quiet_step (fail)
      go_big_quiet_step (fail)
      refine q_val (.int .i64 (v + 1)) rfl (fun W _ => exec_binOp .add 3 3 (.tmp 28) (.const (.int .i64 1)) rfl (.int .i64 v) (.int .i64 1) _ rfl rfl rfl (run_inc v v0 v1 W)) ?_
      simp only [Act.put, List.setIfInBounds_toArray, List.set_cons_succ, List.set_cons_zero]
      refine q_val (.string (strOfNums [digI v])) rfl (fun W _ => exec_cut (.const (.string ⟨#[48, 49, 50, 51, 52, 53, 54, 55, 56, 57, 97, 98, 99, 100, 101, 102]⟩)) (.tmp 27) (.tmp 29) rfl _ _ _ _ rfl rfl rfl (j2 W)) ?_
      simp only [Act.put, List.setIfInBounds_toArray, List.set_cons_succ, List.set_cons_zero]
      refine q_val (.string (strOfNums (l ++ [digI u] ++ [digI v]))) rfl (fun W _ => exec_binOp .add 9 9 (.tmp 26) (.tmp 30) rfl _ _ _ rfl rfl rfl (k2 W)) ?_
      simp only [Act.put, List.setIfInBounds_toArray, List.set_cons_succ, List.set_cons_zero]
      go_big_quiet_step (fail)
      refine wpQuiet_nil ?_
      intro W hW
      have HWf := Lib.hid hW
      clear hW ht j1 j2 k1 k2 c1
      go_wp2
      go_roundw
      case rel => exact ⟨n + 1, by omega, by go_num, by rw [HS.out], HWf.out⟩
      case measure => simp [intOf]; omega
    · obtain rfl : n = 32 := by omega
      clear hn hlt
      rw [show ((32 : Nat) : Int) = 32 from rfl]
      have hdf : decide ((32 : Int) < 32) = false := by decide
      have HBl := Lib.hid ht.below
      clear ht
      obtain ⟨S, hS⟩ : ∃ S, strOfNums (hl d 32) = S := ⟨_, rfl⟩
      rw [hS]
      have HS := Lib.hid hS
      clear hS
      go_wp2
      go_ret
      exact ⟨by rw [HS.out]; rfl, HBl.out⟩
end Go.Proofs.YtmlkgbfaamdapaaDoor
