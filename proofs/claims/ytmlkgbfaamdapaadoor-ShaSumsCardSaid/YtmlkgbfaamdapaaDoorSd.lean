import Derived.Test.YtmlkgbfaamdapaaDoorSc
import Derived.Test.YtmlkgbfaamdapaaDoorQv
namespace Go.Proofs.YtmlkgbfaamdapaaDoor
open Go.ChangeShapes Go.WideShapes Go.ChangeAt Go.RowKit

structure Kept (w : World) (g : Nat) (cs : Array Value) (t : TypeId) (W : World) : Prop where
  below : Below w.heap.size w W
  ge : w.heap.size ≤ g
  lt : g < W.heap.size
  row : W.heap[g]? = some (.cells cs t (0, 0))
theorem Kept.next {w : World} {g : Nat} {cs : Array Value} {t : TypeId} {W V : World} (h : Kept w g cs t W) (hb : Below W.heap.size W V) : Kept w g cs t V :=
  ⟨h.below.trans (hb.mono h.below.size), h.ge, Nat.lt_of_lt_of_le h.lt hb.size, by rw [hb.block _ h.lt]; exact h.row⟩
theorem Kept.cell {w : World} {g : Nat} {cs : Array Value} {t : TypeId} {W : World} (h : Kept w g cs t W) (i : Nat) : W.cell? ⟨g, i, none⟩ = cs[i]? := by
  rw [cell_of_row _ _ _ _ _ _ h.row]
theorem cf34 (vs : Array Value) (W : World) : (callFunc 34 vs).run Tryd.prog W = .ok (.enter 34 vs) W := cf Tryd.func34 (by kernel_rfl) (by kernel_rfl) vs W

theorem exec_load_int {a : Act} {o : Oper} {W : World} (x : Operand) (ho : o.op = .load 3 x) (g i : Nat) (z : Int) (hx : a.eval x = .pointer (some ⟨g, i, none⟩)) (hc : W.cell? ⟨g, i, none⟩ = some (.int .i64 z)) : (execOp a.eval o).run Tryd.prog W = .ok (.value (.int .i64 z)) W := by
  unfold execOp
  simp only [ho, hx, Instr.loadAt, Instr.sureAddr, Sem.run_bind, Sem.run_pure, Result.andThen_ok]
  simp [go_sem, hc]
theorem rotr_in (x : Int) (k : Nat) (h1 : 0 ≤ x) (h2 : x < 4294967296) (hk : 1 ≤ k) (hk2 : k ≤ 31) : 0 ≤ rotr x k ∧ rotr x k < 4294967296 := by
  rw [← rot_int x k h1 h2 hk hk2]; omega
theorem xor_in (a b : Int) (h1 : 0 ≤ a) (h2 : a < 4294967296) (h3 : 0 ≤ b) (h4 : b < 4294967296) : 0 ≤ bits .xor .u32 a b ∧ bits .xor .u32 a b < 4294967296 := by
  rw [u32_xor a b h1 h2 h3 h4]
  have := Nat.xor_lt_two_pow (n := 32) (x := a.toNat) (y := b.toNat) (by omega) (by omega)
  omega
theorem and_in (a b : Int) (h1 : 0 ≤ a) (h2 : a < 4294967296) (h3 : 0 ≤ b) (h4 : b < 4294967296) : 0 ≤ bits .and .u32 a b ∧ bits .and .u32 a b < 4294967296 := by
  rw [u32_and a b h1 h2 h3 h4]
  have := Nat.and_lt_two_pow (n := 32) a.toNat (y := b.toNat) (by omega)
  omega
theorem run_xor64 (a b : Int) (h1 : 0 ≤ a) (h2 : a < 4294967296) (h3 : 0 ≤ b) (h4 : b < 4294967296) (w : World) : (binOp .xor 3 (.int .i64 a) (.int .i64 b)).run Tryd.prog w = .ok (.int .i64 (bits .xor .u32 a b)) w := by
  rw [← i64_xor a b h1 h2 h3 h4]
  simp [go_sem]
theorem exec_call2 {P : Program} {a : Act} {o : Oper} {W : World} (f : FuncId) (x y : Operand) (ats : Array TypeId) (v u : Value) (ho : o.op = .call { callee := .value (.func f), args := #[x, y], argTypes := ats }) (hx : a.eval x = v) (hy : a.eval y = u)
    (hf : (callFunc f #[v, u]).run P W = .ok (.enter f #[v, u]) W) : (execOp a.eval o).run P W = .ok (.enter f #[v, u]) W :=
  exec_call f #[x, y] ats #[v, u] ho (by simp [hx, hy]) hf

def thr (x : Int) (a b c : Nat) (down : Bool) : Int := bits .xor .u32 (bits .xor .u32 (rotr x a) (rotr x b)) (if down then x / 2 ^ c else rotr x c)
set_option maxHeartbeats 1000000 in
theorem three_any (x : Int) (a b c : Nat) (down : Bool) (h1 : 0 ≤ x) (h2 : x < 4294967296) (ha : 2 ≤ a ∧ a ≤ 31) (hb : 2 ≤ b ∧ b ≤ 31) (hc : 2 ≤ c ∧ c ≤ 31) (w : World) :
    Calls Tryd.prog 28 #[.int .i64 x, .agg #[.int .i64 a, .int .i64 b, .int .i64 c], .bool down] w fun e w' => e = .returned (.int .i64 (thr x a b c down)) ∧ Below w.heap.size w w' := by
  have ca := turned_any x a h1 h2 ha.1 ha.2
  have cb := turned_any x b h1 h2 hb.1 hb.2
  have cc := turned_any x c h1 h2 hc.1 hc.2
  have HBA := Lib.hid (rotr_in x a h1 h2 (by omega) ha.2)
  have HBB := Lib.hid (rotr_in x b h1 h2 (by omega) hb.2)
  have HBC := Lib.hid (rotr_in x c h1 h2 (by omega) hc.2)
  have CA := Lib.hid ca
  have CB := Lib.hid cb
  have CC := Lib.hid cc
  clear ca cb cc
  obtain ⟨T, hT⟩ : ∃ T, thr x a b c down = T := ⟨_, rfl⟩
  rw [hT]
  unfold thr at hT
  have HT := Lib.hid hT
  clear hT
  go_enter Tryd.func28, Tryd.ntmps28
  go_wp2_with fail
  refine gen_world (Q := fun w => Calls _ _ _ w _) _ (fun W => Kept w w.heap.size #[.int .i64 a, .int .i64 b, .int .i64 c] 62 W) ⟨(Below.refl _ _).alloc (Nat.le_refl _) _, Nat.le_refl _, (Array.getElem?_eq_some_iff.1 (heap_alloc_new _ _)).1, heap_alloc_new _ _⟩ ?_
  intro w1 k1
  refine (CC.out w1).mono ?_
  rintro e w2 ⟨rfl, hb2⟩
  have k2 := k1.next hb2
  clear k1 hb2
  have l0 := k2.cell 0
  have l1 := k2.cell 1
  have l2 := k2.cell 2
  have K2 := Lib.hid k2
  clear k2
  obtain ⟨ra, hra⟩ : ∃ r, rotr x a = r := ⟨_, rfl⟩
  obtain ⟨rb, hrb⟩ : ∃ r, rotr x b = r := ⟨_, rfl⟩
  obtain ⟨rc, hrc⟩ : ∃ r, rotr x c = r := ⟨_, rfl⟩
  rw [hra, hrb, hrc] at HT
  rw [hra] at CA HBA
  rw [hrb] at CB HBB
  rw [hrc] at CC HBC ⊢
  have HRA := Lib.hid hra
  clear hra hrb hrc
  have BA := HBA.out
  have BB := HBB.out
  have BC := HBC.out
  have e1 := run_xor64 ra rb BA.1 BA.2 BB.1 BB.2
  have BX := xor_in ra rb BA.1 BA.2 BB.1 BB.2
  have kA : ∀ W, Kept w w.heap.size #[.int .i64 a, .int .i64 b, .int .i64 c] 62 W → Calls Tryd.prog 34 #[.int .i64 x, .int .i64 a] W fun e W' => e = .returned (.int .i64 ra) ∧ Kept w w.heap.size #[.int .i64 a, .int .i64 b, .int .i64 c] 62 W' :=
    fun W hW => (CA.out W).mono fun e W' h => ⟨h.1, hW.next h.2⟩
  have kB : ∀ W, Kept w w.heap.size #[.int .i64 a, .int .i64 b, .int .i64 c] 62 W → Calls Tryd.prog 34 #[.int .i64 x, .int .i64 b] W fun e W' => e = .returned (.int .i64 rb) ∧ Kept w w.heap.size #[.int .i64 a, .int .i64 b, .int .i64 c] 62 W' :=
    fun W hW => (CB.out W).mono fun e W' h => ⟨h.1, hW.next h.2⟩
  have KA := Lib.hid kA
  have KB := Lib.hid kB
  clear kA kB CA CB CC
  have HX2 : ∀ y, 0 ≤ y → y < 4294967296 → ∀ w, (binOp .xor 3 (.int .i64 (bits .xor .u32 ra rb)) (.int .i64 y)).run Tryd.prog w = .ok (.int .i64 (bits .xor .u32 (bits .xor .u32 ra rb) y)) w := fun y h3 h4 => run_xor64 _ y BX.1 BX.2 h3 h4
  have HX3 := Lib.hid HX2
  have HE1 := Lib.hid e1
  clear HX2 e1
  obtain ⟨X, hX⟩ : ∃ X, bits .xor .u32 ra rb = X := ⟨_, rfl⟩
  rw [hX] at HT HX3 HE1
  clear hX BX BA BB
  cases down
  · have HT' : Hid (bits .xor .u32 X rc = T) := HT
    have HE2 := Lib.hid (HX3.out rc BC.1 BC.2)
    clear HT HX3 BC
    obtain ⟨y, hy⟩ : ∃ y, rc = y := ⟨_, rfl⟩
    rw [hy] at HT' HE2 ⊢
    clear hy
    go_wp2_with fail
    refine wp_region_quiet (C := fun W => Kept w w.heap.size #[.int .i64 a, .int .i64 b, .int .i64 c] 62 W) (by kernel_rfl) (by kernel_rfl) (K2.out.next (Below.refl _ _).drew) ?_
    refine q_val _ rfl (fun _ _ => rfl) ?_
    simp only [Act.put, List.setIfInBounds_toArray, List.set_cons_succ, List.set_cons_zero]
    refine q_val (.pointer (some ⟨w.heap.size, 0, none⟩)) rfl (fun _ _ => rfl) ?_
    simp only [Act.put, List.setIfInBounds_toArray, List.set_cons_succ, List.set_cons_zero]
    refine q_val (.int .i64 a) rfl (fun W hW => exec_load_int (.tmp 18) rfl w.heap.size 0 a rfl (hW.cell 0)) ?_
    simp only [Act.put, List.setIfInBounds_toArray, List.set_cons_succ, List.set_cons_zero]
    refine q_call 34 #[.int .i64 x, .int .i64 a] (.int .i64 ra) rfl (fun _ _ => exec_call2 34 (.tmp 17) (.tmp 19) #[3, 3] _ _ rfl rfl rfl (cf34 _ _)) (fun W hW => KA.out W hW) ?_
    simp only [Act.put, List.setIfInBounds_toArray, List.set_cons_succ, List.set_cons_zero]
    refine q_val _ rfl (fun _ _ => rfl) ?_
    simp only [Act.put, List.setIfInBounds_toArray, List.set_cons_succ, List.set_cons_zero]
    refine q_val (.pointer (some ⟨w.heap.size, 1, none⟩)) rfl (fun _ _ => rfl) ?_
    simp only [Act.put, List.setIfInBounds_toArray, List.set_cons_succ, List.set_cons_zero]
    refine q_val (.int .i64 b) rfl (fun W hW => exec_load_int (.tmp 22) rfl w.heap.size 1 b rfl (hW.cell 1)) ?_
    simp only [Act.put, List.setIfInBounds_toArray, List.set_cons_succ, List.set_cons_zero]
    refine q_call 34 #[.int .i64 x, .int .i64 b] (.int .i64 rb) rfl (fun _ _ => exec_call2 34 (.tmp 21) (.tmp 23) #[3, 3] _ _ rfl rfl rfl (cf34 _ _)) (fun W hW => KB.out W hW) ?_
    simp only [Act.put, List.setIfInBounds_toArray, List.set_cons_succ, List.set_cons_zero]
    refine q_val (.int .i64 X) rfl (fun W _ => exec_binOp .xor 3 3 (.tmp 20) (.tmp 24) rfl _ _ _ rfl rfl rfl (HE1.out W)) ?_
    simp only [Act.put, List.setIfInBounds_toArray, List.set_cons_succ, List.set_cons_zero]
    refine q_val (.int .i64 y) rfl (fun _ _ => rfl) ?_
    simp only [Act.put, List.setIfInBounds_toArray, List.set_cons_succ, List.set_cons_zero]
    refine q_val (.int .i64 (bits .xor .u32 X y)) rfl (fun W _ => exec_binOp .xor 3 3 (.tmp 25) (.tmp 26) rfl _ _ _ rfl rfl rfl (HE2.out W)) ?_
    simp only [Act.put, List.setIfInBounds_toArray, List.set_cons_succ, List.set_cons_zero]
    rw [HT'.out]
    refine q_val (.int .i64 T) rfl (fun _ _ => rfl) ?_
    simp only [Act.put, List.setIfInBounds_toArray, List.set_cons_succ, List.set_cons_zero]
    refine wpQuiet_nil ?_
    intro W hW
    have HW := Lib.hid hW.below
    clear hW l0 l1 l2
    go_wp2
    go_ret
    exact ⟨rfl, HW.out⟩
  · have HT' : Hid (bits .xor .u32 X (x / 2 ^ c) = T) := HT
    have d0 : 0 ≤ x / 2 ^ c := Int.ediv_nonneg h1 (Int.pow_nonneg (by omega))
    have d1 : x / 2 ^ c ≤ x := Int.ediv_le_self _ h1
    have HE2 := Lib.hid (HX3.out (x / 2 ^ c) d0 (by omega))
    clear HT HX3 BC d0 d1
    have r1 := run_shr64 x c (by omega)
    obtain ⟨y, hy⟩ : ∃ y, x / 2 ^ c = y := ⟨_, rfl⟩
    rw [hy] at HT' HE2 r1
    go_wp2_with fail
    clear hy r1
    refine wp_region_quiet (C := fun W => Kept w w.heap.size #[.int .i64 a, .int .i64 b, .int .i64 c] 62 W) (by kernel_rfl) (by kernel_rfl) (K2.out.next (Below.refl _ _).drew) ?_
    refine q_val _ rfl (fun _ _ => rfl) ?_
    simp only [Act.put, List.setIfInBounds_toArray, List.set_cons_succ, List.set_cons_zero]
    refine q_val (.pointer (some ⟨w.heap.size, 0, none⟩)) rfl (fun _ _ => rfl) ?_
    simp only [Act.put, List.setIfInBounds_toArray, List.set_cons_succ, List.set_cons_zero]
    refine q_val (.int .i64 a) rfl (fun W hW => exec_load_int (.tmp 18) rfl w.heap.size 0 a rfl (hW.cell 0)) ?_
    simp only [Act.put, List.setIfInBounds_toArray, List.set_cons_succ, List.set_cons_zero]
    refine q_call 34 #[.int .i64 x, .int .i64 a] (.int .i64 ra) rfl (fun _ _ => exec_call2 34 (.tmp 17) (.tmp 19) #[3, 3] _ _ rfl rfl rfl (cf34 _ _)) (fun W hW => KA.out W hW) ?_
    simp only [Act.put, List.setIfInBounds_toArray, List.set_cons_succ, List.set_cons_zero]
    refine q_val _ rfl (fun _ _ => rfl) ?_
    simp only [Act.put, List.setIfInBounds_toArray, List.set_cons_succ, List.set_cons_zero]
    refine q_val (.pointer (some ⟨w.heap.size, 1, none⟩)) rfl (fun _ _ => rfl) ?_
    simp only [Act.put, List.setIfInBounds_toArray, List.set_cons_succ, List.set_cons_zero]
    refine q_val (.int .i64 b) rfl (fun W hW => exec_load_int (.tmp 22) rfl w.heap.size 1 b rfl (hW.cell 1)) ?_
    simp only [Act.put, List.setIfInBounds_toArray, List.set_cons_succ, List.set_cons_zero]
    refine q_call 34 #[.int .i64 x, .int .i64 b] (.int .i64 rb) rfl (fun _ _ => exec_call2 34 (.tmp 21) (.tmp 23) #[3, 3] _ _ rfl rfl rfl (cf34 _ _)) (fun W hW => KB.out W hW) ?_
    simp only [Act.put, List.setIfInBounds_toArray, List.set_cons_succ, List.set_cons_zero]
    refine q_val (.int .i64 X) rfl (fun W _ => exec_binOp .xor 3 3 (.tmp 20) (.tmp 24) rfl _ _ _ rfl rfl rfl (HE1.out W)) ?_
    simp only [Act.put, List.setIfInBounds_toArray, List.set_cons_succ, List.set_cons_zero]
    refine q_val (.int .i64 y) rfl (fun _ _ => rfl) ?_
    simp only [Act.put, List.setIfInBounds_toArray, List.set_cons_succ, List.set_cons_zero]
    refine q_val (.int .i64 (bits .xor .u32 X y)) rfl (fun W _ => exec_binOp .xor 3 3 (.tmp 25) (.tmp 26) rfl _ _ _ rfl rfl rfl (HE2.out W)) ?_
    simp only [Act.put, List.setIfInBounds_toArray, List.set_cons_succ, List.set_cons_zero]
    rw [HT'.out]
    refine q_val (.int .i64 T) rfl (fun _ _ => rfl) ?_
    simp only [Act.put, List.setIfInBounds_toArray, List.set_cons_succ, List.set_cons_zero]
    refine wpQuiet_nil ?_
    intro W hW
    have HW := Lib.hid hW.below
    clear hW l0 l1 l2
    go_wp2
    go_ret
    exact ⟨rfl, HW.out⟩
end Go.Proofs.YtmlkgbfaamdapaaDoor
