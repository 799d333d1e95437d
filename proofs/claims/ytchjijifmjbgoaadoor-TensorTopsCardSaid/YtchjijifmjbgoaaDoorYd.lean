import Derived.Test.YtchjijifmjbgoaaDoorYb
namespace Go.Proofs.YtchjijifmjbgoaaDoor.Tn
set_option maxRecDepth 100000
open Go.ChangeShapes Go.WideShapes Go.ChangeAt Go.RowKit Go.Sort Go.Proofs.YtchjijifmjbgoaaDoor.Fx Go.Proofs.YtchjijifmjbgoaaDoor.Rf

set_option maxHeartbeats 8000000 in
theorem rev_any {wb : World} {g : FuncId} {recv : Value} {n : Nat} {cf : Nat → Nat → Int} (S : Srt wb g recv n cf) (w : World) (P : Nat) (d : Array Nat) (hs : SrtW wb P n w d w) (a b : Nat) (hab : a < b) (hb : b ≤ n) :
    Calls Tryd.prog 94 #[.slice (some ⟨P, 0, none⟩) n n, .int .i64 a, .int .i64 b, .func (.func g) #[recv] #[]] w fun e w' => e = .returned (.tuple #[]) ∧ ∃ d', SrtW wb P n w d' w' ∧ PermIn a b d d' := by
  have mixed : Tryd.prog.follows Departure.mixedOrders = true := by kernel_rfl
  have hn := S.le
  have HW : Hid (SrtW wb P n w d w) := hs
  obtain ⟨b1, hb1⟩ : ∃ b1, b = b1 + 1 := ⟨b - 1, by omega⟩
  have HB1 := Lib.hid hb1
  have e1 : (b : Int) - 1 = (b1 : Int) := by omega
  have w1 : IntKind.i64.wrap (b1 : Int) = (b1 : Int) := IntWalk.i64_in _ (by omega)
  have hsz := hs.size
  have hbd : b ≤ d.size := by omega
  clear S hs hb1
  go_enter Tryd.func94, Tryd.ntmps94
  go_wp2
  go_loopw [8, 9] (fun t u wr => ∃ (i j : Nat) (d1 : Array Nat), a ≤ i ∧ i ≤ 1000 ∧ j < b ∧ t = .int .i64 i ∧ u = .int .i64 j ∧ SrtW wb P n w d1 wr ∧ PermIn a b d d1) (fun t _ _ => 1001 - (intOf t).toNat)
  case atStart => exact ⟨a, b1, d, by omega, by omega, by have := HB1.out; omega, rfl, rfl, HW.out, permIn_refl _ _ _⟩
  case round =>
    clear HW
    obtain ⟨i, j, d1, hai, hi, hj, rfl, rfl, hW, hP⟩ := hrel
    have HW := Lib.hid hW
    have HP := Lib.hid hP
    clear hW hP
    by_cases hlt : i < j
    · have hdt : decide ((i : Int) < (j : Int)) = true := by simp; omega
      have hdt2 : decide (i < j) = true := by simpa using hlt
      have hin : i < n := by omega
      have hjn : j < n := by omega
      have HP2 := Lib.hid (perm_swap (i := i) (j := j) HP.out hbd (by omega) (by omega) (by omega) (by omega))
      obtain ⟨j1, hj1⟩ : ∃ j1, j = j1 + 1 := ⟨j - 1, by omega⟩
      have ej : (j : Int) - 1 = (j1 : Int) := by omega
      have wj : IntKind.i64.wrap (j1 : Int) = (j1 : Int) := IntWalk.i64_in _ (by omega)
      have HJ1 := Lib.hid hj1
      clear hj1
      have c1 := HW.out.cell (i) hin
      have c2 := HW.out.cell (j) hjn
      have c3 := HW.out.cell3 (i) (j) hin hjn
      have f1 := HW.out.frozen (i)
      have f2 := HW.out.frozen (j)
      have HW5 := Lib.hid (HW.out.swap (i) (j) hin hjn)
      obtain ⟨x, hx⟩ : ∃ x, d1[i]! = x := ⟨_, rfl⟩
      obtain ⟨y, hy⟩ : ∃ y, d1[j]! = y := ⟨_, rfl⟩
      rw [hx, hy] at HW5 
      rw [hx] at c1
      rw [hy] at c2 c3
      clear hx hy
      go_wp2
      go_big_region_o
      clear c1 c2 c3 f1 f2 HW
      generalize ((wr.setCell ⟨P, i, none⟩ (.int .i64 (y : Int))).setCell ⟨P, j, none⟩ (.int .i64 (x : Int))).drew = w5 at HW5  ⊢

      go_wp2
      go_roundw
      case rel => exact ⟨i + 1, j1, _, by omega, by omega, by have := HJ1.out; omega, by first | rfl | go_num, by first | rfl | go_num, HW5.out, HP2.out⟩
      case measure => simp [intOf]; omega
    · have hdt : decide ((i : Int) < (j : Int)) = false := by simp; omega
      have hdt2 : decide (i < j) = false := by simp; omega
      go_wp2
      go_end0
      exact ⟨rfl, d1, HW.out, HP.out⟩
/-- while a number is drawn -/
structure RnW (w : World) (g : Nat) (x : Int) (W : World) : Prop where
  grown : w.grownBy W (some g)
  row : W.heap[g]? = some (.cells #[.int .u64 x] 121 (0, 0))
theorem RnW.set {w W : World} {g : Nat} {x : Int} (h : RnW w g x W) (y : Int) : RnW w g y (W.setCell ⟨g, 0, none⟩ (.int .u64 y)).drew := by
  refine ⟨grown_trans h.grown ⟨rfl, rfl, rfl, by simp, fun k _ hk => ?_⟩, ?_⟩
  · have hne : k ≠ g := fun e => hk (by rw [e])
    exact heap_setCell_other _ ⟨g, 0, none⟩ _ _ (by simpa using hne)
  · have := heap_setCell_same W g 0 _ 121 (.int .u64 y) h.row
    have h2 : (W.setCell ⟨g, 0, none⟩ (.int .u64 y)).heap[g]? = some (.cells #[.int .u64 y] 121 (0, 0)) := by simpa using this
    exact h2
theorem RnW.cell {w W : World} {g : Nat} {x : Int} (h : RnW w g x W) : W.cell? ⟨g, 0, none⟩ = some (.int .u64 x) := by rw [cell_of_row _ _ _ _ _ _ h.row]; rfl
theorem RnW.frozen {w W : World} {g : Nat} {x : Int} (h : RnW w g x W) : W.frozen? ⟨g, 0, none⟩ = false := frozen_of_row _ _ _ _ _ h.row
theorem bits_u64 (op : BinOp) (a b : Int) : 0 ≤ bits op .u64 a b ∧ bits op .u64 a b < 18446744073709551616 := by
  unfold bits
  simp only [IntKind.wrap_u64]
  omega
set_option maxHeartbeats 8000000 in
theorem next_any (w : World) (g : Nat) (x : Int) (h : w.heap[g]? = some (.cells #[.int .u64 x] 121 (0, 0))) :
    Calls Tryd.prog 103 #[.pointer (some ⟨g, 0, none⟩)] w fun e w' => ∃ y : Int, 0 ≤ y ∧ y < 18446744073709551616 ∧ e = .returned (.int .u64 y) ∧ RnW w g y w' := by
  have HW : Hid (RnW w g x w) := Lib.hid ⟨⟨rfl, rfl, rfl, Nat.le_refl _, fun _ _ _ => rfl⟩, h⟩
  clear h
  have mixed : Tryd.prog.follows Departure.mixedOrders = true := by kernel_rfl
  have hc := HW.out.cell
  have hf := HW.out.frozen
  go_enter Tryd.func103, Tryd.ntmps103
  go_wp2
  go_big_region_o
  generalize bits _ _ _ _ = x1
  have HW1 := Lib.hid (HW.out.set x1)
  generalize (w.setCell ⟨g, 0, none⟩ (.int .u64 x1)).drew = w1 at HW1 ⊢
  clear hc hf HW
  have hc := HW1.out.cell
  have hf := HW1.out.frozen
  go_wp2
  go_big_region_o
  generalize bits _ _ _ _ = x2
  have HW2 := Lib.hid (HW1.out.set x2)
  generalize (w1.setCell ⟨g, 0, none⟩ (.int .u64 x2)).drew = w2 at HW2 ⊢
  clear hc hf HW1
  have hc := HW2.out.cell
  have hf := HW2.out.frozen
  go_wp2
  go_big_region_o
  have hb := bits_u64 .xor x2 (IntKind.u64.wrap (x2 * 131072))
  obtain ⟨x3, h3⟩ : ∃ x3, bits .xor .u64 x2 (IntKind.u64.wrap (x2 * 131072)) = x3 := ⟨_, rfl⟩
  rw [h3] at hb ⊢
  have HBx := Lib.hid hb
  clear hb h3
  have HW3 := Lib.hid (HW2.out.set x3)
  generalize (w2.setCell ⟨g, 0, none⟩ (.int .u64 x3)).drew = w3 at HW3 ⊢
  clear hc hf HW2
  have hc := HW3.out.cell
  go_wp2
  go_ret
  exact ⟨x3, HBx.out.1, HBx.out.2, rfl, HW3.out⟩
/-- a world of breakPatterns: places d1, and a number that is drawn from -/
structure BrW (wb : World) (P n : Nat) (w0 : World) (g : Nat) (d : Array Nat) (W : World) : Prop where
  s : SrtW wb P n w0 d W
  rnd : ∃ x, W.heap[g]? = some (.cells #[.int .u64 x] 121 (0, 0))
theorem BrW.next {wb : World} {P n : Nat} {w0 : World} {g : Nat} {d : Array Nat} {W W' : World} {y : Int} (h : BrW wb P n w0 g d W) (hg : w0.heap.size ≤ g) (hP : P < w0.heap.size) (hb : wb.heap.size ≤ g) (hr : RnW W g y W') : BrW wb P n w0 g d W' := by
  have hs := h.s
  refine ⟨⟨⟨hr.grown.os.trans hs.below.os, hr.grown.tape.trans hs.below.tape, hr.grown.output.trans hs.below.output, Nat.le_trans hs.below.size hr.grown.size, fun k hk => ?_⟩, ⟨hr.grown.os.trans hs.grown.os, hr.grown.tape.trans hs.grown.tape, hr.grown.output.trans hs.grown.output, Nat.le_trans hs.grown.size hr.grown.size, fun k hk hne => ?_⟩, ?_, hs.size, hs.all, hs.big⟩, ⟨y, hr.row⟩⟩
  · exact (hr.grown.block k (Nat.lt_of_lt_of_le hk hs.below.size) (fun e => by cases e; omega)).trans (hs.below.block k hk)
  · exact (hr.grown.block k (Nat.lt_of_lt_of_le hk hs.grown.size) (fun e => by cases e; omega)).trans (hs.grown.block k hk hne)
  · exact (hr.grown.block P hs.lt (fun e => by cases e; omega)).trans hs.row
theorem BrW.swap {wb : World} {P n : Nat} {w0 : World} {g : Nat} {d : Array Nat} {W : World} (h : BrW wb P n w0 g d W) (hgP : g ≠ P) (i j : Nat) (hi : i < n) (hj : j < n) : BrW wb P n w0 g (swp d i j) ((W.setCell ⟨P, i, none⟩ (.int .i64 ((d[j]! : Nat) : Int))).setCell ⟨P, j, none⟩ (.int .i64 ((d[i]! : Nat) : Int))).drew := by
  obtain ⟨x, hx⟩ := h.rnd
  refine ⟨h.s.swap i j hi hj, x, ?_⟩
  have h2 : ((W.setCell ⟨P, i, none⟩ (.int .i64 ((d[j]! : Nat) : Int))).setCell ⟨P, j, none⟩ (.int .i64 ((d[i]! : Nat) : Int))).heap[g]? = W.heap[g]? := by
    rw [heap_setCell_other _ ⟨P, j, none⟩ _ _ (by simpa using hgP), heap_setCell_other _ ⟨P, i, none⟩ _ _ (by simpa using hgP)]
  exact h2.trans hx
theorem land_mask (y : Int) (L : Nat) (h0 : 0 ≤ y) (h1 : y < 18446744073709551616) (hL : L ≤ 63) : bits .and .u64 y (((2 ^ L : Nat) : Int) - 1) = y % ((2 ^ L : Nat) : Int) := by
  have h := bits_mask .u64 64 (by decide) (fun n a b => by rw [IntKind.wrap_u64]; omega) L (by omega) y h0 (by omega)
  have hc : ((2 ^ L : Nat) : Int) = (2 : Int) ^ L := by simp
  rw [hc]
  exact h
set_option maxHeartbeats 8000000 in
theorem break_any {wb : World} {g : FuncId} {recv : Value} {n : Nat} {cf : Nat → Nat → Int} (S : Srt wb g recv n cf) (w : World) (P : Nat) (d : Array Nat) (hs : SrtW wb P n w d w) (a b : Nat) (hab : a + 8 ≤ b) (hb : b ≤ n) :
    Calls Tryd.prog 92 #[.slice (some ⟨P, 0, none⟩) n n, .int .i64 a, .int .i64 b, .func (.func g) #[recv] #[]] w fun e w' => e = .returned (.tuple #[]) ∧ ∃ d', SrtW wb P n w d' w' ∧ PermIn a b d d' := by
  have mixed : Tryd.prog.follows Departure.mixedOrders = true := by kernel_rfl
  have hn := S.le
  obtain ⟨m, hm⟩ : ∃ m, b - a = m := ⟨_, rfl⟩
  have e1 : (b : Int) - (a : Int) = (m : Int) := by omega
  have w1 : IntKind.i64.wrap (m : Int) = (m : Int) := IntWalk.i64_in _ (by omega)
  have hm8 : 8 ≤ m := by omega
  have hmn : m < 1024 := by omega
  have d8 : decide ((8 : Int) ≤ (m : Int)) = true := by simp; omega
  have wu : IntKind.u64.wrap (m : Int) = (m : Int) := by rw [IntKind.wrap_u64]; omega
  have HTw := Lib.hid (fun W => two_any W m (by omega) hmn)
  have hsz := hs.size
  have hbd : b ≤ d.size := by omega
  have hPw := hs.lt
  have hbw := hs.below.size
  have HW : Hid (∀ x, BrW wb P n w w.heap.size d (w.alloc (.cells #[.int .u64 x] 121))) := Lib.hid (fun x => ⟨hs.later ((Below.refl _ _).alloc (Nat.le_refl _) _), x, heap_alloc_new _ _⟩)
  have hab2 : a + m = b := by omega
  obtain ⟨q, hq⟩ : ∃ q, m / 4 = q := ⟨_, rfl⟩
  have e2 : (m : Int).tdiv 4 = (q : Int) := by rw [Int.tdiv_eq_ediv_of_nonneg (by omega)]; omega
  have e2' : (m : Int) / 4 = (q : Int) := by omega
  obtain ⟨q2, hq2⟩ : ∃ q2, q * 2 = q2 := ⟨_, rfl⟩
  have e3 : (q : Int) * 2 = (q2 : Int) := by omega
  obtain ⟨i0, hi0⟩ : ∃ i0, a + q2 = i0 := ⟨_, rfl⟩
  have e4 : (a : Int) + (q2 : Int) = (i0 : Int) := by omega
  obtain ⟨i1, hi1⟩ : ∃ i1, i0 = i1 + 1 := ⟨i0 - 1, by omega⟩
  have e5 : (i0 : Int) - 1 = (i1 : Int) := by omega
  obtain ⟨i2, hi2⟩ : ∃ i2, i0 + 1 = i2 := ⟨_, rfl⟩
  have e6 : (i0 : Int) + 1 = (i2 : Int) := by omega
  have hai : a ≤ i1 := by omega
  have hib : i2 < b := by omega
  have hi12 : i1 ≤ i2 := by omega
  have wq : IntKind.i64.wrap (q : Int) = (q : Int) := IntWalk.i64_in _ (by omega)
  have wq2 : IntKind.i64.wrap (q2 : Int) = (q2 : Int) := IntWalk.i64_in _ (by omega)
  have wi0 : IntKind.i64.wrap (i0 : Int) = (i0 : Int) := IntWalk.i64_in _ (by omega)
  have wi1 : IntKind.i64.wrap (i1 : Int) = (i1 : Int) := IntWalk.i64_in _ (by omega)
  have wi2 : IntKind.i64.wrap (i2 : Int) = (i2 : Int) := IntWalk.i64_in _ (by omega)
  clear S hs hm hq hq2 hi0 hi1 hi2
  go_enter Tryd.func92, Tryd.ntmps92
  go_wp2_with fail
  refine (HTw.out _).mono ?_
  rintro e w' ⟨⟨L, rfl, hL1, hL2⟩, rfl⟩
  have HW0 := Lib.hid (HW.out (m : Int))
  generalize w.alloc (.cells #[.int .u64 (m : Int)] 121) = wz at HW0 ⊢
  have HLm : Hid (∀ y : Int, 0 ≤ y → y < 18446744073709551616 → bits .and .u64 y (((2 ^ L : Nat) : Int) - 1) = y % ((2 ^ L : Nat) : Int)) := Lib.hid (fun y h0 h1 => land_mask y L h0 h1 (by
    by_cases hh : L ≤ 63
    · exact hh
    · have : 2 ^ 63 ≤ 2 ^ L := Nat.pow_le_pow_right (by omega) (by omega)
      omega))
  obtain ⟨M, hM⟩ : ∃ M, 2 ^ L = M := ⟨_, rfl⟩
  rw [hM] at HLm hL1 hL2 ⊢
  obtain ⟨M1, hM1⟩ : ∃ M1, M = M1 + 1 := ⟨M - 1, by omega⟩
  have eM : (M : Int) - 1 = (M1 : Int) := by omega
  have wM : IntKind.u64.wrap (M1 : Int) = (M1 : Int) := by rw [IntKind.wrap_u64]; omega
  rw [eM] at HLm
  have hMp : 1 ≤ M := by omega
  clear HTw HW hM hM1
  go_wp2
  go_loopw [11] (fun t wr => ∃ (i : Nat) (d1 : Array Nat), i1 ≤ i ∧ i ≤ i2 + 1 ∧ t = .int .i64 i ∧ BrW wb P n w w.heap.size d1 wr ∧ PermIn a b d d1) (fun t _ => i2 + 1 - (intOf t).toNat)
  case atStart => exact ⟨i1, d, by omega, by omega, rfl, HW0.out, permIn_refl _ _ _⟩
  case round =>
    clear HW0
    obtain ⟨i, d1, hi1, hi2, rfl, hW, hP⟩ := hrel
    have HW := Lib.hid hW
    have HP := Lib.hid hP
    clear hW hP
    by_cases hlt : i ≤ i2
    · have hdt : decide ((i : Int) ≤ (i2 : Int)) = true := by simp; omega
      have hdt2 : decide (i ≤ i2) = true := by simpa using hlt
      obtain ⟨x, hx⟩ := HW.out.rnd
      have HNx := Lib.hid (next_any wr w.heap.size x hx)
      clear hx
      go_wp2_with fail
      refine HNx.out.mono ?_
      rintro e w6 ⟨y, hy0, hy1, rfl, hr⟩
      have HB6 := Lib.hid (HW.out.next (Nat.le_refl _) hPw hbw hr)
      have hl := HLm.out y hy0 hy1
      obtain ⟨o, ho⟩ : ∃ o : Nat, y % (M : Int) = (o : Int) := ⟨(y % (M : Int)).toNat, by
        have := Int.emod_nonneg y (b := (M : Int)) (by omega)
        omega⟩
      have hoM : o < M := by
        have := Int.emod_lt_of_pos y (b := (M : Int)) (by omega)
        omega
      rw [ho] at hl
      have wo : IntKind.i64.wrap (o : Int) = (o : Int) := IntWalk.i64_in _ (by omega)
      clear hr ho HNx HW hy0 hy1
      by_cases hom : m ≤ o
      · have hdo : decide ((m : Int) ≤ (o : Int)) = true := by simp; omega
        have hdo2 : decide (m ≤ o) = true := by simpa using hom
        obtain ⟨o2, ho2⟩ : ∃ o2, o - m = o2 := ⟨_, rfl⟩
        have eo2 : (o : Int) - (m : Int) = (o2 : Int) := by omega
        have wo2 : IntKind.i64.wrap (o2 : Int) = (o2 : Int) := IntWalk.i64_in _ (by omega)
        have ho2m : o2 < m := by omega
        clear ho2
        obtain ⟨ij, hij⟩ : ∃ ij, a + o2 = ij := ⟨_, rfl⟩
        have eij : (a : Int) + (o2 : Int) = (ij : Int) := by omega
        have wij : IntKind.i64.wrap (ij : Int) = (ij : Int) := IntWalk.i64_in _ (by omega)
        have hin : i < n := by omega
        have hijn : ij < n := by omega
        have HP2 := Lib.hid (perm_swap (i := i) (j := ij) HP.out hbd (by omega) (by omega) (by omega) (by omega))
        have HB7 := Lib.hid (HB6.out.swap (Nat.ne_of_gt hPw) i ij hin hijn)
        have HS6 := Lib.hid HB6.out.s
        clear HB6 hij
        have c1 := HS6.out.cell (i) hin
        have c2 := HS6.out.cell (ij) hijn
        have c3 := HS6.out.cell3 (i) (ij) hin hijn
        have f1 := HS6.out.frozen (i)
        have f2 := HS6.out.frozen (ij)
        have HS7 := Lib.hid (HS6.out.swap (i) (ij) hin hijn)
        obtain ⟨x, hx⟩ : ∃ x, d1[i]! = x := ⟨_, rfl⟩
        obtain ⟨y, hy⟩ : ∃ y, d1[ij]! = y := ⟨_, rfl⟩
        rw [hx, hy] at HS7 HB7
        rw [hx] at c1
        rw [hy] at c2 c3
        clear hx hy
        go_wp2
        go_big_region_o
        clear c1 c2 c3 f1 f2 HS6
        generalize ((w6.setCell ⟨P, i, none⟩ (.int .i64 (y : Int))).setCell ⟨P, ij, none⟩ (.int .i64 (x : Int))).drew = w7 at HS7 HB7 ⊢

        go_wp2
        go_roundw
        case rel => exact ⟨i + 1, _, by omega, by omega, by first | rfl | go_num, HB7.out, HP2.out⟩
        case measure => simp [intOf]; omega
      · have hdo : decide ((m : Int) ≤ (o : Int)) = false := by simp; omega
        have hdo2 : decide (m ≤ o) = false := by simp; omega
        have ho2m : o < m := by omega
        obtain ⟨ij, hij⟩ : ∃ ij, a + o = ij := ⟨_, rfl⟩
        have eij : (a : Int) + (o : Int) = (ij : Int) := by omega
        have wij : IntKind.i64.wrap (ij : Int) = (ij : Int) := IntWalk.i64_in _ (by omega)
        have hin : i < n := by omega
        have hijn : ij < n := by omega
        have HP2 := Lib.hid (perm_swap (i := i) (j := ij) HP.out hbd (by omega) (by omega) (by omega) (by omega))
        have HB7 := Lib.hid (HB6.out.swap (Nat.ne_of_gt hPw) i ij hin hijn)
        have HS6 := Lib.hid HB6.out.s
        clear HB6 hij
        have c1 := HS6.out.cell (i) hin
        have c2 := HS6.out.cell (ij) hijn
        have c3 := HS6.out.cell3 (i) (ij) hin hijn
        have f1 := HS6.out.frozen (i)
        have f2 := HS6.out.frozen (ij)
        have HS7 := Lib.hid (HS6.out.swap (i) (ij) hin hijn)
        obtain ⟨x, hx⟩ : ∃ x, d1[i]! = x := ⟨_, rfl⟩
        obtain ⟨y, hy⟩ : ∃ y, d1[ij]! = y := ⟨_, rfl⟩
        rw [hx, hy] at HS7 HB7
        rw [hx] at c1
        rw [hy] at c2 c3
        clear hx hy
        go_wp2
        go_big_region_o
        clear c1 c2 c3 f1 f2 HS6
        generalize ((w6.setCell ⟨P, i, none⟩ (.int .i64 (y : Int))).setCell ⟨P, ij, none⟩ (.int .i64 (x : Int))).drew = w7 at HS7 HB7 ⊢

        go_wp2
        go_roundw
        case rel => exact ⟨i + 1, _, by omega, by omega, by first | rfl | go_num, HB7.out, HP2.out⟩
        case measure => simp [intOf]; omega
    · have hdt : decide ((i : Int) ≤ (i2 : Int)) = false := by simp; omega
      have hdt2 : decide (i ≤ i2) = false := by simp; omega
      go_wp2
      go_end0
      exact ⟨rfl, d1, HW.out.s, HP.out⟩
end Go.Proofs.YtchjijifmjbgoaaDoor.Tn
