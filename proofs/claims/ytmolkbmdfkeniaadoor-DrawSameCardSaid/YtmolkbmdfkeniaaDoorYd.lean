import Derived.Test.YtmolkbmdfkeniaaDoorYa
-- from Yd
namespace Go.Proofs.YtmolkbmdfkeniaaDoor.Tn
set_option maxRecDepth 100000
open Go.ChangeShapes Go.WideShapes Go.ChangeAt Go.RowKit Go.Sort Go.Proofs.YtmolkbmdfkeniaaDoor.Fx Go.Proofs.YtmolkbmdfkeniaaDoor.Rf
set_option maxHeartbeats 8000000 in
theorem rev_any {wb : World} {g : FuncId} {recv : Value} {n : Nat} {cf : Nat → Nat → Int} (S : Srt wb g recv n cf) (w : World) (P : Nat) (d : Array Nat) (hs : SrtW wb P n w d w) (a b : Nat) (hab : a < b) (hb : b ≤ n) :
    Calls Tryd.prog 89 #[.slice (some ⟨P, 0, none⟩) n n, .int .i64 a, .int .i64 b, .func (.func g) #[recv] #[]] w fun e w' => e = .returned (.tuple #[]) ∧ ∃ d', SrtW wb P n w d' w' ∧ PermIn a b d d' := by
  have mixed : Tryd.prog.follows Departure.mixedOrders = true := by kernel_rfl
  have hn := S.le
  have HW : Hid (SrtW wb P n w d w) := hs
  obtain ⟨b1, hb1⟩ : ∃ b1, b = b1 + 1 := ⟨b - 1, by omega⟩
  have HB1 := Lib.hid hb1
  have e1 : (b : Int) - 1 = (b1 : Int) := by omega
  have w1 : IntKind.i64.wrap (b1 : Int) = (b1 : Int) := IntWalk.i64_in _ (by omega)
  have hsz := hs.size
  have hbd : b ≤ d.size := by omega
  clear S hs hb1
  go_enter Tryd.func89, Tryd.ntmps89
  go_wp2
  go_loopw [8, 9] (fun t u wr => ∃ (i j : Nat) (d1 : Array Nat), a ≤ i ∧ i ≤ 1000 ∧ j < b ∧ t = .int .i64 i ∧ u = .int .i64 j ∧ SrtW wb P n w d1 wr ∧ PermIn a b d d1) (fun t _ _ => 1001 - (intOf t).toNat)
  case atStart => exact ⟨a, b1, d, by omega, by omega, by have := HB1.out; omega, rfl, rfl, HW.out, permIn_refl _ _ _⟩
  case round =>
    clear HW
    obtain ⟨i, j, d1, hai, hi, hj, rfl, rfl, hW, hP⟩ := hrel
    have HW := Lib.hid hW
    have HP := Lib.hid hP
    clear hW hP
    by_cases hlt : i < j
    · have hdt : decide ((i : Int) < (j : Int)) = true := by simp; omega
      have hdt2 : decide (i < j) = true := by simpa using hlt
      have hin : i < n := by omega
      have hjn : j < n := by omega
      have HP2 := Lib.hid (perm_swap (i := i) (j := j) HP.out hbd (by omega) (by omega) (by omega) (by omega))
      obtain ⟨j1, hj1⟩ : ∃ j1, j = j1 + 1 := ⟨j - 1, by omega⟩
      have ej : (j : Int) - 1 = (j1 : Int) := by omega
      have wj : IntKind.i64.wrap (j1 : Int) = (j1 : Int) := IntWalk.i64_in _ (by omega)
      have HJ1 := Lib.hid hj1
      clear hj1
      have c1 := HW.out.cell (i) hin
      have c2 := HW.out.cell (j) hjn
      have c3 := HW.out.cell3 (i) (j) hin hjn
      have f1 := HW.out.frozen (i)
      have f2 := HW.out.frozen (j)
      have HW5 := Lib.hid (HW.out.swap (i) (j) hin hjn)
      obtain ⟨x, hx⟩ : ∃ x, d1[i]! = x := ⟨_, rfl⟩
      obtain ⟨y, hy⟩ : ∃ y, d1[j]! = y := ⟨_, rfl⟩
      rw [hx, hy] at HW5 
      rw [hx] at c1
      rw [hy] at c2 c3
      clear hx hy
      go_wp2
      go_big_region_o
      clear c1 c2 c3 f1 f2 HW
      generalize ((wr.setCell ⟨P, i, none⟩ (.int .i64 (y : Int))).setCell ⟨P, j, none⟩ (.int .i64 (x : Int))).drew = w5 at HW5  ⊢

      go_wp2
      go_roundw
      case rel => exact ⟨i + 1, j1, _, by omega, by omega, by have := HJ1.out; omega, by first | rfl | go_num, by first | rfl | go_num, HW5.out, HP2.out⟩
      case measure => simp [intOf]; omega
    · have hdt : decide ((i : Int) < (j : Int)) = false := by simp; omega
      have hdt2 : decide (i < j) = false := by simp; omega
      go_wp2
      go_end0
      exact ⟨rfl, d1, HW.out, HP.out⟩
/-- while a number is drawn -/
structure RnW (w : World) (g : Nat) (x : Int) (W : World) : Prop where
  grown : w.grownBy W (some g)
  row : W.heap[g]? = some (.cells #[.int .u64 x] 133 (0, 0))
theorem RnW.set {w W : World} {g : Nat} {x : Int} (h : RnW w g x W) (y : Int) : RnW w g y (W.setCell ⟨g, 0, none⟩ (.int .u64 y)).drew := by
  refine ⟨grown_trans h.grown ⟨rfl, rfl, rfl, by simp, fun k _ hk => ?_⟩, ?_⟩
  · have hne : k ≠ g := fun e => hk (by rw [e])
    exact heap_setCell_other _ ⟨g, 0, none⟩ _ _ (by simpa using hne)
  · have := heap_setCell_same W g 0 _ 133 (.int .u64 y) h.row
    have h2 : (W.setCell ⟨g, 0, none⟩ (.int .u64 y)).heap[g]? = some (.cells #[.int .u64 y] 133 (0, 0)) := by simpa using this
    exact h2
theorem RnW.cell {w W : World} {g : Nat} {x : Int} (h : RnW w g x W) : W.cell? ⟨g, 0, none⟩ = some (.int .u64 x) := by rw [cell_of_row _ _ _ _ _ _ h.row]; rfl
theorem RnW.frozen {w W : World} {g : Nat} {x : Int} (h : RnW w g x W) : W.frozen? ⟨g, 0, none⟩ = false := frozen_of_row _ _ _ _ _ h.row
theorem bits_u64 (op : BinOp) (a b : Int) : 0 ≤ bits op .u64 a b ∧ bits op .u64 a b < 18446744073709551616 := by
  unfold bits
  simp only [IntKind.wrap_u64]
  omega
set_option maxHeartbeats 8000000 in
theorem next_any (w : World) (g : Nat) (x : Int) (h : w.heap[g]? = some (.cells #[.int .u64 x] 133 (0, 0))) :
    Calls Tryd.prog 99 #[.pointer (some ⟨g, 0, none⟩)] w fun e w' => ∃ y : Int, 0 ≤ y ∧ y < 18446744073709551616 ∧ e = .returned (.int .u64 y) ∧ RnW w g y w' := by
  have HW : Hid (RnW w g x w) := Lib.hid ⟨⟨rfl, rfl, rfl, Nat.le_refl _, fun _ _ _ => rfl⟩, h⟩
  clear h
  have mixed : Tryd.prog.follows Departure.mixedOrders = true := by kernel_rfl
  have hc := HW.out.cell
  have hf := HW.out.frozen
  go_enter Tryd.func99, Tryd.ntmps99
  go_wp2
  go_big_region_o
  generalize bits _ _ _ _ = x1
  have HW1 := Lib.hid (HW.out.set x1)
  generalize (w.setCell ⟨g, 0, none⟩ (.int .u64 x1)).drew = w1 at HW1 ⊢
  clear hc hf HW
  have hc := HW1.out.cell
  have hf := HW1.out.frozen
  go_wp2
  go_big_region_o
  generalize bits _ _ _ _ = x2
  have HW2 := Lib.hid (HW1.out.set x2)
  generalize (w1.setCell ⟨g, 0, none⟩ (.int .u64 x2)).drew = w2 at HW2 ⊢
  clear hc hf HW1
  have hc := HW2.out.cell
  have hf := HW2.out.frozen
  go_wp2
  go_big_region_o
  have hb := bits_u64 .xor x2 (IntKind.u64.wrap (x2 * 131072))
  obtain ⟨x3, h3⟩ : ∃ x3, bits .xor .u64 x2 (IntKind.u64.wrap (x2 * 131072)) = x3 := ⟨_, rfl⟩
  rw [h3] at hb ⊢
  have HBx := Lib.hid hb
  clear hb h3
  have HW3 := Lib.hid (HW2.out.set x3)
  generalize (w2.setCell ⟨g, 0, none⟩ (.int .u64 x3)).drew = w3 at HW3 ⊢
  clear hc hf HW2
  have hc := HW3.out.cell
  go_wp2
  go_ret
  exact ⟨x3, HBx.out.1, HBx.out.2, rfl, HW3.out⟩
/-- a world of breakPatterns: places d1, and a number that is drawn from -/
structure BrW (wb : World) (P n : Nat) (w0 : World) (g : Nat) (d : Array Nat) (W : World) : Prop where
  s : SrtW wb P n w0 d W
  rnd : ∃ x, W.heap[g]? = some (.cells #[.int .u64 x] 133 (0, 0))
theorem BrW.next {wb : World} {P n : Nat} {w0 : World} {g : Nat} {d : Array Nat} {W W' : World} {y : Int} (h : BrW wb P n w0 g d W) (hg : w0.heap.size ≤ g) (hP : P < w0.heap.size) (hb : wb.heap.size ≤ g) (hr : RnW W g y W') : BrW wb P n w0 g d W' := by
  have hs := h.s
  refine ⟨⟨⟨hr.grown.os.trans hs.below.os, hr.grown.tape.trans hs.below.tape, hr.grown.output.trans hs.below.output, Nat.le_trans hs.below.size hr.grown.size, fun k hk => ?_⟩, ⟨hr.grown.os.trans hs.grown.os, hr.grown.tape.trans hs.grown.tape, hr.grown.output.trans hs.grown.output, Nat.le_trans hs.grown.size hr.grown.size, fun k hk hne => ?_⟩, ?_, hs.size, hs.all, hs.big⟩, ⟨y, hr.row⟩⟩
  · exact (hr.grown.block k (Nat.lt_of_lt_of_le hk hs.below.size) (fun e => by cases e; omega)).trans (hs.below.block k hk)
  · exact (hr.grown.block k (Nat.lt_of_lt_of_le hk hs.grown.size) (fun e => by cases e; omega)).trans (hs.grown.block k hk hne)
  · exact (hr.grown.block P hs.lt (fun e => by cases e; omega)).trans hs.row
theorem BrW.swap {wb : World} {P n : Nat} {w0 : World} {g : Nat} {d : Array Nat} {W : World} (h : BrW wb P n w0 g d W) (hgP : g ≠ P) (i j : Nat) (hi : i < n) (hj : j < n) : BrW wb P n w0 g (swp d i j) ((W.setCell ⟨P, i, none⟩ (.int .i64 ((d[j]! : Nat) : Int))).setCell ⟨P, j, none⟩ (.int .i64 ((d[i]! : Nat) : Int))).drew := by
  obtain ⟨x, hx⟩ := h.rnd
  refine ⟨h.s.swap i j hi hj, x, ?_⟩
  have h2 : ((W.setCell ⟨P, i, none⟩ (.int .i64 ((d[j]! : Nat) : Int))).setCell ⟨P, j, none⟩ (.int .i64 ((d[i]! : Nat) : Int))).heap[g]? = W.heap[g]? := by
    rw [heap_setCell_other _ ⟨P, j, none⟩ _ _ (by simpa using hgP), heap_setCell_other _ ⟨P, i, none⟩ _ _ (by simpa using hgP)]
  exact h2.trans hx
theorem land_mask (y : Int) (L : Nat) (h0 : 0 ≤ y) (h1 : y < 18446744073709551616) (hL : L ≤ 63) : bits .and .u64 y (((2 ^ L : Nat) : Int) - 1) = y % ((2 ^ L : Nat) : Int) := by
  have h := bits_mask .u64 64 (by decide) (fun n a b => by rw [IntKind.wrap_u64]; omega) L (by omega) y h0 (by omega)
  have hc : ((2 ^ L : Nat) : Int) = (2 : Int) ^ L := by simp
  rw [hc]
  exact h
set_option maxHeartbeats 8000000 in
theorem break_any {wb : World} {g : FuncId} {recv : Value} {n : Nat} {cf : Nat → Nat → Int} (S : Srt wb g recv n cf) (w : World) (P : Nat) (d : Array Nat) (hs : SrtW wb P n w d w) (a b : Nat) (hab : a + 8 ≤ b) (hb : b ≤ n) :
    Calls Tryd.prog 87 #[.slice (some ⟨P, 0, none⟩) n n, .int .i64 a, .int .i64 b, .func (.func g) #[recv] #[]] w fun e w' => e = .returned (.tuple #[]) ∧ ∃ d', SrtW wb P n w d' w' ∧ PermIn a b d d' := by
  have mixed : Tryd.prog.follows Departure.mixedOrders = true := by kernel_rfl
  have hn := S.le
  obtain ⟨m, hm⟩ : ∃ m, b - a = m := ⟨_, rfl⟩
  have e1 : (b : Int) - (a : Int) = (m : Int) := by omega
  have w1 : IntKind.i64.wrap (m : Int) = (m : Int) := IntWalk.i64_in _ (by omega)
  have hm8 : 8 ≤ m := by omega
  have hmn : m < 1024 := by omega
  have d8 : decide ((8 : Int) ≤ (m : Int)) = true := by simp; omega
  have wu : IntKind.u64.wrap (m : Int) = (m : Int) := by rw [IntKind.wrap_u64]; omega
  have HTw := Lib.hid (fun W => two_any W m (by omega) hmn)
  have hsz := hs.size
  have hbd : b ≤ d.size := by omega
  have hPw := hs.lt
  have hbw := hs.below.size
  have HW : Hid (∀ x, BrW wb P n w w.heap.size d (w.alloc (.cells #[.int .u64 x] 133))) := Lib.hid (fun x => ⟨hs.later ((Below.refl _ _).alloc (Nat.le_refl _) _), x, heap_alloc_new _ _⟩)
  have hab2 : a + m = b := by omega
  obtain ⟨q, hq⟩ : ∃ q, m / 4 = q := ⟨_, rfl⟩
  have e2 : (m : Int).tdiv 4 = (q : Int) := by rw [Int.tdiv_eq_ediv_of_nonneg (by omega)]; omega
  have e2' : (m : Int) / 4 = (q : Int) := by omega
  obtain ⟨q2, hq2⟩ : ∃ q2, q * 2 = q2 := ⟨_, rfl⟩
  have e3 : (q : Int) * 2 = (q2 : Int) := by omega
  obtain ⟨i0, hi0⟩ : ∃ i0, a + q2 = i0 := ⟨_, rfl⟩
  have e4 : (a : Int) + (q2 : Int) = (i0 : Int) := by omega
  obtain ⟨i1, hi1⟩ : ∃ i1, i0 = i1 + 1 := ⟨i0 - 1, by omega⟩
  have e5 : (i0 : Int) - 1 = (i1 : Int) := by omega
  obtain ⟨i2, hi2⟩ : ∃ i2, i0 + 1 = i2 := ⟨_, rfl⟩
  have e6 : (i0 : Int) + 1 = (i2 : Int) := by omega
  have hai : a ≤ i1 := by omega
  have hib : i2 < b := by omega
  have hi12 : i1 ≤ i2 := by omega
  have wq : IntKind.i64.wrap (q : Int) = (q : Int) := IntWalk.i64_in _ (by omega)
  have wq2 : IntKind.i64.wrap (q2 : Int) = (q2 : Int) := IntWalk.i64_in _ (by omega)
  have wi0 : IntKind.i64.wrap (i0 : Int) = (i0 : Int) := IntWalk.i64_in _ (by omega)
  have wi1 : IntKind.i64.wrap (i1 : Int) = (i1 : Int) := IntWalk.i64_in _ (by omega)
  have wi2 : IntKind.i64.wrap (i2 : Int) = (i2 : Int) := IntWalk.i64_in _ (by omega)
  clear S hs hm hq hq2 hi0 hi1 hi2
  go_enter Tryd.func87, Tryd.ntmps87
  go_wp2_with fail
  refine (HTw.out _).mono ?_
  rintro e w' ⟨⟨L, rfl, hL1, hL2⟩, rfl⟩
  have HW0 := Lib.hid (HW.out (m : Int))
  generalize w.alloc (.cells #[.int .u64 (m : Int)] 133) = wz at HW0 ⊢
  have HLm : Hid (∀ y : Int, 0 ≤ y → y < 18446744073709551616 → bits .and .u64 y (((2 ^ L : Nat) : Int) - 1) = y % ((2 ^ L : Nat) : Int)) := Lib.hid (fun y h0 h1 => land_mask y L h0 h1 (by
    by_cases hh : L ≤ 63
    · exact hh
    · have : 2 ^ 63 ≤ 2 ^ L := Nat.pow_le_pow_right (by omega) (by omega)
      omega))
  obtain ⟨M, hM⟩ : ∃ M, 2 ^ L = M := ⟨_, rfl⟩
  rw [hM] at HLm hL1 hL2 ⊢
  obtain ⟨M1, hM1⟩ : ∃ M1, M = M1 + 1 := ⟨M - 1, by omega⟩
  have eM : (M : Int) - 1 = (M1 : Int) := by omega
  have wM : IntKind.u64.wrap (M1 : Int) = (M1 : Int) := by rw [IntKind.wrap_u64]; omega
  rw [eM] at HLm
  have hMp : 1 ≤ M := by omega
  clear HTw HW hM hM1
  go_wp2
  go_loopw [11] (fun t wr => ∃ (i : Nat) (d1 : Array Nat), i1 ≤ i ∧ i ≤ i2 + 1 ∧ t = .int .i64 i ∧ BrW wb P n w w.heap.size d1 wr ∧ PermIn a b d d1) (fun t _ => i2 + 1 - (intOf t).toNat)
  case atStart => exact ⟨i1, d, by omega, by omega, rfl, HW0.out, permIn_refl _ _ _⟩
  case round =>
    clear HW0
    obtain ⟨i, d1, hi1, hi2, rfl, hW, hP⟩ := hrel
    have HW := Lib.hid hW
    have HP := Lib.hid hP
    clear hW hP
    by_cases hlt : i ≤ i2
    · have hdt : decide ((i : Int) ≤ (i2 : Int)) = true := by simp; omega
      have hdt2 : decide (i ≤ i2) = true := by simpa using hlt
      obtain ⟨x, hx⟩ := HW.out.rnd
      have HNx := Lib.hid (next_any wr w.heap.size x hx)
      clear hx
      go_wp2_with fail
      refine HNx.out.mono ?_
      rintro e w6 ⟨y, hy0, hy1, rfl, hr⟩
      have HB6 := Lib.hid (HW.out.next (Nat.le_refl _) hPw hbw hr)
      have hl := HLm.out y hy0 hy1
      obtain ⟨o, ho⟩ : ∃ o : Nat, y % (M : Int) = (o : Int) := ⟨(y % (M : Int)).toNat, by
        have := Int.emod_nonneg y (b := (M : Int)) (by omega)
        omega⟩
      have hoM : o < M := by
        have := Int.emod_lt_of_pos y (b := (M : Int)) (by omega)
        omega
      rw [ho] at hl
      have wo : IntKind.i64.wrap (o : Int) = (o : Int) := IntWalk.i64_in _ (by omega)
      clear hr ho HNx HW hy0 hy1
      by_cases hom : m ≤ o
      · have hdo : decide ((m : Int) ≤ (o : Int)) = true := by simp; omega
        have hdo2 : decide (m ≤ o) = true := by simpa using hom
        obtain ⟨o2, ho2⟩ : ∃ o2, o - m = o2 := ⟨_, rfl⟩
        have eo2 : (o : Int) - (m : Int) = (o2 : Int) := by omega
        have wo2 : IntKind.i64.wrap (o2 : Int) = (o2 : Int) := IntWalk.i64_in _ (by omega)
        have ho2m : o2 < m := by omega
        clear ho2
        obtain ⟨ij, hij⟩ : ∃ ij, a + o2 = ij := ⟨_, rfl⟩
        have eij : (a : Int) + (o2 : Int) = (ij : Int) := by omega
        have wij : IntKind.i64.wrap (ij : Int) = (ij : Int) := IntWalk.i64_in _ (by omega)
        have hin : i < n := by omega
        have hijn : ij < n := by omega
        have HP2 := Lib.hid (perm_swap (i := i) (j := ij) HP.out hbd (by omega) (by omega) (by omega) (by omega))
        have HB7 := Lib.hid (HB6.out.swap (Nat.ne_of_gt hPw) i ij hin hijn)
        have HS6 := Lib.hid HB6.out.s
        clear HB6 hij
        have c1 := HS6.out.cell (i) hin
        have c2 := HS6.out.cell (ij) hijn
        have c3 := HS6.out.cell3 (i) (ij) hin hijn
        have f1 := HS6.out.frozen (i)
        have f2 := HS6.out.frozen (ij)
        have HS7 := Lib.hid (HS6.out.swap (i) (ij) hin hijn)
        obtain ⟨x, hx⟩ : ∃ x, d1[i]! = x := ⟨_, rfl⟩
        obtain ⟨y, hy⟩ : ∃ y, d1[ij]! = y := ⟨_, rfl⟩
        rw [hx, hy] at HS7 HB7
        rw [hx] at c1
        rw [hy] at c2 c3
        clear hx hy
        go_wp2
        go_big_region_o
        clear c1 c2 c3 f1 f2 HS6
        generalize ((w6.setCell ⟨P, i, none⟩ (.int .i64 (y : Int))).setCell ⟨P, ij, none⟩ (.int .i64 (x : Int))).drew = w7 at HS7 HB7 ⊢

        go_wp2
        go_roundw
        case rel => exact ⟨i + 1, _, by omega, by omega, by first | rfl | go_num, HB7.out, HP2.out⟩
        case measure => simp [intOf]; omega
      · have hdo : decide ((m : Int) ≤ (o : Int)) = false := by simp; omega
        have hdo2 : decide (m ≤ o) = false := by simp; omega
        have ho2m : o < m := by omega
        obtain ⟨ij, hij⟩ : ∃ ij, a + o = ij := ⟨_, rfl⟩
        have eij : (a : Int) + (o : Int) = (ij : Int) := by omega
        have wij : IntKind.i64.wrap (ij : Int) = (ij : Int) := IntWalk.i64_in _ (by omega)
        have hin : i < n := by omega
        have hijn : ij < n := by omega
        have HP2 := Lib.hid (perm_swap (i := i) (j := ij) HP.out hbd (by omega) (by omega) (by omega) (by omega))
        have HB7 := Lib.hid (HB6.out.swap (Nat.ne_of_gt hPw) i ij hin hijn)
        have HS6 := Lib.hid HB6.out.s
        clear HB6 hij
        have c1 := HS6.out.cell (i) hin
        have c2 := HS6.out.cell (ij) hijn
        have c3 := HS6.out.cell3 (i) (ij) hin hijn
        have f1 := HS6.out.frozen (i)
        have f2 := HS6.out.frozen (ij)
        have HS7 := Lib.hid (HS6.out.swap (i) (ij) hin hijn)
        obtain ⟨x, hx⟩ : ∃ x, d1[i]! = x := ⟨_, rfl⟩
        obtain ⟨y, hy⟩ : ∃ y, d1[ij]! = y := ⟨_, rfl⟩
        rw [hx, hy] at HS7 HB7
        rw [hx] at c1
        rw [hy] at c2 c3
        clear hx hy
        go_wp2
        go_big_region_o
        clear c1 c2 c3 f1 f2 HS6
        generalize ((w6.setCell ⟨P, i, none⟩ (.int .i64 (y : Int))).setCell ⟨P, ij, none⟩ (.int .i64 (x : Int))).drew = w7 at HS7 HB7 ⊢

        go_wp2
        go_roundw
        case rel => exact ⟨i + 1, _, by omega, by omega, by first | rfl | go_num, HB7.out, HP2.out⟩
        case measure => simp [intOf]; omega
    · have hdt : decide ((i : Int) ≤ (i2 : Int)) = false := by simp; omega
      have hdt2 : decide (i ≤ i2) = false := by simp; omega
      go_wp2
      go_end0
      exact ⟨rfl, d1, HW.out.s, HP.out⟩
end Go.Proofs.YtmolkbmdfkeniaaDoor.Tn
-- from Ye
namespace Go.Proofs.YtmolkbmdfkeniaaDoor.Tn
set_option maxRecDepth 100000
open Go.ChangeShapes Go.WideShapes Go.ChangeAt Go.RowKit Go.Sort Go.Proofs.YtmolkbmdfkeniaaDoor.Fx Go.Proofs.YtmolkbmdfkeniaaDoor.Rf
/-- a world of choosePivot: places d, and how many were exchanged -/
structure ChW (wb : World) (P n : Nat) (w0 : World) (g : Nat) (d : Array Nat) (W : World) : Prop where
  s : SrtW wb P n w0 d W
  cnt : ∃ z : Int, W.heap[g]? = some (.cells #[.int .i64 z] 3 (0, 0))
  far : w0.heap.size ≤ g ∧ P < w0.heap.size ∧ wb.heap.size ≤ g
section
variable {wb w0 W W' : World} {P n g : Nat} {d : Array Nat}
theorem ChW.later (h : ChW wb P n w0 g d W) (hb : Below W.heap.size W W') : ChW wb P n w0 g d W' := by
  obtain ⟨z, hz⟩ := h.cnt
  exact ⟨h.s.later hb, ⟨z, (hb.block g (Array.getElem?_eq_some_iff.1 hz).1).trans hz⟩, h.far⟩
theorem ChW.regrown (h : ChW wb P n w0 g d W) (q : Nat) (os : Array Obj) : ChW wb P n w0 g d (grow (redrawn W q) os) := h.later (below_regrown W q os)
theorem ChW.count (h : ChW wb P n w0 g d W) (z : Int) : ChW wb P n w0 g d (W.setCell ⟨g, 0, none⟩ (.int .i64 z)) := by
  obtain ⟨f1, f2, f3⟩ := h.far
  obtain ⟨z0, hz0⟩ := h.cnt
  have hs := h.s
  have ho : ∀ k, k ≠ g → (W.setCell ⟨g, 0, none⟩ (.int .i64 z)).heap[k]? = W.heap[k]? := fun k hk => heap_setCell_other _ ⟨g, 0, none⟩ _ _ (by simpa using hk)
  refine ⟨⟨hs.below.setCell (p := ⟨g, 0, none⟩) f3 _, ⟨hs.grown.os, hs.grown.tape, hs.grown.output, by simpa using hs.grown.size, fun k hk hne => ?_⟩, ?_, hs.size, hs.all, hs.big⟩, ⟨z, ?_⟩, h.far⟩
  · exact (ho k (by omega)).trans (hs.grown.block k hk hne)
  · exact (ho P (by omega)).trans hs.row
  · have := heap_setCell_same W g 0 _ 3 (.int .i64 z) hz0
    simpa using this
theorem ChW.cell (h : ChW wb P n w0 g d W) : ∃ z : Int, W.cell? ⟨g, 0, none⟩ = some (.int .i64 z) ∧ W.frozen? ⟨g, 0, none⟩ = false := by
  obtain ⟨z, hz⟩ := h.cnt
  exact ⟨z, by rw [cell_of_row _ _ _ _ _ _ hz]; rfl, frozen_of_row _ _ _ _ _ hz⟩
end
set_option maxHeartbeats 8000000 in
theorem order_any2 {wb : World} {gf : FuncId} {recv : Value} {n : Nat} {cf : Nat → Nat → Int} (S : Srt wb gf recv n cf) (w0 : World) (P g : Nat) (d : Array Nat) (w : World) (hs : ChW wb P n w0 g d w) (lo hi i j : Nat) (hh : hi ≤ n) (i1 : lo ≤ i) (i2 : i < hi) (j1 : lo ≤ j) (j2 : j < hi) :
    Calls Tryd.prog 102 #[.slice (some ⟨P, 0, none⟩) n n, .int .i64 i, .int .i64 j, .pointer (some ⟨g, 0, none⟩), .func (.func gf) #[recv] #[]] w fun e w' => ∃ p q : Nat, lo ≤ p ∧ p < hi ∧ lo ≤ q ∧ q < hi ∧ e = .returned (.tuple #[.int .i64 p, .int .i64 q]) ∧ ChW wb P n w0 g d w' := by
  have HS := Lib.hid S
  have mixed : Tryd.prog.follows Departure.mixedOrders = true := by kernel_rfl
  have hn := S.le
  have eg := S.eg
  have HC : Hid (ChW wb P n w0 g d w) := hs
  have HW := Lib.hid hs.s
  have hin : i < n := by omega
  have hjn : j < n := by omega
  clear S hs
  go_enter Tryd.func102, Tryd.ntmps102
  have q1 := cell_regrown (HW.out.cell (j) hjn)
  have q2 := cell_regrown (HW.out.cell (i) hin)
  have qc := fun q os => HS.out.at_ HW.out (j) (i) hjn hin q os
  by_cases hlt2 : cf d[j]! d[i]! < 0
  · have hd : decide (cf d[j]! d[i]! < 0) = true := by simpa using hlt2
    have HD : Hid (ltc cf d[j]! d[i]! = true) := Lib.hid hd
    obtain ⟨x, hx⟩ : ∃ x, d[j]! = x := ⟨_, rfl⟩
    obtain ⟨y, hy⟩ : ∃ y, d[i]! = y := ⟨_, rfl⟩
    rw [hx, hy] at qc hd
    rw [hx] at q1
    rw [hy] at q2
    clear hx hy hlt2 
    go_wp2
    refine wp_region_quiet_below (by kernel_rfl) (by kernel_rfl) ?_
    repeat (quiet_step (exact qc _ _))
    refine wpQuiet_nil ?_
    intro _ hw'
    obtain ⟨⟨dq, osq⟩, hw''⟩ := hw'
    subst hw''
    have HW2 := Lib.hid (HW.out.regrown dq osq)
    have HC2 := Lib.hid (HC.out.regrown dq osq)
    clear HC
    generalize grow (redrawn w dq) osq = w2 at HW2 HC2 ⊢
    clear q1 q2 qc HW
    obtain ⟨z, hc, hf⟩ := HC2.out.cell
    have HC3 := Lib.hid (fun z => HC2.out.count z)
    go_wp2
    go_ret2
    exact ⟨j, i, j1, j2, i1, i2, rfl, HC3.out _⟩
  · have hd : decide (cf d[j]! d[i]! < 0) = false := by simpa using hlt2
    have HD : Hid (ltc cf d[j]! d[i]! = false) := Lib.hid hd
    obtain ⟨x, hx⟩ : ∃ x, d[j]! = x := ⟨_, rfl⟩
    obtain ⟨y, hy⟩ : ∃ y, d[i]! = y := ⟨_, rfl⟩
    rw [hx, hy] at qc hd
    rw [hx] at q1
    rw [hy] at q2
    clear hx hy hlt2 
    go_wp2
    refine wp_region_quiet_below (by kernel_rfl) (by kernel_rfl) ?_
    repeat (quiet_step (exact qc _ _))
    refine wpQuiet_nil ?_
    intro _ hw'
    obtain ⟨⟨dq, osq⟩, hw''⟩ := hw'
    subst hw''
    have HW2 := Lib.hid (HW.out.regrown dq osq)
    have HC2 := Lib.hid (HC.out.regrown dq osq)
    clear HC
    generalize grow (redrawn w dq) osq = w2 at HW2 HC2 ⊢
    clear q1 q2 qc HW
    go_wp2
    go_ret2
    exact ⟨i, j, i1, i2, j1, j2, rfl, HC2.out⟩
set_option maxHeartbeats 8000000 in
theorem median_any {wb : World} {gf : FuncId} {recv : Value} {n : Nat} {cf : Nat → Nat → Int} (S : Srt wb gf recv n cf) (w0 : World) (P g : Nat) (d : Array Nat) (w : World) (hs : ChW wb P n w0 g d w) (lo hi a b c : Nat) (hh : hi ≤ n) (a1 : lo ≤ a) (a2 : a < hi) (b1 : lo ≤ b) (b2 : b < hi) (c1 : lo ≤ c) (c2 : c < hi) :
    Calls Tryd.prog 101 #[.slice (some ⟨P, 0, none⟩) n n, .int .i64 a, .int .i64 b, .int .i64 c, .pointer (some ⟨g, 0, none⟩), .func (.func gf) #[recv] #[]] w fun e w' => ∃ p : Nat, lo ≤ p ∧ p < hi ∧ e = .returned (.int .i64 p) ∧ ChW wb P n w0 g d w' := by
  have HO := Lib.hid (fun W (h : ChW wb P n w0 g d W) i j i1 i2 j1 j2 => order_any2 S w0 P g d W h lo hi i j hh i1 i2 j1 j2)
  have HC : Hid (ChW wb P n w0 g d w) := hs
  clear S hs
  go_enter Tryd.func101, Tryd.ntmps101
  go_wp2_with fail
  refine (HO.out _ HC.out a b a1 a2 b1 b2).mono ?_
  rintro e wx ⟨p, q, p1, p2, q1, q2, rfl, hx⟩
  have HX := Lib.hid hx
  clear hx HC a1 a2 b1 b2
  go_wp2_with fail
  refine (HO.out _ HX.out q c q1 q2 c1 c2).mono ?_
  rintro e wy ⟨r, s, r1, r2, s1, s2, rfl, hy⟩
  have HY := Lib.hid hy
  clear hy HX q1 q2 c1 c2
  go_wp2_with fail
  refine (HO.out _ HY.out p r p1 p2 r1 r2).mono ?_
  rintro e wz ⟨t, u, t1, t2, u1, u2, rfl, hz⟩
  have HZ := Lib.hid hz
  clear hz HY
  go_wp2
  go_ret
  exact ⟨u, u1, u2, rfl, HZ.out⟩
set_option maxHeartbeats 8000000 in
theorem adjacent_any {wb : World} {gf : FuncId} {recv : Value} {n : Nat} {cf : Nat → Nat → Int} (S : Srt wb gf recv n cf) (w0 : World) (P g : Nat) (d : Array Nat) (w : World) (hs : ChW wb P n w0 g d w) (lo hi a : Nat) (hh : hi ≤ n) (a1 : lo < a) (a2 : a + 1 < hi) :
    Calls Tryd.prog 100 #[.slice (some ⟨P, 0, none⟩) n n, .int .i64 a, .pointer (some ⟨g, 0, none⟩), .func (.func gf) #[recv] #[]] w fun e w' => ∃ p : Nat, lo ≤ p ∧ p < hi ∧ e = .returned (.int .i64 p) ∧ ChW wb P n w0 g d w' := by
  have hn := S.le
  obtain ⟨a0, ha0⟩ : ∃ a0, a = a0 + 1 := ⟨a - 1, by omega⟩
  obtain ⟨a3, ha3⟩ : ∃ a3, a + 1 = a3 := ⟨_, rfl⟩
  have HM := Lib.hid (median_any S w0 P g d w hs lo hi a0 a a3 hh (by omega) (by omega) (by omega) (by omega) (by omega) (by omega))
  have e0 : (a : Int) - 1 = (a0 : Int) := by omega
  have e3 : (a : Int) + 1 = (a3 : Int) := by omega
  have w0_ : IntKind.i64.wrap (a0 : Int) = (a0 : Int) := IntWalk.i64_in _ (by omega)
  have w3_ : IntKind.i64.wrap (a3 : Int) = (a3 : Int) := IntWalk.i64_in _ (by omega)
  clear S hs ha0 ha3
  go_enter Tryd.func100, Tryd.ntmps100
  go_wp2_with fail
  refine HM.out.mono ?_
  rintro e wx ⟨p, p1, p2, rfl, hx⟩
  have HX := Lib.hid hx
  clear hx HM
  go_wp2
  go_ret
  exact ⟨p, p1, p2, rfl, HX.out⟩
set_option maxHeartbeats 8000000 in
theorem pivot_any {wb : World} {gf : FuncId} {recv : Value} {n : Nat} {cf : Nat → Nat → Int} (S : Srt wb gf recv n cf) (w : World) (P : Nat) (d : Array Nat) (hs : SrtW wb P n w d w) (a b : Nat) (hab : a + 12 < b) (hb : b ≤ n) :
    Calls Tryd.prog 88 #[.slice (some ⟨P, 0, none⟩) n n, .int .i64 a, .int .i64 b, .func (.func gf) #[recv] #[]] w fun e w' => ∃ (p : Nat) (h : Int), a ≤ p ∧ p < b ∧ (h = 0 ∨ h = 1 ∨ h = 2) ∧ e = .returned (.tuple #[.int .i64 p, .int .i64 h]) ∧ SrtW wb P n w d w' := by
  have HM := Lib.hid (fun W (h : ChW wb P n w w.heap.size d W) x y z x1 x2 y1 y2 z1 z2 => median_any S w P w.heap.size d W h a b x y z hb x1 x2 y1 y2 z1 z2)
  have HA := Lib.hid (fun W (h : ChW wb P n w w.heap.size d W) x x1 x2 => adjacent_any S w P w.heap.size d W h a b x hb x1 x2)
  have hn := S.le
  have HC : Hid (ChW wb P n w w.heap.size d (w.alloc (.cells #[.int .i64 0] 3))) := Lib.hid ⟨hs.later ((Below.refl _ _).alloc (Nat.le_refl _) _), ⟨0, heap_alloc_new _ _⟩, Nat.le_refl _, hs.lt, hs.below.size⟩
  obtain ⟨m, hm⟩ : ∃ m, b - a = m := ⟨_, rfl⟩
  obtain ⟨q, hq⟩ : ∃ q, m / 4 = q := ⟨_, rfl⟩
  obtain ⟨q2, hq2⟩ : ∃ q2, q * 2 = q2 := ⟨_, rfl⟩
  obtain ⟨q3, hq3⟩ : ∃ q3, q * 3 = q3 := ⟨_, rfl⟩
  obtain ⟨i, hi⟩ : ∃ i, a + q = i := ⟨_, rfl⟩
  obtain ⟨j, hj⟩ : ∃ j, a + q2 = j := ⟨_, rfl⟩
  obtain ⟨k, hk⟩ : ∃ k, a + q3 = k := ⟨_, rfl⟩
  have e1 : (b : Int) - (a : Int) = (m : Int) := by omega
  have e2 : (m : Int).tdiv 4 = (q : Int) := by rw [Int.tdiv_eq_ediv_of_nonneg (by omega)]; omega
  have e2' : (m : Int) / 4 = (q : Int) := by omega
  have eq1 : (q : Int) * 1 = (q : Int) := by omega
  have eq2 : (q : Int) * 2 = (q2 : Int) := by omega
  have eq3 : (q : Int) * 3 = (q3 : Int) := by omega
  have ei : (a : Int) + (q : Int) = (i : Int) := by omega
  have ej : (a : Int) + (q2 : Int) = (j : Int) := by omega
  have ek : (a : Int) + (q3 : Int) = (k : Int) := by omega
  have wm : IntKind.i64.wrap (m : Int) = (m : Int) := IntWalk.i64_in _ (by omega)
  have wq : IntKind.i64.wrap (q : Int) = (q : Int) := IntWalk.i64_in _ (by omega)
  have wq2 : IntKind.i64.wrap (q2 : Int) = (q2 : Int) := IntWalk.i64_in _ (by omega)
  have wq3 : IntKind.i64.wrap (q3 : Int) = (q3 : Int) := IntWalk.i64_in _ (by omega)
  have wi : IntKind.i64.wrap (i : Int) = (i : Int) := IntWalk.i64_in _ (by omega)
  have wj : IntKind.i64.wrap (j : Int) = (j : Int) := IntWalk.i64_in _ (by omega)
  have wk : IntKind.i64.wrap (k : Int) = (k : Int) := IntWalk.i64_in _ (by omega)
  have d8 : decide ((8 : Int) ≤ (m : Int)) = true := by simp; omega
  have i1 : a ≤ i := by omega
  have i2 : i < b := by omega
  have j1 : a ≤ j := by omega
  have j2 : j < b := by omega
  have k1 : a ≤ k := by omega
  have k2 : k < b := by omega
  have HI : Hid (50 ≤ m → a < i ∧ i + 1 < b ∧ a < j ∧ j + 1 < b ∧ a < k ∧ k + 1 < b) := Lib.hid (fun h => by omega)
  clear S hs hm hq hq2 hq3 hi hj hk
  go_enter Tryd.func88, Tryd.ntmps88
  by_cases h50 : 50 ≤ m
  · have d50 : decide ((50 : Int) ≤ (m : Int)) = true := by simp; omega
    obtain ⟨x1, x2, x3, x4, x5, x6⟩ := HI.out h50
    go_wp2_with fail
    refine (HA.out _ HC.out i x1 x2).mono ?_
    rintro e wx ⟨r, r1, r2, rfl, hwx⟩
    have Hwx := Lib.hid hwx
    clear hwx HC
    go_wp2_with fail
    refine (HA.out _ Hwx.out j x3 x4).mono ?_
    rintro e wy ⟨s, s1, s2, rfl, hwy⟩
    have Hwy := Lib.hid hwy
    clear hwy Hwx
    go_wp2_with fail
    refine (HA.out _ Hwy.out k x5 x6).mono ?_
    rintro e wz ⟨t, t1, t2, rfl, hwz⟩
    have Hwz := Lib.hid hwz
    clear hwz Hwy
    go_wp2_with fail
    refine (HM.out _ Hwz.out r s t r1 r2 s1 s2 t1 t2).mono ?_
    rintro e wt ⟨u, u1, u2, rfl, hwt⟩
    have Hwt := Lib.hid hwt
    clear hwt Hwz
    obtain ⟨z, hcz, _⟩ := Hwt.out.cell
    by_cases h0 : z = 0
    · have d0 : decide (z = 0) = true := by simpa using h0
      go_wp2
      (try go_ret2)
      exact ⟨u, 1, u1, u2, by simp, rfl, Hwt.out.s⟩
    · have d0 : decide (z = 0) = false := by simpa using h0
      by_cases h12 : z = 12
      · have d12 : decide (z = 12) = true := by simpa using h12
        go_wp2
        go_ret2
        exact ⟨u, 2, u1, u2, by simp, rfl, Hwt.out.s⟩
      · have d12 : decide (z = 12) = false := by simpa using h12
        go_wp2
        go_ret2
        exact ⟨u, 0, u1, u2, by simp, rfl, Hwt.out.s⟩
  · have d50 : decide ((50 : Int) ≤ (m : Int)) = false := by simp; omega
    go_wp2_with fail
    refine (HM.out _ HC.out i j k i1 i2 j1 j2 k1 k2).mono ?_
    rintro e wt ⟨u, u1, u2, rfl, hwt⟩
    have Hwt := Lib.hid hwt
    clear hwt HC
    obtain ⟨z, hcz, _⟩ := Hwt.out.cell
    by_cases h0 : z = 0
    · have d0 : decide (z = 0) = true := by simpa using h0
      go_wp2
      (try go_ret2)
      exact ⟨u, 1, u1, u2, by simp, rfl, Hwt.out.s⟩
    · have d0 : decide (z = 0) = false := by simpa using h0
      by_cases h12 : z = 12
      · have d12 : decide (z = 12) = true := by simpa using h12
        go_wp2
        go_ret2
        exact ⟨u, 2, u1, u2, by simp, rfl, Hwt.out.s⟩
      · have d12 : decide (z = 12) = false := by simpa using h12
        go_wp2
        go_ret2
        exact ⟨u, 0, u1, u2, by simp, rfl, Hwt.out.s⟩
end Go.Proofs.YtmolkbmdfkeniaaDoor.Tn
