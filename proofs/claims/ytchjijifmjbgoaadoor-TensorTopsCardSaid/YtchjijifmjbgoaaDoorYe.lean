import Derived.Test.YtchjijifmjbgoaaDoorYd
namespace Go.Proofs.YtchjijifmjbgoaaDoor.Tn
set_option maxRecDepth 100000
open Go.ChangeShapes Go.WideShapes Go.ChangeAt Go.RowKit Go.Sort Go.Proofs.YtchjijifmjbgoaaDoor.Fx Go.Proofs.YtchjijifmjbgoaaDoor.Rf

/-- a world of choosePivot: places d, and how many were exchanged -/
structure ChW (wb : World) (P n : Nat) (w0 : World) (g : Nat) (d : Array Nat) (W : World) : Prop where
  s : SrtW wb P n w0 d W
  cnt : ∃ z : Int, W.heap[g]? = some (.cells #[.int .i64 z] 3 (0, 0))
  far : w0.heap.size ≤ g ∧ P < w0.heap.size ∧ wb.heap.size ≤ g
section
variable {wb w0 W W' : World} {P n g : Nat} {d : Array Nat}
theorem ChW.later (h : ChW wb P n w0 g d W) (hb : Below W.heap.size W W') : ChW wb P n w0 g d W' := by
  obtain ⟨z, hz⟩ := h.cnt
  exact ⟨h.s.later hb, ⟨z, (hb.block g (Array.getElem?_eq_some_iff.1 hz).1).trans hz⟩, h.far⟩
theorem ChW.regrown (h : ChW wb P n w0 g d W) (q : Nat) (os : Array Obj) : ChW wb P n w0 g d (grow (redrawn W q) os) := h.later (below_regrown W q os)
theorem ChW.count (h : ChW wb P n w0 g d W) (z : Int) : ChW wb P n w0 g d (W.setCell ⟨g, 0, none⟩ (.int .i64 z)) := by
  obtain ⟨f1, f2, f3⟩ := h.far
  obtain ⟨z0, hz0⟩ := h.cnt
  have hs := h.s
  have ho : ∀ k, k ≠ g → (W.setCell ⟨g, 0, none⟩ (.int .i64 z)).heap[k]? = W.heap[k]? := fun k hk => heap_setCell_other _ ⟨g, 0, none⟩ _ _ (by simpa using hk)
  refine ⟨⟨hs.below.setCell (p := ⟨g, 0, none⟩) f3 _, ⟨hs.grown.os, hs.grown.tape, hs.grown.output, by simpa using hs.grown.size, fun k hk hne => ?_⟩, ?_, hs.size, hs.all, hs.big⟩, ⟨z, ?_⟩, h.far⟩
  · exact (ho k (by omega)).trans (hs.grown.block k hk hne)
  · exact (ho P (by omega)).trans hs.row
  · have := heap_setCell_same W g 0 _ 3 (.int .i64 z) hz0
    simpa using this
theorem ChW.cell (h : ChW wb P n w0 g d W) : ∃ z : Int, W.cell? ⟨g, 0, none⟩ = some (.int .i64 z) ∧ W.frozen? ⟨g, 0, none⟩ = false := by
  obtain ⟨z, hz⟩ := h.cnt
  exact ⟨z, by rw [cell_of_row _ _ _ _ _ _ hz]; rfl, frozen_of_row _ _ _ _ _ hz⟩
end
set_option maxHeartbeats 8000000 in
theorem order_any2 {wb : World} {gf : FuncId} {recv : Value} {n : Nat} {cf : Nat → Nat → Int} (S : Srt wb gf recv n cf) (w0 : World) (P g : Nat) (d : Array Nat) (w : World) (hs : ChW wb P n w0 g d w) (lo hi i j : Nat) (hh : hi ≤ n) (i1 : lo ≤ i) (i2 : i < hi) (j1 : lo ≤ j) (j2 : j < hi) :
    Calls Tryd.prog 106 #[.slice (some ⟨P, 0, none⟩) n n, .int .i64 i, .int .i64 j, .pointer (some ⟨g, 0, none⟩), .func (.func gf) #[recv] #[]] w fun e w' => ∃ p q : Nat, lo ≤ p ∧ p < hi ∧ lo ≤ q ∧ q < hi ∧ e = .returned (.tuple #[.int .i64 p, .int .i64 q]) ∧ ChW wb P n w0 g d w' := by
  have HS := Lib.hid S
  have mixed : Tryd.prog.follows Departure.mixedOrders = true := by kernel_rfl
  have hn := S.le
  have eg := S.eg
  have HC : Hid (ChW wb P n w0 g d w) := hs
  have HW := Lib.hid hs.s
  have hin : i < n := by omega
  have hjn : j < n := by omega
  clear S hs
  go_enter Tryd.func106, Tryd.ntmps106
  have q1 := cell_regrown (HW.out.cell (j) hjn)
  have q2 := cell_regrown (HW.out.cell (i) hin)
  have qc := fun q os => HS.out.at_ HW.out (j) (i) hjn hin q os
  by_cases hlt2 : cf d[j]! d[i]! < 0
  · have hd : decide (cf d[j]! d[i]! < 0) = true := by simpa using hlt2
    have HD : Hid (ltc cf d[j]! d[i]! = true) := Lib.hid hd
    obtain ⟨x, hx⟩ : ∃ x, d[j]! = x := ⟨_, rfl⟩
    obtain ⟨y, hy⟩ : ∃ y, d[i]! = y := ⟨_, rfl⟩
    rw [hx, hy] at qc hd
    rw [hx] at q1
    rw [hy] at q2
    clear hx hy hlt2 
    go_wp2
    refine wp_region_quiet_below (by kernel_rfl) (by kernel_rfl) ?_
    repeat (quiet_step (exact qc _ _))
    refine wpQuiet_nil ?_
    intro _ hw'
    obtain ⟨⟨dq, osq⟩, hw''⟩ := hw'
    subst hw''
    have HW2 := Lib.hid (HW.out.regrown dq osq)
    have HC2 := Lib.hid (HC.out.regrown dq osq)
    clear HC
    generalize grow (redrawn w dq) osq = w2 at HW2 HC2 ⊢
    clear q1 q2 qc HW
    obtain ⟨z, hc, hf⟩ := HC2.out.cell
    have HC3 := Lib.hid (fun z => HC2.out.count z)
    go_wp2
    go_ret2
    exact ⟨j, i, j1, j2, i1, i2, rfl, HC3.out _⟩
  · have hd : decide (cf d[j]! d[i]! < 0) = false := by simpa using hlt2
    have HD : Hid (ltc cf d[j]! d[i]! = false) := Lib.hid hd
    obtain ⟨x, hx⟩ : ∃ x, d[j]! = x := ⟨_, rfl⟩
    obtain ⟨y, hy⟩ : ∃ y, d[i]! = y := ⟨_, rfl⟩
    rw [hx, hy] at qc hd
    rw [hx] at q1
    rw [hy] at q2
    clear hx hy hlt2 
    go_wp2
    refine wp_region_quiet_below (by kernel_rfl) (by kernel_rfl) ?_
    repeat (quiet_step (exact qc _ _))
    refine wpQuiet_nil ?_
    intro _ hw'
    obtain ⟨⟨dq, osq⟩, hw''⟩ := hw'
    subst hw''
    have HW2 := Lib.hid (HW.out.regrown dq osq)
    have HC2 := Lib.hid (HC.out.regrown dq osq)
    clear HC
    generalize grow (redrawn w dq) osq = w2 at HW2 HC2 ⊢
    clear q1 q2 qc HW
    go_wp2
    go_ret2
    exact ⟨i, j, i1, i2, j1, j2, rfl, HC2.out⟩
set_option maxHeartbeats 8000000 in
theorem median_any {wb : World} {gf : FuncId} {recv : Value} {n : Nat} {cf : Nat → Nat → Int} (S : Srt wb gf recv n cf) (w0 : World) (P g : Nat) (d : Array Nat) (w : World) (hs : ChW wb P n w0 g d w) (lo hi a b c : Nat) (hh : hi ≤ n) (a1 : lo ≤ a) (a2 : a < hi) (b1 : lo ≤ b) (b2 : b < hi) (c1 : lo ≤ c) (c2 : c < hi) :
    Calls Tryd.prog 105 #[.slice (some ⟨P, 0, none⟩) n n, .int .i64 a, .int .i64 b, .int .i64 c, .pointer (some ⟨g, 0, none⟩), .func (.func gf) #[recv] #[]] w fun e w' => ∃ p : Nat, lo ≤ p ∧ p < hi ∧ e = .returned (.int .i64 p) ∧ ChW wb P n w0 g d w' := by
  have HO := Lib.hid (fun W (h : ChW wb P n w0 g d W) i j i1 i2 j1 j2 => order_any2 S w0 P g d W h lo hi i j hh i1 i2 j1 j2)
  have HC : Hid (ChW wb P n w0 g d w) := hs
  clear S hs
  go_enter Tryd.func105, Tryd.ntmps105
  go_wp2_with fail
  refine (HO.out _ HC.out a b a1 a2 b1 b2).mono ?_
  rintro e wx ⟨p, q, p1, p2, q1, q2, rfl, hx⟩
  have HX := Lib.hid hx
  clear hx HC a1 a2 b1 b2
  go_wp2_with fail
  refine (HO.out _ HX.out q c q1 q2 c1 c2).mono ?_
  rintro e wy ⟨r, s, r1, r2, s1, s2, rfl, hy⟩
  have HY := Lib.hid hy
  clear hy HX q1 q2 c1 c2
  go_wp2_with fail
  refine (HO.out _ HY.out p r p1 p2 r1 r2).mono ?_
  rintro e wz ⟨t, u, t1, t2, u1, u2, rfl, hz⟩
  have HZ := Lib.hid hz
  clear hz HY
  go_wp2
  go_ret
  exact ⟨u, u1, u2, rfl, HZ.out⟩
set_option maxHeartbeats 8000000 in
theorem adjacent_any {wb : World} {gf : FuncId} {recv : Value} {n : Nat} {cf : Nat → Nat → Int} (S : Srt wb gf recv n cf) (w0 : World) (P g : Nat) (d : Array Nat) (w : World) (hs : ChW wb P n w0 g d w) (lo hi a : Nat) (hh : hi ≤ n) (a1 : lo < a) (a2 : a + 1 < hi) :
    Calls Tryd.prog 104 #[.slice (some ⟨P, 0, none⟩) n n, .int .i64 a, .pointer (some ⟨g, 0, none⟩), .func (.func gf) #[recv] #[]] w fun e w' => ∃ p : Nat, lo ≤ p ∧ p < hi ∧ e = .returned (.int .i64 p) ∧ ChW wb P n w0 g d w' := by
  have hn := S.le
  obtain ⟨a0, ha0⟩ : ∃ a0, a = a0 + 1 := ⟨a - 1, by omega⟩
  obtain ⟨a3, ha3⟩ : ∃ a3, a + 1 = a3 := ⟨_, rfl⟩
  have HM := Lib.hid (median_any S w0 P g d w hs lo hi a0 a a3 hh (by omega) (by omega) (by omega) (by omega) (by omega) (by omega))
  have e0 : (a : Int) - 1 = (a0 : Int) := by omega
  have e3 : (a : Int) + 1 = (a3 : Int) := by omega
  have w0_ : IntKind.i64.wrap (a0 : Int) = (a0 : Int) := IntWalk.i64_in _ (by omega)
  have w3_ : IntKind.i64.wrap (a3 : Int) = (a3 : Int) := IntWalk.i64_in _ (by omega)
  clear S hs ha0 ha3
  go_enter Tryd.func104, Tryd.ntmps104
  go_wp2_with fail
  refine HM.out.mono ?_
  rintro e wx ⟨p, p1, p2, rfl, hx⟩
  have HX := Lib.hid hx
  clear hx HM
  go_wp2
  go_ret
  exact ⟨p, p1, p2, rfl, HX.out⟩
set_option maxHeartbeats 8000000 in
theorem pivot_any {wb : World} {gf : FuncId} {recv : Value} {n : Nat} {cf : Nat → Nat → Int} (S : Srt wb gf recv n cf) (w : World) (P : Nat) (d : Array Nat) (hs : SrtW wb P n w d w) (a b : Nat) (hab : a + 12 < b) (hb : b ≤ n) :
    Calls Tryd.prog 93 #[.slice (some ⟨P, 0, none⟩) n n, .int .i64 a, .int .i64 b, .func (.func gf) #[recv] #[]] w fun e w' => ∃ (p : Nat) (h : Int), a ≤ p ∧ p < b ∧ (h = 0 ∨ h = 1 ∨ h = 2) ∧ e = .returned (.tuple #[.int .i64 p, .int .i64 h]) ∧ SrtW wb P n w d w' := by
  have HM := Lib.hid (fun W (h : ChW wb P n w w.heap.size d W) x y z x1 x2 y1 y2 z1 z2 => median_any S w P w.heap.size d W h a b x y z hb x1 x2 y1 y2 z1 z2)
  have HA := Lib.hid (fun W (h : ChW wb P n w w.heap.size d W) x x1 x2 => adjacent_any S w P w.heap.size d W h a b x hb x1 x2)
  have hn := S.le
  have HC : Hid (ChW wb P n w w.heap.size d (w.alloc (.cells #[.int .i64 0] 3))) := Lib.hid ⟨hs.later ((Below.refl _ _).alloc (Nat.le_refl _) _), ⟨0, heap_alloc_new _ _⟩, Nat.le_refl _, hs.lt, hs.below.size⟩
  obtain ⟨m, hm⟩ : ∃ m, b - a = m := ⟨_, rfl⟩
  obtain ⟨q, hq⟩ : ∃ q, m / 4 = q := ⟨_, rfl⟩
  obtain ⟨q2, hq2⟩ : ∃ q2, q * 2 = q2 := ⟨_, rfl⟩
  obtain ⟨q3, hq3⟩ : ∃ q3, q * 3 = q3 := ⟨_, rfl⟩
  obtain ⟨i, hi⟩ : ∃ i, a + q = i := ⟨_, rfl⟩
  obtain ⟨j, hj⟩ : ∃ j, a + q2 = j := ⟨_, rfl⟩
  obtain ⟨k, hk⟩ : ∃ k, a + q3 = k := ⟨_, rfl⟩
  have e1 : (b : Int) - (a : Int) = (m : Int) := by omega
  have e2 : (m : Int).tdiv 4 = (q : Int) := by rw [Int.tdiv_eq_ediv_of_nonneg (by omega)]; omega
  have e2' : (m : Int) / 4 = (q : Int) := by omega
  have eq1 : (q : Int) * 1 = (q : Int) := by omega
  have eq2 : (q : Int) * 2 = (q2 : Int) := by omega
  have eq3 : (q : Int) * 3 = (q3 : Int) := by omega
  have ei : (a : Int) + (q : Int) = (i : Int) := by omega
  have ej : (a : Int) + (q2 : Int) = (j : Int) := by omega
  have ek : (a : Int) + (q3 : Int) = (k : Int) := by omega
  have wm : IntKind.i64.wrap (m : Int) = (m : Int) := IntWalk.i64_in _ (by omega)
  have wq : IntKind.i64.wrap (q : Int) = (q : Int) := IntWalk.i64_in _ (by omega)
  have wq2 : IntKind.i64.wrap (q2 : Int) = (q2 : Int) := IntWalk.i64_in _ (by omega)
  have wq3 : IntKind.i64.wrap (q3 : Int) = (q3 : Int) := IntWalk.i64_in _ (by omega)
  have wi : IntKind.i64.wrap (i : Int) = (i : Int) := IntWalk.i64_in _ (by omega)
  have wj : IntKind.i64.wrap (j : Int) = (j : Int) := IntWalk.i64_in _ (by omega)
  have wk : IntKind.i64.wrap (k : Int) = (k : Int) := IntWalk.i64_in _ (by omega)
  have d8 : decide ((8 : Int) ≤ (m : Int)) = true := by simp; omega
  have i1 : a ≤ i := by omega
  have i2 : i < b := by omega
  have j1 : a ≤ j := by omega
  have j2 : j < b := by omega
  have k1 : a ≤ k := by omega
  have k2 : k < b := by omega
  have HI : Hid (50 ≤ m → a < i ∧ i + 1 < b ∧ a < j ∧ j + 1 < b ∧ a < k ∧ k + 1 < b) := Lib.hid (fun h => by omega)
  clear S hs hm hq hq2 hq3 hi hj hk
  go_enter Tryd.func93, Tryd.ntmps93
  by_cases h50 : 50 ≤ m
  · have d50 : decide ((50 : Int) ≤ (m : Int)) = true := by simp; omega
    obtain ⟨x1, x2, x3, x4, x5, x6⟩ := HI.out h50
    go_wp2_with fail
    refine (HA.out _ HC.out i x1 x2).mono ?_
    rintro e wx ⟨r, r1, r2, rfl, hwx⟩
    have Hwx := Lib.hid hwx
    clear hwx HC
    go_wp2_with fail
    refine (HA.out _ Hwx.out j x3 x4).mono ?_
    rintro e wy ⟨s, s1, s2, rfl, hwy⟩
    have Hwy := Lib.hid hwy
    clear hwy Hwx
    go_wp2_with fail
    refine (HA.out _ Hwy.out k x5 x6).mono ?_
    rintro e wz ⟨t, t1, t2, rfl, hwz⟩
    have Hwz := Lib.hid hwz
    clear hwz Hwy
    go_wp2_with fail
    refine (HM.out _ Hwz.out r s t r1 r2 s1 s2 t1 t2).mono ?_
    rintro e wt ⟨u, u1, u2, rfl, hwt⟩
    have Hwt := Lib.hid hwt
    clear hwt Hwz
    obtain ⟨z, hcz, _⟩ := Hwt.out.cell
    by_cases h0 : z = 0
    · have d0 : decide (z = 0) = true := by simpa using h0
      go_wp2
      (try go_ret2)
      exact ⟨u, 1, u1, u2, by simp, rfl, Hwt.out.s⟩
    · have d0 : decide (z = 0) = false := by simpa using h0
      by_cases h12 : z = 12
      · have d12 : decide (z = 12) = true := by simpa using h12
        go_wp2
        go_ret2
        exact ⟨u, 2, u1, u2, by simp, rfl, Hwt.out.s⟩
      · have d12 : decide (z = 12) = false := by simpa using h12
        go_wp2
        go_ret2
        exact ⟨u, 0, u1, u2, by simp, rfl, Hwt.out.s⟩
  · have d50 : decide ((50 : Int) ≤ (m : Int)) = false := by simp; omega
    go_wp2_with fail
    refine (HM.out _ HC.out i j k i1 i2 j1 j2 k1 k2).mono ?_
    rintro e wt ⟨u, u1, u2, rfl, hwt⟩
    have Hwt := Lib.hid hwt
    clear hwt HC
    obtain ⟨z, hcz, _⟩ := Hwt.out.cell
    by_cases h0 : z = 0
    · have d0 : decide (z = 0) = true := by simpa using h0
      go_wp2
      (try go_ret2)
      exact ⟨u, 1, u1, u2, by simp, rfl, Hwt.out.s⟩
    · have d0 : decide (z = 0) = false := by simpa using h0
      by_cases h12 : z = 12
      · have d12 : decide (z = 12) = true := by simpa using h12
        go_wp2
        go_ret2
        exact ⟨u, 2, u1, u2, by simp, rfl, Hwt.out.s⟩
      · have d12 : decide (z = 12) = false := by simpa using h12
        go_wp2
        go_ret2
        exact ⟨u, 0, u1, u2, by simp, rfl, Hwt.out.s⟩
end Go.Proofs.YtchjijifmjbgoaaDoor.Tn
