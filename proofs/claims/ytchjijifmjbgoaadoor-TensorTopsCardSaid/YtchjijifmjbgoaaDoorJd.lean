import Derived.Test.YtchjijifmjbgoaaDoorJc
namespace Go.Proofs.YtchjijifmjbgoaaDoor.Tn
set_option maxRecDepth 100000
open Go.ChangeShapes Go.WideShapes Go.ChangeAt Go.RowKit Go.Proofs.YtchjijifmjbgoaaDoor.Fx Go.Proofs.YtchjijifmjbgoaaDoor.Rf

/-! ### the landed code: a row of a matrix -/
theorem ne0 {e : Int} (h : e ≠ 0) : (e != 0) = true := by simpa using h
theorem nums_some {w : World} {sp : Option Addr} {cap : Nat} {l : List Int} (h : Nums w sp cap l) (h1 : 1 ≤ l.length) : ∃ a, sp = some a := by
  obtain ⟨c, o, e, _⟩ := h.lies (by simp; omega)
  exact ⟨_, e⟩
set_option maxHeartbeats 4000000 in
theorem trow_any (w : World) (r c i : Int) (sp : Option Addr) (cap N : Nat) (l : List Int) (hN : l.length = N) (hl : Nums w sp cap l) (i1 : -9223372036854775808 ≤ i) (i2 : i ≤ 9223372036854775807) :
    Calls Tryd.prog 14 #[matV r c sp N cap, .int .i64 i] w (AnsE w (rowV r c l i) (rowE r c l i)) := by
  have HCk := Lib.hid (fun W (hb : Below w.heap.size w W) => mcheck_any W r c sp cap N l hN (hl.below hb))
  unfold matV at *
  by_cases hk : chkM r c l = 0
  · obtain ⟨R, C, rfl, rfl, r1, r2, k1, k2, hRC, hw⟩ := chkM_ok hN hk
    rw [hk] at HCk
    by_cases hi : 0 ≤ i ∧ i < (R : Int)
    · obtain ⟨q, hq⟩ : ∃ q : Nat, i = (q : Int) := ⟨i.toNat, by omega⟩
      subst hq
      obtain ⟨_, q2⟩ := hi
      have hqR : q < R := by omega
      have hX : rowE (R : Int) (C : Int) l (q : Int) = 0 := by unfold rowE; rw [if_neg (fun h => h hk), if_neg (by omega)]
      have hY : rowV (R : Int) (C : Int) l (q : Int) = rowL l C q := by unfold rowV; rw [if_pos hX, Int.toNat_natCast, Int.toNat_natCast]
      rw [hX, hY]
      have hrl := rowL_length (l := l) (C := C) (i := q) (R := R) (by omega) hqR
      have HRl := Lib.hid hrl
      have hin := row_in (C := C) hqR
      have hq1 : (q + 1) * C = q * C + C := by rw [Nat.add_mul, Nat.one_mul]
      have hRn := row_nums hl C q (by omega)
      obtain ⟨a, ha⟩ := nums_some hRn (by omega)
      have HRn := Lib.hid (fun W (hb : Below w.heap.size w W) => row_nums (hl.below hb) C q (by omega))
      have hsz : R * C ≤ 32768 := Nat.le_trans (Nat.mul_le_mul r2 k2) (by decide)
      have hcap := hl.cap
      obtain ⟨z, hz⟩ : ∃ z, q * C = z := ⟨_, rfl⟩
      rw [hz] at hin HRn ha hq1
      rw [ha] at HRn
      have kC := run_mid sp N cap z (z + C) (by omega) (by omega)
      rw [show z + C - z = C by omega, ha] at kC
      have hqc : (q : Int) * (C : Int) = (z : Int) := by rw [← hz, Int.natCast_mul]
      have hqc2 : ((q : Int) + 1) * (C : Int) = (z : Int) + (C : Int) := by
        have : (((q + 1) * C : Nat) : Int) = ((z + C : Nat) : Int) := by rw [hq1]
        rw [Int.natCast_mul, show ((q + 1 : Nat) : Int) = (q : Int) + 1 from rfl] at this
        rw [this]
        rfl
      have hzc : ((z + C : Nat) : Int) = (z : Int) + (C : Int) := by omega
      rw [hzc] at kC
      have f1 : decide ((q : Int) < 0) = false := by simp
      have f2 : decide ((R : Int) ≤ (q : Int)) = false := by simp; omega
      have f3 : decide (R ≤ q) = false := by simp; omega
      obtain ⟨X, hXX⟩ : ∃ X, rowL l C q = X := ⟨_, rfl⟩
      rw [hXX] at HRl HRn ⊢
      have HCl := Lib.hid (fun W (hb : Below w.heap.size w W) => clone_any W a (cap - z) C X HRl.out (HRn.out W hb) (by omega))
      have hzN : z + C ≤ 32768 := by omega
      clear hX hY hk hw hN hRC hz hXX hzc i1 i2 hl hRn hrl hcap hq1
      go_enter Tryd.func14, Tryd.ntmps14
      go_upto_region 1 with fail
      refine gen_world (Q := fun w => Code.wp _ _ _ _ w) _ (MatAt w (R : Int) (C : Int) sp N cap) (MatAt.made w (R : Int) (C : Int) sp N cap _ rfl) ?_
      intro W hW
      have HW := Lib.hid hW
      have HB0 := Lib.hid hW.below
      clear hW
      go_wp2_with (refine wpList_load_row rfl 24 (.tmp 2) rfl w.heap.size rfl 24 (matC (R : Int) (C : Int) sp N cap) (0, 0) _ HW.out.row Tryd.underlying24 rfl size_mat ?_)
      refine (HCk.out _ HB0.out).mono ?_
      rintro e w1 ⟨rfl, hb1⟩
      have HW1 := Lib.hid (HW.out.later hb1)
      have HB1 := Lib.hid HW1.out.below
      have c0 := HW1.out.c0
      have c1 := HW1.out.c1
      have c2 := HW1.out.c2
      clear hb1
      go_wp2_with fail
      refine (HCl.out _ HB1.out).mono ?_
      rintro e w2 ⟨s2, d2, rfl, hn2, hb2⟩
      have HB2 := Lib.hid (HB1.out.trans (hb2.mono HB1.out.size))
      have HN2 := Lib.hid hn2
      clear hb2 hn2
      go_wp2
      go_ret2
      exact ⟨s2, d2, rfl, HN2.out, HB2.out⟩
    · have hX : rowE (R : Int) (C : Int) l i = 10 := by unfold rowE; rw [if_neg (fun h => h hk), if_pos (by omega)]
      have hY : rowV (R : Int) (C : Int) l i = [] := by unfold rowV; rw [if_neg (by omega)]
      rw [hX, hY]
      by_cases hi0 : i < 0
      · have f1 : decide (i < 0) = true := by simpa using hi0
        clear hX hY hk hw hN hRC i1 i2 hl hi
        go_enter Tryd.func14, Tryd.ntmps14
        go_upto_region 1 with fail
        refine gen_world (Q := fun w => Code.wp _ _ _ _ w) _ (MatAt w (R : Int) (C : Int) sp N cap) (MatAt.made w (R : Int) (C : Int) sp N cap _ rfl) ?_
        intro W hW
        have HW := Lib.hid hW
        have HB0 := Lib.hid hW.below
        clear hW
        go_wp2_with (refine wpList_load_row rfl 24 (.tmp 2) rfl w.heap.size rfl 24 (matC (R : Int) (C : Int) sp N cap) (0, 0) _ HW.out.row Tryd.underlying24 rfl size_mat ?_)
        refine (HCk.out _ HB0.out).mono ?_
        rintro e w1 ⟨rfl, hb1⟩
        have HB1 := Lib.hid (HB0.out.trans (hb1.mono HB0.out.size))
        clear hb1
        go_wp2
        go_ret2
        exact AnsE.no HB1.out
      · have f1 : decide (i < 0) = false := by simpa using hi0
        have f2 : decide ((R : Int) ≤ i) = true := by simp; omega
        clear hX hY hk hw hN hRC i1 i2 hl hi
        go_enter Tryd.func14, Tryd.ntmps14
        go_upto_region 1 with fail
        refine gen_world (Q := fun w => Code.wp _ _ _ _ w) _ (MatAt w (R : Int) (C : Int) sp N cap) (MatAt.made w (R : Int) (C : Int) sp N cap _ rfl) ?_
        intro W hW
        have HW := Lib.hid hW
        have HB0 := Lib.hid hW.below
        clear hW
        go_wp2_with (refine wpList_load_row rfl 24 (.tmp 2) rfl w.heap.size rfl 24 (matC (R : Int) (C : Int) sp N cap) (0, 0) _ HW.out.row Tryd.underlying24 rfl size_mat ?_)
        refine (HCk.out _ HB0.out).mono ?_
        rintro e w1 ⟨rfl, hb1⟩
        have HW1 := Lib.hid (HW.out.later hb1)
        have HB1 := Lib.hid HW1.out.below
        have c0 := HW1.out.c0
        clear hb1
        go_wp2
        go_ret2
        exact AnsE.no HB1.out
  · have hX : rowE r c l i = chkM r c l := by unfold rowE; rw [if_pos hk]
    have hY : rowV r c l i = [] := by unfold rowV; rw [if_neg (by rw [hX]; exact hk)]
    rw [hX, hY]
    obtain ⟨E, hE⟩ : ∃ E, chkM r c l = E := ⟨_, rfl⟩
    rw [hE] at hk HCk ⊢
    have hE0 := ne0 hk
    clear hX hY hk hN i1 i2 hl hE
    go_enter Tryd.func14, Tryd.ntmps14
    go_upto_region 1 with fail
    refine gen_world (Q := fun w => Code.wp _ _ _ _ w) _ (MatAt w r c sp N cap) (MatAt.made w r c sp N cap _ rfl) ?_
    intro W hW
    have HW := Lib.hid hW
    have HB0 := Lib.hid hW.below
    clear hW
    go_wp2_with (refine wpList_load_row rfl 24 (.tmp 2) rfl w.heap.size rfl 24 (matC r c sp N cap) (0, 0) _ HW.out.row Tryd.underlying24 rfl size_mat ?_)
    refine (HCk.out _ HB0.out).mono ?_
    rintro e w1 ⟨rfl, hb1⟩
    have HB1 := Lib.hid (HB0.out.trans (hb1.mono HB0.out.size))
    clear hb1
    go_wp2
    go_ret2
    exact AnsE.no HB1.out
end Go.Proofs.YtchjijifmjbgoaaDoor.Tn
