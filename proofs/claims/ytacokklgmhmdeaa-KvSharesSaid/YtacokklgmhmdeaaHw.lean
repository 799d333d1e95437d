/- Pools of rows in pages: the walk of KvShares. -/
import Derived.Test.YtacokklgmhmdeaaLe
namespace Go.Proofs.Ytacokklgmhmdeaa.Kv
set_option maxRecDepth 100000
open Go.ChangeShapes Go.WideShapes Go.ChangeAt Go.RowKit Go.Proofs.Ytacokklgmhmdeaa.Tn
theorem size_two : (Try.prog.info? 22).map (·.size) = some 2 := by kernel_rfl
theorem load_two {W : World} {g : Nat} {x y : Int} (h : W.heap[g]? = some (.cells #[.int .i64 x, .int .i64 y] 22 (0, 0))) : (loadVar 22 ⟨g, 0, none⟩).run Try.prog W = .ok (.agg #[.int .i64 x, .int .i64 y]) W :=
  run_loadVar_row W g 22 22 _ _ _ h Try.underlying22 rfl size_two
/-- what the law's boxes hold -/
structure Bx (w : World) (x y t0 t1 : Int) (v0 v1 : Value) (W : World) : Prop where
  below : Below w.heap.size w W
  b0 : W.heap[w.heap.size]? = some (.cells #[.int .i64 x, .int .i64 y] 22 (0, 0))
  b1 : W.heap[w.heap.size + 1]? = some (.cells #[.int .i64 t0, .int .i64 t1] 22 (0, 0))
  b2 : W.heap[w.heap.size + 2]? = some (.cells #[v0, v1] 52 (0, 0))
theorem Bx.later {w W W' : World} {x y t0 t1 : Int} {v0 v1 : Value} (h : Bx w x y t0 t1 v0 v1 W) (hb : Below W.heap.size W W') : Bx w x y t0 t1 v0 v1 W' :=
  ⟨h.below.trans (hb.mono h.below.size), (hb.block _ (Array.getElem?_eq_some_iff.1 h.b0).1).trans h.b0, (hb.block _ (Array.getElem?_eq_some_iff.1 h.b1).1).trans h.b1, (hb.block _ (Array.getElem?_eq_some_iff.1 h.b2).1).trans h.b2⟩
theorem Bx.cells {w W : World} {x y t0 t1 : Int} {v0 v1 : Value} (h : Bx w x y t0 t1 v0 v1 W) : W.cell? ⟨w.heap.size, 0, none⟩ = some (.int .i64 x) ∧ W.cell? ⟨w.heap.size, 1, none⟩ = some (.int .i64 y) ∧ W.cell? ⟨w.heap.size + 1, 0, none⟩ = some (.int .i64 t0) ∧ W.cell? ⟨w.heap.size + 1, 1, none⟩ = some (.int .i64 t1) ∧ W.cell? ⟨w.heap.size + 2, 0, none⟩ = some v0 ∧ W.cell? ⟨w.heap.size + 2, 1, none⟩ = some v1 := by
  refine ⟨?_, ?_, ?_, ?_, ?_, ?_⟩
  · rw [cell_of_row _ _ _ _ _ _ h.b0]; rfl
  · rw [cell_of_row _ _ _ _ _ _ h.b0]; rfl
  · rw [cell_of_row _ _ _ _ _ _ h.b1]; rfl
  · rw [cell_of_row _ _ _ _ _ _ h.b1]; rfl
  · rw [cell_of_row _ _ _ _ _ _ h.b2]; rfl
  · rw [cell_of_row _ _ _ _ _ _ h.b2]; rfl
theorem Bx.new (w : World) (x y t0 t1 : Int) (v0 v1 : Value) : Bx w x y t0 t1 v0 v1 (((w.alloc (.cells #[.int .i64 x, .int .i64 y] 22)).alloc (.cells #[.int .i64 t0, .int .i64 t1] 22)).alloc (.cells #[v0, v1] 52)) := by
  obtain ⟨O1, hO1⟩ : ∃ O, (Obj.cells #[.int .i64 x, .int .i64 y] 22 (0, 0)) = O := ⟨_, rfl⟩
  obtain ⟨O2, hO2⟩ : ∃ O, (Obj.cells #[.int .i64 t0, .int .i64 t1] 22 (0, 0)) = O := ⟨_, rfl⟩
  obtain ⟨O3, hO3⟩ : ∃ O, (Obj.cells #[v0, v1] 52 (0, 0)) = O := ⟨_, rfl⟩
  rw [hO1, hO2, hO3]
  have s1 : (w.alloc O1).heap.size = w.heap.size + 1 := by simp
  have s2 : ((w.alloc O1).alloc O2).heap.size = w.heap.size + 2 := by simp
  refine ⟨(((Below.refl _ _).alloc (Nat.le_refl _) _).alloc (by simp) _).alloc (by simp; omega) _, ?_, ?_, ?_⟩
  · rw [alloc_old _ _ _ (by omega), alloc_old _ _ _ (by omega), hO1]; exact alloc_new _ _
  · rw [alloc_old _ _ _ (by omega), hO2, ← s1]; exact alloc_new _ _
  · rw [hO3, ← s2]; exact alloc_new _ _
set_option maxHeartbeats 8000000 in
theorem shares_walk (w : World) (x y t0 t1 : Int) (sp : Option Addr) (cp : Nat) (l0 : List Int) (sq : Option Addr) (cq : Nat) (l1 : List Int) (h0 : Nums w sp cp l0) (h1 : Nums w sq cq l1) :
    Calls Try.prog 6 #[.agg #[.int .i64 x, .int .i64 y], .agg #[.int .i64 t0, .int .i64 t1], .agg #[.slice sp l0.length cp, .slice sq l1.length cq]] w fun e w' => e = .returned (.bool true) ∧ Below w.heap.size w w' := by
  obtain ⟨N, hN⟩ : ∃ N, l0.length = N := ⟨_, rfl⟩
  obtain ⟨M, hM⟩ : ∃ M, l1.length = M := ⟨_, rfl⟩
  have hNm : N ≤ 9223372036854775807 := by rw [← hN]; exact h0.len
  have hMm : M ≤ 9223372036854775807 := by rw [← hM]; exact h1.len
  have HBx := Lib.hid (Bx.new w x y t0 t1 (.slice sp N cp) (.slice sq M cq))
  have HL0 := Lib.hid h0
  have HL1 := Lib.hid h1
  have HN := Lib.hid hN
  have HM := Lib.hid hM
  rw [hN, hM]
  clear h0 h1 hN hM
  by_cases hr : rightB x y = true
  · have HRt := Lib.hid hr
    clear hr
    by_cases h1 : t0 < 0
    · have d1 : decide (t0 < 0) = true := by simpa using h1
      clear h1
      go_enter Try.func6, Try.ntmps6
      go_upto_region 1 with fail
      refine I.gen_w (Q := fun w => Code.wp _ _ _ _ w) _ (fun W => Bx w x y t0 t1 (.slice sp N cp) (.slice sq M cq) W) HBx.out ?_
      clear HBx
      rintro w1 k1
      have X1 := Lib.hid k1
      have hld := load_two k1.b0
      obtain ⟨q0, q1, q2, q3, q4, q5⟩ := k1.cells
      clear k1
      go_wp2_with fail
      refine (right_any w1 x y).mono ?_
      rintro e w2 ⟨rfl, k2⟩
      have X2 := Lib.hid (X1.out.later k2)
      clear k2 hld q0 q1 q2 q3 q4 q5 X1
      obtain ⟨q0, q1, q2, q3, q4, q5⟩ := X2.out.cells
      rw [HRt.out]
      go_wp2_with fail
      refine (awake_any _).mono ?_
      rintro e w3 ⟨rfl, k3⟩
      have X3 := Lib.hid (X2.out.later k3)
      clear k3
      go_wp2
      go_ret
      exact ⟨rfl, X3.out.below⟩
    · have d1 : decide (t0 < 0) = false := by simpa using h1
      by_cases h2 : 60 < t0
      · have d2 : decide (60 < t0) = true := by simpa using h2
        clear h2
        go_enter Try.func6, Try.ntmps6
        go_upto_region 1 with fail
        refine I.gen_w (Q := fun w => Code.wp _ _ _ _ w) _ (fun W => Bx w x y t0 t1 (.slice sp N cp) (.slice sq M cq) W) HBx.out ?_
        clear HBx
        rintro w1 k1
        have X1 := Lib.hid k1
        have hld := load_two k1.b0
        obtain ⟨q0, q1, q2, q3, q4, q5⟩ := k1.cells
        clear k1
        go_wp2_with fail
        refine (right_any w1 x y).mono ?_
        rintro e w2 ⟨rfl, k2⟩
        have X2 := Lib.hid (X1.out.later k2)
        clear k2 hld q0 q1 q2 q3 q4 q5 X1
        obtain ⟨q0, q1, q2, q3, q4, q5⟩ := X2.out.cells
        rw [HRt.out]
        go_wp2_with fail
        refine (awake_any _).mono ?_
        rintro e w3 ⟨rfl, k3⟩
        have X3 := Lib.hid (X2.out.later k3)
        clear k3
        go_wp2
        go_ret
        exact ⟨rfl, X3.out.below⟩
      · have d2 : decide (60 < t0) = false := by simpa using h2
        by_cases h3 : t1 < 0
        · have d3 : decide (t1 < 0) = true := by simpa using h3
          clear h3
          go_enter Try.func6, Try.ntmps6
          go_upto_region 1 with fail
          refine I.gen_w (Q := fun w => Code.wp _ _ _ _ w) _ (fun W => Bx w x y t0 t1 (.slice sp N cp) (.slice sq M cq) W) HBx.out ?_
          clear HBx
          rintro w1 k1
          have X1 := Lib.hid k1
          have hld := load_two k1.b0
          obtain ⟨q0, q1, q2, q3, q4, q5⟩ := k1.cells
          clear k1
          go_wp2_with fail
          refine (right_any w1 x y).mono ?_
          rintro e w2 ⟨rfl, k2⟩
          have X2 := Lib.hid (X1.out.later k2)
          clear k2 hld q0 q1 q2 q3 q4 q5 X1
          obtain ⟨q0, q1, q2, q3, q4, q5⟩ := X2.out.cells
          rw [HRt.out]
          go_wp2_with fail
          refine (awake_any _).mono ?_
          rintro e w3 ⟨rfl, k3⟩
          have X3 := Lib.hid (X2.out.later k3)
          clear k3
          go_wp2
          go_ret
          exact ⟨rfl, X3.out.below⟩
        · have d3 : decide (t1 < 0) = false := by simpa using h3
          by_cases h4 : t0 < t1
          · have d4 : decide (t0 < t1) = true := by simpa using h4
            clear h4
            go_enter Try.func6, Try.ntmps6
            go_upto_region 1 with fail
            refine I.gen_w (Q := fun w => Code.wp _ _ _ _ w) _ (fun W => Bx w x y t0 t1 (.slice sp N cp) (.slice sq M cq) W) HBx.out ?_
            clear HBx
            rintro w1 k1
            have X1 := Lib.hid k1
            have hld := load_two k1.b0
            obtain ⟨q0, q1, q2, q3, q4, q5⟩ := k1.cells
            clear k1
            go_wp2_with fail
            refine (right_any w1 x y).mono ?_
            rintro e w2 ⟨rfl, k2⟩
            have X2 := Lib.hid (X1.out.later k2)
            clear k2 hld q0 q1 q2 q3 q4 q5 X1
            obtain ⟨q0, q1, q2, q3, q4, q5⟩ := X2.out.cells
            rw [HRt.out]
            go_wp2_with fail
            refine (awake_any _).mono ?_
            rintro e w3 ⟨rfl, k3⟩
            have X3 := Lib.hid (X2.out.later k3)
            clear k3
            go_wp2
            go_ret
            exact ⟨rfl, X3.out.below⟩
          · have d4 : decide (t0 < t1) = false := by simpa using h4
            by_cases h5 : 20 < N
            · have d5 : decide (20 < N) = true := by simpa using h5
              have d5i : decide ((20 : Int) < (N : Int)) = true := by simp; omega
              clear h5
              go_enter Try.func6, Try.ntmps6
              go_upto_region 1 with fail
              refine I.gen_w (Q := fun w => Code.wp _ _ _ _ w) _ (fun W => Bx w x y t0 t1 (.slice sp N cp) (.slice sq M cq) W) HBx.out ?_
              clear HBx
              rintro w1 k1
              have X1 := Lib.hid k1
              have hld := load_two k1.b0
              obtain ⟨q0, q1, q2, q3, q4, q5⟩ := k1.cells
              clear k1
              go_wp2_with fail
              refine (right_any w1 x y).mono ?_
              rintro e w2 ⟨rfl, k2⟩
              have X2 := Lib.hid (X1.out.later k2)
              clear k2 hld q0 q1 q2 q3 q4 q5 X1
              obtain ⟨q0, q1, q2, q3, q4, q5⟩ := X2.out.cells
              rw [HRt.out]
              go_wp2_with fail
              refine (awake_any _).mono ?_
              rintro e w3 ⟨rfl, k3⟩
              have X3 := Lib.hid (X2.out.later k3)
              clear k3
              go_wp2
              go_ret
              exact ⟨rfl, X3.out.below⟩
            · have d5 : decide (20 < N) = false := by simpa using h5
              have d5i : decide ((20 : Int) < (N : Int)) = false := by simp; omega
              by_cases h6 : 20 < M
              · have d6 : decide (20 < M) = true := by simpa using h6
                have d6i : decide ((20 : Int) < (M : Int)) = true := by simp; omega
                clear h6
                go_enter Try.func6, Try.ntmps6
                go_upto_region 1 with fail
                refine I.gen_w (Q := fun w => Code.wp _ _ _ _ w) _ (fun W => Bx w x y t0 t1 (.slice sp N cp) (.slice sq M cq) W) HBx.out ?_
                clear HBx
                rintro w1 k1
                have X1 := Lib.hid k1
                have hld := load_two k1.b0
                obtain ⟨q0, q1, q2, q3, q4, q5⟩ := k1.cells
                clear k1
                go_wp2_with fail
                refine (right_any w1 x y).mono ?_
                rintro e w2 ⟨rfl, k2⟩
                have X2 := Lib.hid (X1.out.later k2)
                clear k2 hld q0 q1 q2 q3 q4 q5 X1
                obtain ⟨q0, q1, q2, q3, q4, q5⟩ := X2.out.cells
                rw [HRt.out]
                go_wp2_with fail
                refine (awake_any _).mono ?_
                rintro e w3 ⟨rfl, k3⟩
                have X3 := Lib.hid (X2.out.later k3)
                clear k3
                go_wp2
                go_ret
                exact ⟨rfl, X3.out.below⟩
              · have d6 : decide (20 < M) = false := by simpa using h6
                have d6i : decide ((20 : Int) < (M : Int)) = false := by simp; omega
                obtain ⟨T0, rfl⟩ := Int.eq_ofNat_of_zero_le (show 0 ≤ t0 by omega)
                obtain ⟨T1, rfl⟩ := Int.eq_ofNat_of_zero_le (show 0 ≤ t1 by omega)
                have hT0 : T0 ≤ 60 := by omega
                have hT1 : T1 ≤ T0 := by omega
                have hN20 : N ≤ 20 := by omega
                have hM20 : M ≤ 20 := by omega
                obtain ⟨n, s, hxn, hys, hn1, hn2, hs1, hs2⟩ : ∃ n s : Nat, x = n ∧ y = s ∧ 1 ≤ n ∧ n ≤ 12 ∧ 1 ≤ s ∧ s ≤ 8 := by
                  have hr := HRt.out
                  unfold rightB at hr
                  simp at hr
                  exact ⟨x.toNat, y.toNat, by omega, by omega, by omega, by omega, by omega, by omega⟩
                have HXn := Lib.hid hxn
                have HYs := Lib.hid hys
                clear hxn hys h1 h2 h3 h4 h5 h6
                go_enter Try.func6, Try.ntmps6
                go_upto_region 1 with fail
                refine I.gen_w (Q := fun w => Code.wp _ _ _ _ w) _ (fun W => Bx w x y (T0 : Int) (T1 : Int) (.slice sp N cp) (.slice sq M cq) W) HBx.out ?_
                clear HBx
                rintro w1 k1
                have X1 := Lib.hid k1
                have hld := load_two k1.b0
                obtain ⟨q0, q1, q2, q3, q4, q5⟩ := k1.cells
                clear k1
                go_wp2_with fail
                refine (right_any w1 x y).mono ?_
                rintro e w2 ⟨rfl, k2⟩
                have X2 := Lib.hid (X1.out.later k2)
                clear k2 hld q0 q1 q2 q3 q4 q5 X1
                obtain ⟨q0, q1, q2, q3, q4, q5⟩ := X2.out.cells
                rw [HRt.out]
                have hNw := I.new_any w2 bare (bare_fits w2) n s hn1 (by omega) hs1 (by omega)
                rw [← HXn.out, ← HYs.out] at hNw
                have HNw := Lib.hid hNw
                clear hNw
                go_wp2_with fail
                refine HNw.out.mono ?_
                rintro e w3 ⟨g, τ3, rfl, k3, k4⟩
                have P3 : Hid (Pool I.kind w3 τ3 g (⟨s, n, []⟩ : Doc Int)) := Lib.hid k3
                have S3 := Lib.hid k4.all
                clear k3 k4 HNw
                have hO := I.openD_any P3.out
                rw [show openD (⟨s, n, []⟩ : Doc Int) = ((0, 0), ⟨s, n, [some ([], [])]⟩) from rfl] at hO
                have HO := Lib.hid hO
                clear hO
                go_wp2_with fail
                refine HO.out.mono ?_
                rintro e w4 ⟨rfl, τ4, k3, k4⟩
                have P4 : Hid (Pool I.kind w4 τ4 g (⟨s, n, [some ([], [])]⟩ : Doc Int)) := Lib.hid k3
                have S4 := Lib.hid (S3.out.trans k4.all)
                clear k3 k4 HO P3 S3 q0 q1 q2 q3 q4 q5
                go_wp2
                go_loopw [9, 10] (fun nv iv wr => ∃ (i m : Nat) (D : Doc Int) (τ : Tags), i ≤ T0 ∧ nv = .int .i64 m ∧ iv = .int .i64 i ∧ Pool I.kind wr τ g D ∧ Jone i m D ∧ D.pages = n ∧ Step (fun _ => true) bare τ w2 wr) (fun _ iv _ => T0 - (intOf iv).toNat)
                case atStart => exact ⟨0, 0, _, τ4, by omega, rfl, rfl, P4.out, ⟨Nat.le_refl _, [], rfl, fun h => by omega⟩, rfl, S4.out⟩
                case round =>
                  obtain ⟨i, m, D, τ, hi, rfl, rfl, k1, k2, k3, k4⟩ := hrel
                  have P := Lib.hid k1
                  have J := Lib.hid k2
                  have Dp := Lib.hid k3
                  have S := Lib.hid k4
                  have X := Lib.hid (X2.out.later k4.bare)
                  have hmi := k2.1
                  clear k1 k2 k3 k4 P4 S4
                  obtain ⟨q0, q1, q2, q3, q4, q5⟩ := X.out.cells
                  by_cases hlt : i < T0
                  · have e1 : decide (i < T0) = true := by simpa using hlt
                    have e2 : decide ((i : Int) < (T0 : Int)) = true := by simp; omega
                    have hA := I.append_any P.out 0 (i : Int)
                    rcases J.out.step with ⟨ha, hj⟩ | ⟨D', ha, hj⟩
                    · rw [ha] at hA
                      have HA := Lib.hid hA
                      have J' := Lib.hid hj
                      clear hA ha hj
                      go_wp2_with fail
                      refine HA.out.mono ?_
                      rintro e w5 ⟨rfl, τ5, k5, k6⟩
                      have P5 := Lib.hid k5
                      have S5 := Lib.hid (S.out.trans k6.all)
                      clear k5 k6 q0 q1 q2 q3 q4 q5
                      go_wp2
                      go_roundw
                      case rel => exact ⟨i + 1, m, D, τ5, by omega, rfl, by go_num, P5.out, J'.out, Dp.out, S5.out⟩
                      case measure => simp [intOf]; omega
                    · have hpg : D'.pages = n := by
                        have h9 := congrArg (fun z : Int × Doc Int => z.2.pages) ha
                        dsimp only at h9
                        rw [← h9, appendD_pages]
                        exact Dp.out
                      rw [ha] at hA
                      have HA := Lib.hid hA
                      have J' := Lib.hid hj
                      have Dp' := Lib.hid hpg
                      clear hA ha hj hpg
                      go_wp2_with fail
                      refine HA.out.mono ?_
                      rintro e w5 ⟨rfl, τ5, k5, k6⟩
                      have P5 := Lib.hid k5
                      have S5 := Lib.hid (S.out.trans k6.all)
                      clear k5 k6 q0 q1 q2 q3 q4 q5
                      go_wp2
                      go_roundw
                      case rel => exact ⟨i + 1, m + 1, D', τ5, by omega, by go_num, by go_num, P5.out, J'.out, Dp'.out, S5.out⟩
                      case measure => simp [intOf]; omega
                  · obtain rfl : i = T0 := by omega
                    have e1 : decide (i < i) = false := by simp
                    have e2 : decide ((i : Int) < (i : Int)) = false := by simp
                    have HF := Lib.hid (I.freeD_any P.out)
                    go_wp2_with fail
                    refine HF.out.mono ?_
                    rintro e w5 ⟨rfl, k5⟩
                    obtain ⟨f, hf⟩ : ∃ f, I.freeN D D.pages = f := ⟨_, rfl⟩
                    rw [hf]
                    have HFe := Lib.hid hf
                    have P5 := Lib.hid (P.out.below k5)
                    have S5 := Lib.hid (S.out.trans (Step.below (M := fun _ => true) (τ := τ) k5))
                    have X5 := Lib.hid (X.out.later k5)
                    clear k5 q0 q1 q2 q3 q4 q5 HF hf
                    obtain ⟨q0, q1, q2, q3, q4, q5⟩ := X5.out.cells
                    obtain ⟨_, Pp, hrows, _⟩ := J.out
                    have hSh := I.shareD_any P5.out 0 (T1 : Int)
                    by_cases ht : m < T1
                    · rw [shareD_no hrows ht] at hSh
                      have HSh := Lib.hid hSh
                      have e3 : decide (m < T1) = true := by simpa using ht
                      have e4 : decide ((m : Int) < (T1 : Int)) = true := by simp; omega
                      clear hSh hrows
                      go_wp2_with fail
                      refine HSh.out.mono ?_
                      rintro e w6 ⟨rfl, τ6, k5, k6⟩
                      have P6 := Lib.hid k5
                      have S6 := Lib.hid (S5.out.trans k6.all)
                      have X6 := Lib.hid (X2.out.later S6.out.bare)
                      clear k5 k6 q0 q1 q2 q3 q4 q5
                      obtain ⟨q0, q1, q2, q3, q4, q5⟩ := X6.out.cells
                      have hF6 := I.freeD_any P6.out
                      rw [HFe.out] at hF6
                      have HF6 := Lib.hid hF6
                      clear hF6
                      have hff : ((f : Int) == (f : Int)) = true := by simp
                      go_wp2_with fail
                      refine HF6.out.mono ?_
                      rintro e w7 ⟨rfl, k7⟩
                      have X7 := Lib.hid (X6.out.later k7)
                      clear k7 q0 q1 q2 q3 q4 q5
                      go_wp2_with fail
                      refine (awake_any _).mono ?_
                      rintro e w8 ⟨rfl, k8⟩
                      have X8 := Lib.hid (X7.out.later k8)
                      clear k8
                      go_wp2
                      go_ret
                      exact ⟨rfl, X8.out.below⟩
                    · obtain ⟨D6, Q6, hs6, hr6, hp6, hc6⟩ := shareD_yes hrows (by omega : T1 ≤ m)
                      rw [hs6] at hSh
                      have HSh := Lib.hid hSh
                      have e3 : decide (m < T1) = false := by simpa using ht
                      have e4 : decide ((m : Int) < (T1 : Int)) = false := by simp; omega
                      have HR6 := Lib.hid hr6
                      have HF6 : Hid (I.freeN D6 D6.pages = f) := Lib.hid (by rw [hp6, freeN_same _ (fun j _ => hc6 j)]; exact HFe.out)
                      clear hSh hrows hs6 hr6 hp6 hc6
                      go_wp2_with fail
                      refine HSh.out.mono ?_
                      rintro e w6 ⟨rfl, τ6, k5, k6⟩
                      have P6 := Lib.hid k5
                      have S6 := Lib.hid (S5.out.trans k6.all)
                      have X6 := Lib.hid (X2.out.later S6.out.bare)
                      clear k5 k6 q0 q1 q2 q3 q4 q5
                      obtain ⟨q0, q1, q2, q3, q4, q5⟩ := X6.out.cells
                      have hFw := I.freeD_any P6.out
                      rw [HF6.out] at hFw
                      have HFw := Lib.hid hFw
                      clear hFw
                      have hff : ((f : Int) != (f : Int)) = false := by simp
                      go_wp2_with fail
                      refine HFw.out.mono ?_
                      rintro e w7 ⟨rfl, k7⟩
                      have P7 := Lib.hid (P6.out.below k7)
                      have S7 := Lib.hid (S6.out.trans (Step.below (M := fun _ => true) (τ := τ6) k7))
                      have X7 := Lib.hid (X6.out.later k7)
                      clear k7 q0 q1 q2 q3 q4 q5
                      go_wp2
                      go_loopw [14, 15, 16] (fun av bv iv wr => ∃ (i : Nat) (τ : Tags), i ≤ m ∧ iv = .int .i64 i ∧ Mr 0 τ wr av (numsTo i) ∧ Mr 1 τ wr bv (numsTo (min i T1)) ∧ Pool I.kind wr τ g D6 ∧ Step (fun _ => true) bare τ w2 wr) (fun _ _ iv _ => m - (intOf iv).toNat)
                      case atStart => exact ⟨0, τ6, by omega, rfl, Mr.nil _ _ _, by rw [Nat.zero_min]; exact Mr.nil _ _ _, P7.out, S7.out⟩
                      case round =>
                        obtain ⟨i, τ, hi, rfl, k1, k2, k3, k4⟩ := hrel
                        obtain ⟨sa, ca, rfl, _⟩ := k1.slice
                        obtain ⟨sb, cb, rfl, _⟩ := k2.slice
                        have MA := Lib.hid k1
                        have MB := Lib.hid k2
                        have P := Lib.hid k3
                        have S := Lib.hid k4
                        have X := Lib.hid (X2.out.later k4.bare)
                        clear k1 k2 k3 k4 P7 S7 X7
                        obtain ⟨q0, q1, q2, q3, q4, q5⟩ := X.out.cells
                        rw [numsTo_length] at MA ⊢
                        rw [numsTo_length] at MB ⊢
                        by_cases hlt : i < m
                        · have e1 : decide (i < m) = true := by simpa using hlt
                          have e2 : decide ((i : Int) < (m : Int)) = true := by simp; omega
                          by_cases hit : i < T1
                          · have e5 : decide (i < T1) = true := by simpa using hit
                            have e6 : decide ((i : Int) < (T1 : Int)) = true := by simp; omega
                            have hmin : min i T1 = i := by omega
                            rw [hmin] at MB ⊢
                            have hmin2 : Hid (min (i + 1) T1 = i + 1) := Lib.hid (by omega)
                            have Him := Lib.hid hlt
                            have Hi60 : Hid (i ≤ 1000000) := Lib.hid (by omega)
                            clear hmin
                            go_wp2_with (first
                              | (at_builtin; refine wpList_push_m 0 rfl (.tmp 133) (.tmp 135) rfl wr τ P.out.fits _ (numsTo i) (i : Int) rfl MA.out rfl i (numsTo_length i) Hi60.out ?_; intro sa' ca' w8 τ8 k1 k2 k3; have MA8 := Lib.hid k1; have MB8 := Lib.hid (MB.out.step k2 (isK_other (by decide))); have P8 := Lib.hid (P.out.step k2 (isK_mine 0) k3); have S8 := Lib.hid (S.out.trans k2.all); have X8 := Lib.hid (X2.out.later S8.out.bare); clear k1 k2 k3 q0 q1 q2 q3 q4 q5; obtain ⟨q0, q1, q2, q3, q4, q5⟩ := X8.out.cells)
                              | (at_builtin; refine wpList_push_m 1 rfl (.tmp 141) (.tmp 143) rfl w8 τ8 P8.out.fits _ (numsTo i) (i : Int) rfl MB8.out rfl i (numsTo_length i) Hi60.out ?_; intro sb' cb' w9 τ9 k1 k2 k3; have MB9 := Lib.hid k1; have MA9 := Lib.hid (MA8.out.step k2 (isK_other (by decide))); have P9 := Lib.hid (P8.out.step k2 (isK_mine 1) k3); have S9 := Lib.hid (S8.out.trans k2.all); clear k1 k2 k3 q0 q1 q2 q3 q4 q5))
                            go_roundw
                            case rel => exact ⟨i + 1, τ9, by omega, by go_num, by rw [numsTo_succ]; exact MA9.out, by rw [hmin2.out, numsTo_succ]; exact MB9.out, P9.out, S9.out⟩
                            case measure => simp [intOf]; omega
                          · have e5 : decide (i < T1) = false := by simpa using hit
                            have e6 : decide ((i : Int) < (T1 : Int)) = false := by simp; omega
                            have hmin : min i T1 = T1 := by omega
                            rw [hmin] at MB ⊢
                            have hmin2 : Hid (min (i + 1) T1 = T1) := Lib.hid (by omega)
                            have Hi60 : Hid (i ≤ 1000000) := Lib.hid (by omega)
                            clear hmin
                            go_wp2_with (at_builtin; refine wpList_push_m 0 rfl (.tmp 133) (.tmp 135) rfl wr τ P.out.fits _ (numsTo i) (i : Int) rfl MA.out rfl i (numsTo_length i) Hi60.out ?_; intro sa' ca' w8 τ8 k1 k2 k3; have MA8 := Lib.hid k1; have MB8 := Lib.hid (MB.out.step k2 (isK_other (by decide))); have P8 := Lib.hid (P.out.step k2 (isK_mine 0) k3); have S8 := Lib.hid (S.out.trans k2.all); have X8 := Lib.hid (X2.out.later S8.out.bare); clear k1 k2 k3 q0 q1 q2 q3 q4 q5; obtain ⟨q0, q1, q2, q3, q4, q5⟩ := X8.out.cells)
                            go_roundw
                            case rel => exact ⟨i + 1, τ8, by omega, by go_num, by rw [numsTo_succ]; exact MA8.out, by rw [hmin2.out]; exact MB8.out, P8.out, S8.out⟩
                            case measure => simp [intOf]; omega
                        · obtain rfl : i = m := by omega
                          have e1 : decide (i < i) = false := by simp
                          have e2 : decide ((i : Int) < (i : Int)) = false := by simp
                          have hmin : min i T1 = T1 := by omega
                          rw [hmin] at MB ⊢
                          clear hmin
                          go_wp2
                          go_loopw [14, 15, 17] (fun av bv iv wr => ∃ (i : Nat) (τ : Tags) (D : Doc Int) (A B : List Int) (PA PB : List Nat), i ≤ 20 ∧ iv = .int .i64 i ∧ Mr 0 τ wr av A ∧ Mr 1 τ wr bv B ∧ Pool I.kind wr τ g D ∧ D.rows = [some (A, PA), some (B, PB)] ∧ A.length ≤ 60 + i ∧ B.length ≤ 60 + i ∧ Step (fun _ => true) bare τ w2 wr) (fun _ _ iv _ => 20 - (intOf iv).toNat)
                          case atStart => exact ⟨0, τ, D6, _, _, _, _, by omega, rfl, MA.out, MB.out, P.out, HR6.out, by rw [numsTo_length]; omega, by rw [numsTo_length]; omega, S.out⟩
                          case round =>
                            clear MA MB P S X q0 q1 q2 q3 q4 q5
                            obtain ⟨i, τ, D, A, B, PA, PB, hi, rfl, k1, k2, k3, k4, k5, k6, k7⟩ := hrel
                            obtain ⟨sa, ca, rfl, _⟩ := k1.slice
                            obtain ⟨sb, cb, rfl, _⟩ := k2.slice
                            have MA := Lib.hid k1
                            have MB := Lib.hid k2
                            have P := Lib.hid k3
                            have R := Lib.hid k4
                            have S := Lib.hid k7
                            have X := Lib.hid (X2.out.later k7.bare)
                            obtain ⟨la, hla⟩ : ∃ la, A.length = la := ⟨_, rfl⟩
                            obtain ⟨lb, hlb⟩ : ∃ lb, B.length = lb := ⟨_, rfl⟩
                            rw [hla] at MA k5 ⊢
                            rw [hlb] at MB k6 ⊢
                            have HA0 := Lib.hid hla
                            have HB0 := Lib.hid hlb
                            have HiA := Lib.hid k5
                            have HiB := Lib.hid k6
                            have HlA : Hid (la ≤ 1000000) := Lib.hid (by omega)
                            have HlB : Hid (lb ≤ 1000000) := Lib.hid (by omega)
                            clear k1 k2 k3 k4 k5 k6 k7 hla hlb
                            obtain ⟨q0, q1, q2, q3, q4, q5⟩ := X.out.cells
                            by_cases hlt : i < 20
                            · have e1 : decide (i < 20) = true := by simpa using hlt
                              have e2 : decide ((i : Int) < 20) = true := by simp; omega
                              by_cases hlA : i < N
                              · have e1A : decide (i < N) = true := by simpa using hlA
                                have e2A : decide ((i : Int) < (N : Int)) = true := by simp; omega
                                obtain ⟨dA, oA, hspA, hcellA⟩ := HL0.out.at_ i (by rw [HN.out]; exact hlA)
                                obtain ⟨yA, hyA⟩ : ∃ y, l0.getD i 0 = y := ⟨_, rfl⟩
                                rw [hyA] at hcellA
                                have hcwA := (X.out.below.cell (block_lt_of_cell hcellA)).trans hcellA
                                have HCwA := Lib.hid hcellA
                                subst hspA
                                clear hyA hcellA
                                have hAA := I.append_any P.out 0 yA
                                rcases two_step R.out yA with ⟨eeA, hneA, haA⟩ | ⟨DA, PAx, haA, hrA⟩
                                · rw [haA] at hAA
                                  have HAA := Lib.hid hAA
                                  have heeA : (eeA == 0) = false := by simpa using hneA
                                  clear hAA haA hneA
                                  go_wp2_with fail
                                  refine HAA.out.mono ?_
                                  rintro e w20 ⟨rfl, τ20, k1, k2⟩
                                  have P20 := Lib.hid k1
                                  have S20 := Lib.hid (S.out.trans k2.all)
                                  have MA20 := Lib.hid (MA.out.step k2 (isK_mine' 0))
                                  have MB20 := Lib.hid (MB.out.step k2 (isK_mine' 1))
                                  have X20 := Lib.hid (X2.out.later S20.out.bare)
                                  clear k1 k2 q0 q1 q2 q3 q4 q5 hcwA
                                  obtain ⟨q0, q1, q2, q3, q4, q5⟩ := X20.out.cells
                                  go_upto_region 32 with fail
                                  by_cases hlB : i < M
                                  · have e1B : decide (i < M) = true := by simpa using hlB
                                    have e2B : decide ((i : Int) < (M : Int)) = true := by simp; omega
                                    obtain ⟨dB, oB, hspB, hcellB⟩ := HL1.out.at_ i (by rw [HM.out]; exact hlB)
                                    obtain ⟨yB, hyB⟩ : ∃ y, l1.getD i 0 = y := ⟨_, rfl⟩
                                    rw [hyB] at hcellB
                                    have hcwB := (X20.out.below.cell (block_lt_of_cell hcellB)).trans hcellB
                                    have HCwB := Lib.hid hcellB
                                    subst hspB
                                    clear hyB hcellB
                                    have hAB := I.append_any P20.out 1 yB
                                    rcases two_step1 R.out yB with ⟨eeB, hneB, haB⟩ | ⟨DB, PBx, haB, hrB⟩
                                    · rw [haB] at hAB
                                      have HAB := Lib.hid hAB
                                      have heeB : (eeB == 0) = false := by simpa using hneB
                                      clear hAB haB hneB
                                      go_wp2_with fail
                                      refine HAB.out.mono ?_
                                      rintro e w25 ⟨rfl, τ25, k1, k2⟩
                                      have P25 := Lib.hid k1
                                      have S25 := Lib.hid (S20.out.trans k2.all)
                                      have MB25 := Lib.hid (MB20.out.step k2 (isK_mine' 1))
                                      have MA25 := Lib.hid (MA20.out.step k2 (isK_mine' 0))
                                      have X25 := Lib.hid (X2.out.later S25.out.bare)
                                      clear k1 k2 q0 q1 q2 q3 q4 q5 hcwB
                                      obtain ⟨q0, q1, q2, q3, q4, q5⟩ := X25.out.cells
                                      go_wp2
                                      go_roundw
                                      case rel => exact ⟨i + 1, τ25, _, _, _, _, _, by omega, by go_num, MA25.out, MB25.out, P25.out, R.out, by rw [HA0.out]; have := HiA.out; omega, by rw [HB0.out]; have := HiB.out; omega, S25.out⟩
                                      case measure => simp [intOf]; omega
                                    · rw [haB] at hAB
                                      have HAB := Lib.hid hAB
                                      have R25 := Lib.hid hrB
                                      clear hAB haB hrB
                                      go_wp2_with fail
                                      refine HAB.out.mono ?_
                                      rintro e w25 ⟨rfl, τ25, k1, k2⟩
                                      have P25 := Lib.hid k1
                                      have S25 := Lib.hid (S20.out.trans k2.all)
                                      have MB25 := Lib.hid (MB20.out.step k2 (isK_mine' 1))
                                      have MA25 := Lib.hid (MA20.out.step k2 (isK_mine' 0))
                                      have X25 := Lib.hid (X2.out.later S25.out.bare)
                                      clear k1 k2 q0 q1 q2 q3 q4 q5 hcwB
                                      obtain ⟨q0, q1, q2, q3, q4, q5⟩ := X25.out.cells
                                      have hcwB := (X25.out.below.cell (block_lt_of_cell HCwB.out)).trans HCwB.out
                                      go_upto_region 29 with (at_builtin; refine wpList_push_m 1 rfl (.tmp 187) (.tmp 193) rfl w25 τ25 P25.out.fits _ B yB rfl MB25.out rfl lb HB0.out HlB.out ?_; intro sxB cxB w26 τ26 k1 k2 k3; have MB26 := Lib.hid k1; have MA26 := Lib.hid (MA25.out.step k2 (isK_other (by decide))); have P26 := Lib.hid (P25.out.step k2 (isK_mine 1) k3); have S26 := Lib.hid (S25.out.trans k2.all); have X26 := Lib.hid (X2.out.later S26.out.bare); clear k1 k2 k3 q0 q1 q2 q3 q4 q5 hcwB; obtain ⟨q0, q1, q2, q3, q4, q5⟩ := X26.out.cells)
                                      go_wp2
                                      go_roundw
                                      case rel => exact ⟨i + 1, τ26, _, _, _, _, _, by omega, by go_num, MA26.out, MB26.out, P26.out, R25.out, by rw [HA0.out]; have := HiA.out; omega, by rw [List.length_append, HB0.out, List.length_singleton]; have := HiB.out; omega, S26.out⟩
                                      case measure => simp [intOf]; omega
                                  · have e1B : decide (i < M) = false := by simpa using hlB
                                    have e2B : decide ((i : Int) < (M : Int)) = false := by simp; omega
                                    go_wp2
                                    go_roundw
                                    case rel => exact ⟨i + 1, τ20, _, _, _, _, _, by omega, by go_num, MA20.out, MB20.out, P20.out, R.out, by rw [HA0.out]; have := HiA.out; omega, by rw [HB0.out]; have := HiB.out; omega, S20.out⟩
                                    case measure => simp [intOf]; omega
                                · rw [haA] at hAA
                                  have HAA := Lib.hid hAA
                                  have R20 := Lib.hid hrA
                                  clear hAA haA hrA
                                  go_wp2_with fail
                                  refine HAA.out.mono ?_
                                  rintro e w20 ⟨rfl, τ20, k1, k2⟩
                                  have P20 := Lib.hid k1
                                  have S20 := Lib.hid (S.out.trans k2.all)
                                  have MA20 := Lib.hid (MA.out.step k2 (isK_mine' 0))
                                  have MB20 := Lib.hid (MB.out.step k2 (isK_mine' 1))
                                  have X20 := Lib.hid (X2.out.later S20.out.bare)
                                  clear k1 k2 q0 q1 q2 q3 q4 q5 hcwA
                                  obtain ⟨q0, q1, q2, q3, q4, q5⟩ := X20.out.cells
                                  have hcwA := (X20.out.below.cell (block_lt_of_cell HCwA.out)).trans HCwA.out
                                  go_upto_region 32 with (at_builtin; refine wpList_push_m 0 rfl (.tmp 164) (.tmp 170) rfl w20 τ20 P20.out.fits _ A yA rfl MA20.out rfl la HA0.out HlA.out ?_; intro sxA cxA w21 τ21 k1 k2 k3; have MA21 := Lib.hid k1; have MB21 := Lib.hid (MB20.out.step k2 (isK_other (by decide))); have P21 := Lib.hid (P20.out.step k2 (isK_mine 0) k3); have S21 := Lib.hid (S20.out.trans k2.all); have X21 := Lib.hid (X2.out.later S21.out.bare); clear k1 k2 k3 q0 q1 q2 q3 q4 q5 hcwA; obtain ⟨q0, q1, q2, q3, q4, q5⟩ := X21.out.cells)
                                  by_cases hlB : i < M
                                  · have e1B : decide (i < M) = true := by simpa using hlB
                                    have e2B : decide ((i : Int) < (M : Int)) = true := by simp; omega
                                    obtain ⟨dB, oB, hspB, hcellB⟩ := HL1.out.at_ i (by rw [HM.out]; exact hlB)
                                    obtain ⟨yB, hyB⟩ : ∃ y, l1.getD i 0 = y := ⟨_, rfl⟩
                                    rw [hyB] at hcellB
                                    have hcwB := (X21.out.below.cell (block_lt_of_cell hcellB)).trans hcellB
                                    have HCwB := Lib.hid hcellB
                                    subst hspB
                                    clear hyB hcellB
                                    have hAB := I.append_any P21.out 1 yB
                                    rcases two_step1 R20.out yB with ⟨eeB, hneB, haB⟩ | ⟨DB, PBx, haB, hrB⟩
                                    · rw [haB] at hAB
                                      have HAB := Lib.hid hAB
                                      have heeB : (eeB == 0) = false := by simpa using hneB
                                      clear hAB haB hneB
                                      go_wp2_with fail
                                      refine HAB.out.mono ?_
                                      rintro e w25 ⟨rfl, τ25, k1, k2⟩
                                      have P25 := Lib.hid k1
                                      have S25 := Lib.hid (S21.out.trans k2.all)
                                      have MB25 := Lib.hid (MB21.out.step k2 (isK_mine' 1))
                                      have MA25 := Lib.hid (MA21.out.step k2 (isK_mine' 0))
                                      have X25 := Lib.hid (X2.out.later S25.out.bare)
                                      clear k1 k2 q0 q1 q2 q3 q4 q5 hcwB
                                      obtain ⟨q0, q1, q2, q3, q4, q5⟩ := X25.out.cells
                                      go_wp2
                                      go_roundw
                                      case rel => exact ⟨i + 1, τ25, _, _, _, _, _, by omega, by go_num, MA25.out, MB25.out, P25.out, R20.out, by rw [List.length_append, HA0.out, List.length_singleton]; have := HiA.out; omega, by rw [HB0.out]; have := HiB.out; omega, S25.out⟩
                                      case measure => simp [intOf]; omega
                                    · rw [haB] at hAB
                                      have HAB := Lib.hid hAB
                                      have R25 := Lib.hid hrB
                                      clear hAB haB hrB
                                      go_wp2_with fail
                                      refine HAB.out.mono ?_
                                      rintro e w25 ⟨rfl, τ25, k1, k2⟩
                                      have P25 := Lib.hid k1
                                      have S25 := Lib.hid (S21.out.trans k2.all)
                                      have MB25 := Lib.hid (MB21.out.step k2 (isK_mine' 1))
                                      have MA25 := Lib.hid (MA21.out.step k2 (isK_mine' 0))
                                      have X25 := Lib.hid (X2.out.later S25.out.bare)
                                      clear k1 k2 q0 q1 q2 q3 q4 q5 hcwB
                                      obtain ⟨q0, q1, q2, q3, q4, q5⟩ := X25.out.cells
                                      have hcwB := (X25.out.below.cell (block_lt_of_cell HCwB.out)).trans HCwB.out
                                      go_upto_region 29 with (at_builtin; refine wpList_push_m 1 rfl (.tmp 187) (.tmp 193) rfl w25 τ25 P25.out.fits _ B yB rfl MB25.out rfl lb HB0.out HlB.out ?_; intro sxB cxB w26 τ26 k1 k2 k3; have MB26 := Lib.hid k1; have MA26 := Lib.hid (MA25.out.step k2 (isK_other (by decide))); have P26 := Lib.hid (P25.out.step k2 (isK_mine 1) k3); have S26 := Lib.hid (S25.out.trans k2.all); have X26 := Lib.hid (X2.out.later S26.out.bare); clear k1 k2 k3 q0 q1 q2 q3 q4 q5 hcwB; obtain ⟨q0, q1, q2, q3, q4, q5⟩ := X26.out.cells)
                                      go_wp2
                                      go_roundw
                                      case rel => exact ⟨i + 1, τ26, _, _, _, _, _, by omega, by go_num, MA26.out, MB26.out, P26.out, R25.out, by rw [List.length_append, HA0.out, List.length_singleton]; have := HiA.out; omega, by rw [List.length_append, HB0.out, List.length_singleton]; have := HiB.out; omega, S26.out⟩
                                      case measure => simp [intOf]; omega
                                  · have e1B : decide (i < M) = false := by simpa using hlB
                                    have e2B : decide ((i : Int) < (M : Int)) = false := by simp; omega
                                    go_wp2
                                    go_roundw
                                    case rel => exact ⟨i + 1, τ21, _, _, _, _, _, by omega, by go_num, MA21.out, MB21.out, P21.out, R20.out, by rw [List.length_append, HA0.out, List.length_singleton]; have := HiA.out; omega, by rw [HB0.out]; have := HiB.out; omega, S21.out⟩
                                    case measure => simp [intOf]; omega
                              · have e1A : decide (i < N) = false := by simpa using hlA
                                have e2A : decide ((i : Int) < (N : Int)) = false := by simp; omega
                                go_upto_region 32 with fail
                                by_cases hlB : i < M
                                · have e1B : decide (i < M) = true := by simpa using hlB
                                  have e2B : decide ((i : Int) < (M : Int)) = true := by simp; omega
                                  obtain ⟨dB, oB, hspB, hcellB⟩ := HL1.out.at_ i (by rw [HM.out]; exact hlB)
                                  obtain ⟨yB, hyB⟩ : ∃ y, l1.getD i 0 = y := ⟨_, rfl⟩
                                  rw [hyB] at hcellB
                                  have hcwB := (X.out.below.cell (block_lt_of_cell hcellB)).trans hcellB
                                  have HCwB := Lib.hid hcellB
                                  subst hspB
                                  clear hyB hcellB
                                  have hAB := I.append_any P.out 1 yB
                                  rcases two_step1 R.out yB with ⟨eeB, hneB, haB⟩ | ⟨DB, PBx, haB, hrB⟩
                                  · rw [haB] at hAB
                                    have HAB := Lib.hid hAB
                                    have heeB : (eeB == 0) = false := by simpa using hneB
                                    clear hAB haB hneB
                                    go_wp2_with fail
                                    refine HAB.out.mono ?_
                                    rintro e w25 ⟨rfl, τ25, k1, k2⟩
                                    have P25 := Lib.hid k1
                                    have S25 := Lib.hid (S.out.trans k2.all)
                                    have MB25 := Lib.hid (MB.out.step k2 (isK_mine' 1))
                                    have MA25 := Lib.hid (MA.out.step k2 (isK_mine' 0))
                                    have X25 := Lib.hid (X2.out.later S25.out.bare)
                                    clear k1 k2 q0 q1 q2 q3 q4 q5 hcwB
                                    obtain ⟨q0, q1, q2, q3, q4, q5⟩ := X25.out.cells
                                    go_wp2
                                    go_roundw
                                    case rel => exact ⟨i + 1, τ25, _, _, _, _, _, by omega, by go_num, MA25.out, MB25.out, P25.out, R.out, by rw [HA0.out]; have := HiA.out; omega, by rw [HB0.out]; have := HiB.out; omega, S25.out⟩
                                    case measure => simp [intOf]; omega
                                  · rw [haB] at hAB
                                    have HAB := Lib.hid hAB
                                    have R25 := Lib.hid hrB
                                    clear hAB haB hrB
                                    go_wp2_with fail
                                    refine HAB.out.mono ?_
                                    rintro e w25 ⟨rfl, τ25, k1, k2⟩
                                    have P25 := Lib.hid k1
                                    have S25 := Lib.hid (S.out.trans k2.all)
                                    have MB25 := Lib.hid (MB.out.step k2 (isK_mine' 1))
                                    have MA25 := Lib.hid (MA.out.step k2 (isK_mine' 0))
                                    have X25 := Lib.hid (X2.out.later S25.out.bare)
                                    clear k1 k2 q0 q1 q2 q3 q4 q5 hcwB
                                    obtain ⟨q0, q1, q2, q3, q4, q5⟩ := X25.out.cells
                                    have hcwB := (X25.out.below.cell (block_lt_of_cell HCwB.out)).trans HCwB.out
                                    go_upto_region 29 with (at_builtin; refine wpList_push_m 1 rfl (.tmp 187) (.tmp 193) rfl w25 τ25 P25.out.fits _ B yB rfl MB25.out rfl lb HB0.out HlB.out ?_; intro sxB cxB w26 τ26 k1 k2 k3; have MB26 := Lib.hid k1; have MA26 := Lib.hid (MA25.out.step k2 (isK_other (by decide))); have P26 := Lib.hid (P25.out.step k2 (isK_mine 1) k3); have S26 := Lib.hid (S25.out.trans k2.all); have X26 := Lib.hid (X2.out.later S26.out.bare); clear k1 k2 k3 q0 q1 q2 q3 q4 q5 hcwB; obtain ⟨q0, q1, q2, q3, q4, q5⟩ := X26.out.cells)
                                    go_wp2
                                    go_roundw
                                    case rel => exact ⟨i + 1, τ26, _, _, _, _, _, by omega, by go_num, MA26.out, MB26.out, P26.out, R25.out, by rw [HA0.out]; have := HiA.out; omega, by rw [List.length_append, HB0.out, List.length_singleton]; have := HiB.out; omega, S26.out⟩
                                    case measure => simp [intOf]; omega
                                · have e1B : decide (i < M) = false := by simpa using hlB
                                  have e2B : decide ((i : Int) < (M : Int)) = false := by simp; omega
                                  go_wp2
                                  go_roundw
                                  case rel => exact ⟨i + 1, τ, _, _, _, _, _, by omega, by go_num, MA.out, MB.out, P.out, R.out, by rw [HA0.out]; have := HiA.out; omega, by rw [HB0.out]; have := HiB.out; omega, S.out⟩
                                  case measure => simp [intOf]; omega
                            · obtain rfl : i = 20 := by omega
                              have hr0 : (rowAt D 0).elim [] (·.1) = A := by
                                have h9 := rowAt_nat D 0
                                rw [R.out] at h9
                                rw [show rowAt D 0 = some (A, PA) from h9]; rfl
                              have hr1 : (rowAt D 1).elim [] (·.1) = B := by
                                have h9 := rowAt_nat D 1
                                rw [R.out] at h9
                                rw [show rowAt D 1 = some (B, PB) from h9]; rfl
                              have hl0 : A.length ≤ 2000 := by rw [HA0.out]; have := HiA.out; omega
                              have hl1 : B.length ≤ 2000 := by rw [HB0.out]; have := HiB.out; omega
                              have HR1 := Lib.hid hr1
                              have HB2 := Lib.hid hl1
                              have HW0 := Lib.hid (lawRow P.out 0 A hr0 hl0)
                              clear hr0 hr1 hl0 hl1
                              go_wp2_with fail
                              refine HW0.out.mono ?_
                              rintro e w30 ⟨sx, cx, bx, rfl, k1, _, k2⟩
                              have N0 := Lib.hid (Row.nums k1).1
                              have P30 := Lib.hid (P.out.below k2)
                              have MA30 := Lib.hid (MA.out.below k2)
                              have MB30 := Lib.hid (MB.out.below k2)
                              have X30 := Lib.hid (X.out.later k2)
                              clear k1 k2 HW0 q0 q1 q2 q3 q4 q5
                              rw [HA0.out]
                              have HW1 := Lib.hid (lawRow P30.out 1 B HR1.out HB2.out)
                              go_wp2_with fail
                              refine HW1.out.mono ?_
                              rintro e w31 ⟨sy, cy, by_, rfl, k1, _, k2⟩
                              have N1 := Lib.hid (Row.nums k1).1
                              have N0' := Lib.hid (N0.out.below k2)
                              have MA31 := Lib.hid (MA30.out.below k2)
                              have MB31 := Lib.hid (MB30.out.below k2)
                              have X31 := Lib.hid (X30.out.later k2)
                              clear k1 k2 HW1
                              rw [HB0.out]
                              obtain ⟨sp', cp', hv, hn⟩ := MA31.out.slice
                              rw [HA0.out] at hv
                              injection hv with e1 e2 e3
                              subst e1
                              subst e3
                              clear e2
                              obtain ⟨sp'', cp'', hv, hn'⟩ := MB31.out.slice
                              rw [HB0.out] at hv
                              injection hv with e1 e2 e3
                              subst e1
                              subst e3
                              clear e2
                              have NA := Lib.hid hn
                              have NB := Lib.hid hn'
                              clear hn hn'
                              go_wp2_with fail
                              refine (ints_same w31 _ _ _ _ la A HA0.out N0'.out NA.out).mono ?_
                              rintro e w32 ⟨rfl, m1, rfl⟩
                              have hd1 := set_drewN w31 m1
                              have N1' := Lib.hid (N1.out.below hd1)
                              have NB' := Lib.hid (NB.out.below hd1)
                              have X32 := Lib.hid (X31.out.later hd1)
                              clear hd1
                              go_wp2_with fail
                              refine (ints_same (w31.drewN m1) _ _ _ _ lb B HB0.out N1'.out NB'.out).mono ?_
                              rintro e w33 ⟨rfl, m2, rfl⟩
                              have X33 := Lib.hid (X31.out.later (set_drewN w31 (m1 + m2)))
                              go_wp2_with fail
                              refine (awake_any _).mono ?_
                              rintro e w34 ⟨rfl, k1⟩
                              have X34 := Lib.hid (X33.out.later k1)
                              clear k1
                              go_wp2
                              go_ret
                              exact ⟨rfl, X34.out.below⟩
  · have HRt : Hid (rightB x y = false) := Lib.hid (by simpa using hr)
    clear hr
    go_enter Try.func6, Try.ntmps6
    go_upto_region 1 with fail
    refine I.gen_w (Q := fun w => Code.wp _ _ _ _ w) _ (fun W => Bx w x y t0 t1 (.slice sp N cp) (.slice sq M cq) W) HBx.out ?_
    clear HBx
    rintro w1 k1
    have X1 := Lib.hid k1
    have hld := load_two k1.b0
    obtain ⟨q0, q1, q2, q3, q4, q5⟩ := k1.cells
    clear k1
    go_wp2_with fail
    refine (right_any w1 x y).mono ?_
    rintro e w2 ⟨rfl, k2⟩
    have X2 := Lib.hid (X1.out.later k2)
    clear k2 hld q0 q1 q2 q3 q4 q5 X1
    obtain ⟨q0, q1, q2, q3, q4, q5⟩ := X2.out.cells
    rw [HRt.out]
    go_wp2_with fail
    refine (awake_any _).mono ?_
    rintro e w3 ⟨rfl, k3⟩
    have X3 := Lib.hid (X2.out.later k3)
    clear k3
    go_wp2
    go_ret
    exact ⟨rfl, X3.out.below⟩
end Go.Proofs.Ytacokklgmhmdeaa.Kv
