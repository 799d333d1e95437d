/- Pools of rows in pages: the walk of KvApart. -/
import Derived.Test.YtacokklgmhmdeaaLg
import Derived.Test.YtacokklgmhmdeaaGw
namespace Go.Proofs.Ytacokklgmhmdeaa.Kv
set_option maxRecDepth 100000
open Go.ChangeShapes Go.WideShapes Go.ChangeAt Go.RowKit Go.Proofs.Ytacokklgmhmdeaa.Tn
/-- what the law's boxes hold -/
structure Ax (w : World) (x y oa oi om : Int) (W : World) : Prop where
  below : Below w.heap.size w W
  b0 : W.heap[w.heap.size]? = some (.cells #[.int .i64 x, .int .i64 y] 22 (0, 0))
  b1 : W.heap[w.heap.size + 1]? = some (.cells #[.int .i64 oa, .int .i64 oi, .int .i64 om] 35 (0, 0))
theorem Ax.later {w W W' : World} {x y oa oi om : Int} (h : Ax w x y oa oi om W) (hb : Below W.heap.size W W') : Ax w x y oa oi om W' :=
  ⟨h.below.trans (hb.mono h.below.size), (hb.block _ (Array.getElem?_eq_some_iff.1 h.b0).1).trans h.b0, (hb.block _ (Array.getElem?_eq_some_iff.1 h.b1).1).trans h.b1⟩
theorem Ax.cells {w W : World} {x y oa oi om : Int} (h : Ax w x y oa oi om W) : W.cell? ⟨w.heap.size, 0, none⟩ = some (.int .i64 x) ∧ W.cell? ⟨w.heap.size, 1, none⟩ = some (.int .i64 y) ∧ W.cell? ⟨w.heap.size + 1, 1, none⟩ = some (.int .i64 oi) ∧ W.cell? ⟨w.heap.size + 1, 2, none⟩ = some (.int .i64 om) := by
  refine ⟨?_, ?_, ?_, ?_⟩
  · rw [cell_of_row _ _ _ _ _ _ h.b0]; rfl
  · rw [cell_of_row _ _ _ _ _ _ h.b0]; rfl
  · rw [cell_of_row _ _ _ _ _ _ h.b1]; rfl
  · rw [cell_of_row _ _ _ _ _ _ h.b1]; rfl
theorem Ax.new (w : World) (x y oa oi om : Int) : Ax w x y oa oi om ((w.alloc (.cells #[.int .i64 x, .int .i64 y] 22)).alloc (.cells #[.int .i64 oa, .int .i64 oi, .int .i64 om] 35)) := by
  obtain ⟨O1, hO1⟩ : ∃ O, (Obj.cells #[.int .i64 x, .int .i64 y] 22 (0, 0)) = O := ⟨_, rfl⟩
  obtain ⟨O2, hO2⟩ : ∃ O, (Obj.cells #[.int .i64 oa, .int .i64 oi, .int .i64 om] 35 (0, 0)) = O := ⟨_, rfl⟩
  rw [hO1, hO2]
  have s1 : (w.alloc O1).heap.size = w.heap.size + 1 := by simp
  refine ⟨((Below.refl _ _).alloc (Nat.le_refl _) _).alloc (by simp) _, ?_, ?_⟩
  · rw [alloc_old _ _ _ (by omega), hO1]; exact alloc_new _ _
  · rw [hO2, ← s1]; exact alloc_new _ _
set_option maxHeartbeats 8000000 in
theorem apart_walk (w : World) (x y : Int) (sp : Option Addr) (cp : Nat) (os : List OpV) (ho : Ops w sp os) (oa oi om : Int) :
    Calls Try.prog 4 #[.agg #[.int .i64 x, .int .i64 y], .slice sp os.length cp, .agg #[.int .i64 oa, .int .i64 oi, .int .i64 om]] w fun e w' => e = .returned (.bool true) ∧ Below w.heap.size w w' := by
  obtain ⟨N, hN⟩ : ∃ N, os.length = N := ⟨_, rfl⟩
  have hNm : N ≤ 9223372036854775807 := by have := ho.len; unfold maxLen at this; omega
  have HBx := Lib.hid (Ax.new w x y oa oi om)
  have HOs := Lib.hid ho
  have HN := Lib.hid hN
  rw [hN]
  clear ho hN
  by_cases hr : rightB x y = true
  · have HRt := Lib.hid hr
    clear hr
    by_cases h1 : 50 < N
    · have d1 : decide (50 < N) = true := by simpa using h1
      have d1i : decide ((50 : Int) < (N : Int)) = true := by simp; omega
      clear h1
      go_enter Try.func4, Try.ntmps4
      go_upto_region 1 with fail
      refine I.gen_w (Q := fun w => Code.wp _ _ _ _ w) _ (fun W => Ax w x y oa oi om W) HBx.out ?_
      clear HBx
      rintro w1 k1
      have X1 := Lib.hid k1
      obtain ⟨q0, q1, q2, q3⟩ := k1.cells
      clear k1
      go_wp2_with fail
      refine (right_any w1 x y).mono ?_
      rintro e w2 ⟨rfl, k2⟩
      have X2 := Lib.hid (X1.out.later k2)
      clear k2 X1 q0 q1 q2 q3
      rw [HRt.out]
      go_wp2_with fail
      refine (awake_any _).mono ?_
      rintro e w3 ⟨rfl, k3⟩
      have X3 := Lib.hid (X2.out.later k3)
      clear k3
      go_wp2
      go_ret
      exact ⟨rfl, X3.out.below⟩
    · have d1 : decide (50 < N) = false := by simpa using h1
      have d1i : decide ((50 : Int) < (N : Int)) = false := by simp; omega
      have hN50 : N ≤ 50 := by omega
      obtain ⟨n, s, hxn, hys, hn1, hn2, hs1, hs2⟩ : ∃ n s : Nat, x = n ∧ y = s ∧ 1 ≤ n ∧ n ≤ 12 ∧ 1 ≤ s ∧ s ≤ 8 := by
        have hr := HRt.out
        unfold rightB at hr
        simp at hr
        exact ⟨x.toNat, y.toNat, by omega, by omega, by omega, by omega, by omega, by omega⟩
      have HXn := Lib.hid hxn
      have HYs := Lib.hid hys
      clear hxn hys h1
      go_enter Try.func4, Try.ntmps4
      go_upto_region 1 with fail
      refine I.gen_w (Q := fun w => Code.wp _ _ _ _ w) _ (fun W => Ax w x y oa oi om W) HBx.out ?_
      clear HBx
      rintro w1 k1
      have X1 := Lib.hid k1
      obtain ⟨q0, q1, q2, q3⟩ := k1.cells
      clear k1
      go_wp2_with fail
      refine (right_any w1 x y).mono ?_
      rintro e w2 ⟨rfl, k2⟩
      have X2 := Lib.hid (X1.out.later k2)
      clear k2 X1 q0 q1 q2 q3
      rw [HRt.out]
      have hNw := I.new_any w2 bare (bare_fits w2) n s hn1 (by omega) hs1 (by omega)
      rw [← HXn.out, ← HYs.out] at hNw
      have HNw := Lib.hid hNw
      clear hNw
      obtain ⟨q0, q1, q2, q3⟩ := X2.out.cells
      go_wp2_with fail
      refine HNw.out.mono ?_
      rintro e w3 ⟨g, τ3, rfl, k3, k4⟩
      have P3 : Hid (Pool I.kind w3 τ3 g (⟨s, n, []⟩ : Doc Int)) := Lib.hid k3
      have S3 := Lib.hid k4.all
      clear k3 k4 HNw q0 q1 q2 q3
      go_wp2
      go_loopw [9] (fun iv wr => ∃ (i : Nat) (D : Doc Int) (τ : Tags), i ≤ N ∧ iv = .int .i64 i ∧ Pool I.kind wr τ g D ∧ D.size = s ∧ D.pages = n ∧ D.rows.length ≤ i ∧ Step (fun _ => true) bare τ w2 wr) (fun iv _ => N - (intOf iv).toNat)
      case atStart => exact ⟨0, _, τ3, by omega, rfl, P3.out, rfl, rfl, Nat.le_refl _, S3.out⟩
      case round =>
        clear P3 S3
        obtain ⟨i, D, τ, hi, rfl, k1, k2, k3, k4, k5⟩ := hrel
        have P := Lib.hid k1
        have Ds := Lib.hid k2
        have Dp := Lib.hid k3
        have Dl := Lib.hid k4
        have S := Lib.hid k5
        have X := Lib.hid (X2.out.later k5.bare)
        clear k1 k2 k3 k4 k5
        obtain ⟨q0, q1, q2, q3⟩ := X.out.cells
        by_cases hlt : i < N
        · have e1 : decide (i < N) = true := by simpa using hlt
          have e2 : decide ((i : Int) < (N : Int)) = true := by simp; omega
          obtain ⟨c, o, hsp, hrg⟩ := HOs.out.range i (by rw [HN.out]; exact hlt)
          obtain ⟨op, hop⟩ : ∃ op, os[i]'(by rw [HN.out]; exact hlt) = op := ⟨_, rfl⟩
          rw [hop] at hrg
          obtain ⟨u0, u1, u2⟩ := op_cells (rangeAt_below hrg X.out.below)
          have HRg := Lib.hid hrg
          subst hsp
          clear hop hrg
          have b1 : (0 : Int) ≤ (i : Int) := by omega
          have b2 : (i : Int) < (N : Int) := by omega
          obtain ⟨τb, hPb, hSb, hTb, hFb⟩ := fresh_box P.out x y
          have hdr : Below (wr.alloc (.cells #[.slice none 0 0, .int .i64 x, .int .i64 y] 32)).heap.size (wr.alloc (.cells #[.slice none 0 0, .int .i64 x, .int .i64 y] 32)) (wr.alloc (.cells #[.slice none 0 0, .int .i64 x, .int .i64 y] 32)).drew := ⟨rfl, rfl, rfl, Nat.le_refl _, fun _ _ => rfl⟩
          have HDo := Lib.hid (does_fresh (w := (wr.alloc (.cells #[.slice none 0 0, .int .i64 x, .int .i64 y] 32)).drew) (hPb.below hdr) hFb hTb op.ask op.id op.n)
          have HSb := Lib.hid ((S.out.trans hSb).trans (Step.below (M := fun _ => true) (τ := τb) hdr))
          clear hPb hSb hTb hFb hdr
          go_upto_region 9 with fail
          go_region_held3 (fun W => W.cell? ⟨w.heap.size, 0, none⟩ = some (.int .i64 x) ∧ W.cell? ⟨w.heap.size, 1, none⟩ = some (.int .i64 y) ∧ W.cell? ⟨c, o + i * 3, none⟩ = some (.int .i64 op.ask) ∧ W.cell? ⟨c, o + i * 3 + 1, none⟩ = some (.int .i64 op.id) ∧ W.cell? ⟨c, o + i * 3 + 2, none⟩ = some (.int .i64 op.n)) (first | go_keep | exact HK.out)
            ((go_at_call 10; refine HDo.out.mono ?_; rintro e w5 ⟨b, τ5, rfl, k1, k2⟩; have P5 := Lib.hid k1; have S5 := Lib.hid (HSb.out.trans k2.all); have X5 := Lib.hid (X2.out.later S5.out.bare); have HK := Lib.hid (And.intro X5.out.cells.1 (And.intro X5.out.cells.2.1 (op_cells (rangeAt_below HRg.out X5.out.below)))); clear k1 k2))
          clear q0 q1 q2 q3 u0 u1 u2 HDo HSb HK b1 b2
          have hsh := opD_shape D op.ask op.id op.n
          rw [Ds.out, Dp.out] at hsh
          have HSh := Lib.hid hsh
          clear hsh
          go_wp2
          go_roundw
          case rel => exact ⟨i + 1, _, τ5, by omega, by go_num, P5.out, HSh.out.1, HSh.out.2.1, by have := HSh.out.2.2; have := Dl.out; omega, S5.out⟩
          case measure => simp [intOf]; omega
        · obtain rfl : i = N := by omega
          have e1 : decide (i < i) = false := by simp
          have e2 : decide ((i : Int) < (i : Int)) = false := by simp
          clear q0 q1 q2 q3
          have hDl50 : D.rows.length ≤ 50 := by have := Dl.out; omega
          have HDl := Lib.hid hDl50
          have hns : n * s ≤ 96 := Nat.le_trans (Nat.mul_le_mul hn2 hs2) (by decide)
          have Hns := Lib.hid hns
          clear hDl50 hns
          go_wp2
          go_loopw [10, 11] (fun av iv wr => ∃ (i : Nat) (τ : Tags) (V : List Value), i ≤ 60 ∧ iv = .int .i64 i ∧ V.length = i ∧ Mv 0 τ wr av V ∧ Was D τ wr V 0 ∧ Pool I.kind wr τ g D ∧ Step (fun _ => true) bare τ w2 wr) (fun _ iv _ => 60 - (intOf iv).toNat)
          case atStart => exact ⟨0, τ, [], by omega, rfl, rfl, Mv.nil _ _ _, fun j v _ h => by simp at h, P.out, S.out⟩
          case round =>
            clear P S X
            obtain ⟨i, τ, V, hi, rfl, k0, k1, k2, k3, k4⟩ := hrel
            obtain ⟨sv, cv, rfl, _⟩ := k1.slice
            rw [k0] at k1 ⊢
            have HV := Lib.hid k0
            have MV := Lib.hid k1
            have WV := Lib.hid k2
            have P := Lib.hid k3
            have S := Lib.hid k4
            clear k0 k1 k2 k3 k4
            by_cases hlt : i < 60
            · have e3 : decide (i < 60) = true := by simpa using hlt
              have e4 : decide ((i : Int) < 60) = true := by simp; omega
              obtain ⟨L, hL⟩ : ∃ L, thingsD D (i : Int) = L := ⟨_, rfl⟩
              obtain ⟨nl, hnl⟩ : ∃ nl, L.length = nl := ⟨_, rfl⟩
              have hnl96 : nl ≤ 96 := by
                have h9 := (P.out.short Ds.out Dp.out (i : Int)).1
                rw [hL, hnl] at h9
                exact Nat.le_trans h9 Hns.out
              have HW := Lib.hid (lawRow P.out (i : Int) L hL (by omega))
              have HLe := Lib.hid hL
              have HNl := Lib.hid hnl
              have Hi60 : Hid (i ≤ 1000000) := Lib.hid (by omega)
              clear hL hnl
              go_wp2_with fail
              refine HW.out.mono ?_
              rintro e w9 ⟨sx, cx, bx, rfl, k1, k2, k3⟩
              rw [HNl.out] at k1 ⊢
              obtain ⟨τ9, m1, m2, m3⟩ := Mr.new (k := 2 + i) (xs := L) P.out.fits k3 k1 k2
              have M9 := Lib.hid m1
              have P9 := Lib.hid (P.out.step m2 (isK_mine _) m3)
              have S9 := Lib.hid (S.out.trans m2.all)
              have V9 := Lib.hid (MV.out.step m2 (isK_other (by omega)))
              have A9 := Lib.hid (WV.out.step m2 (fun j _ hj => isK_other (by have := HV.out; omega)))
              clear k1 k2 k3 m1 m2 m3 HW
              go_wp2_with (at_builtin; refine wpList_push_v 0 rfl (.tmp 76) (.tmp 78) rfl w9 τ9 P9.out.fits _ V (.slice sx nl cx) rfl V9.out rfl rfl i HV.out Hi60.out ?_; intro sv' cv' w10 τ10 k1 k2 k3; have V10 := Lib.hid k1; have P10 := Lib.hid (P9.out.step k2 (isK_mine 0) k3); have S10 := Lib.hid (S9.out.trans k2.all); have A10 := Lib.hid (Was.snoc (A9.out.step k2 (fun j _ _ => isK_other (by omega))) HV.out (by rw [HLe.out]; exact M9.out.step k2 (isK_other (by omega)))); clear k1 k2 k3)
              go_roundw
              case rel => exact ⟨i + 1, τ10, V ++ [.slice sx nl cx], by omega, by go_num, by rw [List.length_append, HV.out]; rfl, V10.out, A10.out, P10.out, S10.out⟩
              case measure => simp [intOf]; omega
            · obtain rfl : i = 60 := by omega
              have X := Lib.hid (X2.out.later S.out.bare)
              obtain ⟨q0, q1, q2, q3⟩ := X.out.cells
              have HPl : Hid (∀ id : Int, (thingsD D id).length ≤ n * s) := Lib.hid (fun id => (P.out.short Ds.out Dp.out id).1)
              have hA := I.append_any P.out oi om
              have hsh := appendD_shape D oi om
              have hT := things_append D oi om
              rw [Ds.out, Dp.out] at hsh
              obtain ⟨ec, hec⟩ : ∃ ec, (appendD D oi om).1 = ec := ⟨_, rfl⟩
              obtain ⟨D', hD'⟩ : ∃ D', (appendD D oi om).2 = D' := ⟨_, rfl⟩
              rw [hD'] at hA hsh hT
              rw [hec] at hA hT
              have HA := Lib.hid hA
              have Ds' := Lib.hid hsh.1
              have Dp' := Lib.hid hsh.2.1
              have Dl' : Hid (D'.rows.length ≤ 50) := Lib.hid (by rw [hsh.2.2]; exact HDl.out)
              have HT := Lib.hid hT
              clear hA hsh hT hec hD'
              go_wp2_with fail
              refine HA.out.mono ?_
              rintro e w4 ⟨rfl, τ4, k1, k2⟩
              have P4 := Lib.hid k1
              have S4 := Lib.hid (S.out.trans k2.all)
              have V4 := Lib.hid (MV.out.step k2 (isK_mine' 0))
              have A4 := Lib.hid (WV.out.step k2 (fun j _ _ => isK_mine' _))
              clear k1 k2 q0 q1 q2 q3 HA
              go_wp2
              go_loopw [15, 16] (fun hv iv wr => ∃ (i h : Nat) (τ : Tags), i ≤ 60 ∧ iv = .int .i64 i ∧ hv = .int .i64 h ∧ heldN D' i = h ∧ Mv 0 τ wr (.slice sv 60 cv) V ∧ Was D τ wr V i ∧ Pool I.kind wr τ g D' ∧ Step (fun _ => true) bare τ w2 wr) (fun _ iv _ => 60 - (intOf iv).toNat)
              case atStart => exact ⟨0, 0, τ4, by omega, rfl, rfl, rfl, V4.out, A4.out, P4.out, S4.out⟩
              case round =>
                clear MV WV P S X P4 S4 V4 A4
                obtain ⟨i, h, τ, hi, rfl, rfl, k0, k1, k2, k3, k4⟩ := hrel
                have hh : h ≤ 720 := by
                  have h9 := heldN_le (fun k => by have := (k3.short Ds'.out Dp'.out (k : Int)).2; exact Nat.le_trans this hn2) (D := D') i
                  rw [k0] at h9
                  omega
                have HH := Lib.hid k0
                have MV := Lib.hid k1
                have WV := Lib.hid k2
                have P := Lib.hid k3
                have S := Lib.hid k4
                have X := Lib.hid (X2.out.later k4.bare)
                clear k0 k1 k2 k3 k4
                obtain ⟨q0, q1, q2, q3⟩ := X.out.cells
                by_cases hlt : i < 60
                · have e3 : decide (i < 60) = true := by simpa using hlt
                  have e4 : decide ((i : Int) < 60) = true := by simp; omega
                  have ltc : (0 : Int) ≤ (i : Int) := by omega
                  have ltd : (i : Int) < 60 := by omega
                  obtain ⟨L, hL⟩ : ∃ L, thingsD D (i : Int) = L := ⟨_, rfl⟩
                  obtain ⟨nl, hnl⟩ : ∃ nl, L.length = nl := ⟨_, rfl⟩
                  obtain ⟨pl, hpg⟩ : ∃ pl, ((rowAt D' (i : Int)).elim [] (·.2)).length = pl := ⟨_, rfl⟩
                  have hnl96 : nl ≤ 96 := by
                    have h9 := (HPl.out (i : Int))
                    rw [hL, hnl] at h9
                    exact Nat.le_trans h9 Hns.out
                  have hpl12 : pl ≤ 12 := by
                    have h9 := (P.out.short Ds'.out Dp'.out (i : Int)).2
                    rw [hpg] at h9
                    omega
                  have HS9 : Hid (heldN D' (i + 1) = h + pl) := Lib.hid (by show heldN D' i + _ = _; rw [HH.out, hpg])
                  have HLe := Lib.hid hL
                  have HNl := Lib.hid hnl
                  have Hnl9 : Hid (nl ≤ 1000000) := Lib.hid (by omega)
                  clear hL hnl
                  by_cases hb : (i : Int) = oi ∧ ec = 0
                  · have HB := Lib.hid hb
                    have hbe : ((i : Int) == oi) = true := by simpa using hb.1
                    have hee : (ec == 0) = true := by simpa using hb.2
                    have HL9 : Hid (thingsD D' (i : Int) = L ++ [om]) := Lib.hid (by rw [HT.out, if_pos hb, HLe.out])
                    clear hb
                    have HN9 : Hid ((L ++ [om]).length = nl + 1) := Lib.hid (by rw [List.length_append, HNl.out]; rfl)
                    have HW := Lib.hid (lawRow P.out (i : Int) (L ++ [om]) HL9.out (by rw [HN9.out]; omega))
                    have HPg := Lib.hid hpg
                    clear hpg
                    go_wp2_with fail
                    refine HW.out.mono ?_
                    rintro e w9 ⟨sx, cx, bx, rfl, k1, k2, k3⟩
                    rw [HN9.out] at k1 ⊢
                    obtain ⟨τ9, m1, m2, m3⟩ := Mr.new (k := 1) (xs := (L ++ [om])) P.out.fits k3 k1 k2
                    have M9 := Lib.hid m1
                    have P9 := Lib.hid (P.out.step m2 (isK_mine 1) m3)
                    have S9 := Lib.hid (S.out.trans m2.all)
                    have V9 := Lib.hid (MV.out.step m2 (isK_other (by omega)))
                    have A9 := Lib.hid (WV.out.step m2 (fun j _ _ => isK_other (by omega)))
                    have X9 := Lib.hid (X2.out.later S9.out.bare)
                    clear k1 k2 k3 m1 m2 m3 q0 q1 q2 q3 HW
                    obtain ⟨q0, q1, q2, q3⟩ := X9.out.cells
                    have hpg := I.pages_any P9.out (i : Int)
                    rw [HPg.out] at hpg
                    have HPc := Lib.hid hpg
                    clear hpg
                    go_wp2_with fail
                    refine HPc.out.mono ?_
                    rintro e w10 ⟨sq, cq, bq, rfl, _, k1⟩
                    have P10 := Lib.hid (P9.out.below k1)
                    have M10 := Lib.hid (M9.out.below k1)
                    have V10 := Lib.hid (V9.out.below k1)
                    have A10 := Lib.hid (A9.out.below k1)
                    have S10 := Lib.hid (S9.out.trans (Step.below (M := fun _ => true) (τ := τ9) k1))
                    have X10 := Lib.hid (X2.out.later S10.out.bare)
                    clear k1 q0 q1 q2 q3 HPc
                    obtain ⟨q0, q1, q2, q3⟩ := X10.out.cells
                    obtain ⟨vi, hvi⟩ : ∃ vi, V[i]? = some vi := ⟨_, List.getElem?_eq_getElem (by rw [HV.out]; exact hlt)⟩
                    have hwi := A10.out i vi (Nat.le_refl _) hvi
                    rw [HLe.out] at hwi
                    obtain ⟨sw, cw, rfl, _⟩ := hwi.slice
                    rw [HNl.out] at hwi hvi
                    have MW10 := Lib.hid hwi
                    obtain ⟨cv', ov', rfl, q4⟩ := V10.out.at_ hvi
                    clear hwi hvi
                    go_upto_region 30 with (at_builtin; refine wpList_push_m (2 + i) rfl (.tmp 116) (.tmp 119) rfl w10 τ9 P10.out.fits _ L om rfl MW10.out rfl nl HNl.out Hnl9.out ?_; intro sw' cw' w11 τ11 k1 k2 k3; have MW11 := Lib.hid k1; have M11 := Lib.hid (M10.out.step k2 (isK_other (by omega))); have P11 := Lib.hid (P10.out.step k2 (isK_mine _) k3); have S11 := Lib.hid (S10.out.trans k2.all); have V11 := Lib.hid (V10.out.step k2 (isK_other (by omega))); have A11 := Lib.hid (A10.out.next.step k2 (fun j hj _ => isK_other (by omega))); have X11 := Lib.hid (X2.out.later S11.out.bare); clear k1 k2 k3 q0 q1 q2 q3 q4; obtain ⟨q0, q1, q2, q3⟩ := X11.out.cells)
                    obtain ⟨hn1', _⟩ := M11.out.nums
                    obtain ⟨hn2', _⟩ := MW11.out.nums
                    have HIn := Lib.hid (ints_same w11 sx sw' cx cw' (nl + 1) (L ++ [om]) HN9.out hn1' hn2')
                    clear hn1' hn2'
                    go_wp2_with fail
                    refine HIn.out.mono ?_
                    rintro e w12 ⟨rfl, m, rfl⟩
                    have B12 := set_drewN w11 m
                    have P12 := Lib.hid (P11.out.below B12)
                    have V12 := Lib.hid (V11.out.below B12)
                    have A12 := Lib.hid (A11.out.below B12)
                    have S12 := Lib.hid (S11.out.trans (Step.below (M := fun _ => true) (τ := τ11) B12))
                    clear B12
                    go_wp2
                    go_roundw
                    case rel => exact ⟨i + 1, h + pl, τ11, by omega, by go_num, by go_num, by rw [HS9.out], V12.out, A12.out, P12.out, S12.out⟩
                    case measure => simp [intOf]; omega
                  · by_cases hb1 : (i : Int) = oi
                    · have hb2 : ¬ ec = 0 := fun h => hb ⟨hb1, h⟩
                      have hbe : ((i : Int) == oi) = true := by simpa using hb1
                      have hee : (ec == 0) = false := by simpa using hb2
                      have HL9 : Hid (thingsD D' (i : Int) = L) := Lib.hid (by rw [HT.out, if_neg (fun h => hb2 h.2), HLe.out])
                      clear hb hb1 hb2
                      have HN9 : Hid (L.length = nl) := Lib.hid HNl.out
                      have HW := Lib.hid (lawRow P.out (i : Int) (L) HL9.out (by rw [HN9.out]; omega))
                      have HPg := Lib.hid hpg
                      clear hpg
                      go_wp2_with fail
                      refine HW.out.mono ?_
                      rintro e w9 ⟨sx, cx, bx, rfl, k1, k2, k3⟩
                      rw [HN9.out] at k1 ⊢
                      obtain ⟨τ9, m1, m2, m3⟩ := Mr.new (k := 1) (xs := (L)) P.out.fits k3 k1 k2
                      have M9 := Lib.hid m1
                      have P9 := Lib.hid (P.out.step m2 (isK_mine 1) m3)
                      have S9 := Lib.hid (S.out.trans m2.all)
                      have V9 := Lib.hid (MV.out.step m2 (isK_other (by omega)))
                      have A9 := Lib.hid (WV.out.step m2 (fun j _ _ => isK_other (by omega)))
                      have X9 := Lib.hid (X2.out.later S9.out.bare)
                      clear k1 k2 k3 m1 m2 m3 q0 q1 q2 q3 HW
                      obtain ⟨q0, q1, q2, q3⟩ := X9.out.cells
                      have hpg := I.pages_any P9.out (i : Int)
                      rw [HPg.out] at hpg
                      have HPc := Lib.hid hpg
                      clear hpg
                      go_wp2_with fail
                      refine HPc.out.mono ?_
                      rintro e w10 ⟨sq, cq, bq, rfl, _, k1⟩
                      have P10 := Lib.hid (P9.out.below k1)
                      have M10 := Lib.hid (M9.out.below k1)
                      have V10 := Lib.hid (V9.out.below k1)
                      have A10 := Lib.hid (A9.out.below k1)
                      have S10 := Lib.hid (S9.out.trans (Step.below (M := fun _ => true) (τ := τ9) k1))
                      have X10 := Lib.hid (X2.out.later S10.out.bare)
                      clear k1 q0 q1 q2 q3 HPc
                      obtain ⟨q0, q1, q2, q3⟩ := X10.out.cells
                      obtain ⟨vi, hvi⟩ : ∃ vi, V[i]? = some vi := ⟨_, List.getElem?_eq_getElem (by rw [HV.out]; exact hlt)⟩
                      have hwi := A10.out i vi (Nat.le_refl _) hvi
                      rw [HLe.out] at hwi
                      obtain ⟨sw, cw, rfl, _⟩ := hwi.slice
                      rw [HNl.out] at hwi hvi
                      have MW10 := Lib.hid hwi
                      obtain ⟨cv', ov', rfl, q4⟩ := V10.out.at_ hvi
                      clear hwi hvi
                      go_upto_region 30 with fail
                      have P11 := P10
                      have S11 := S10
                      have V11 := V10
                      have A11 := Lib.hid A10.out.next
                      obtain ⟨hn1', _⟩ := M10.out.nums
                      obtain ⟨hn2', _⟩ := MW10.out.nums
                      have HIn := Lib.hid (ints_same w10 sx sw cx cw nl (L) HN9.out hn1' hn2')
                      clear hn1' hn2'
                      go_wp2_with fail
                      refine HIn.out.mono ?_
                      rintro e w12 ⟨rfl, m, rfl⟩
                      have B12 := set_drewN w10 m
                      have P12 := Lib.hid (P11.out.below B12)
                      have V12 := Lib.hid (V11.out.below B12)
                      have A12 := Lib.hid (A11.out.below B12)
                      have S12 := Lib.hid (S11.out.trans (Step.below (M := fun _ => true) (τ := τ9) B12))
                      clear B12
                      go_wp2
                      go_roundw
                      case rel => exact ⟨i + 1, h + pl, τ9, by omega, by go_num, by go_num, by rw [HS9.out], V12.out, A12.out, P12.out, S12.out⟩
                      case measure => simp [intOf]; omega
                    · have hbe : ((i : Int) == oi) = false := by simpa using hb1
                      have HL9 : Hid (thingsD D' (i : Int) = L) := Lib.hid (by rw [HT.out, if_neg (fun h => hb1 h.1), HLe.out])
                      clear hb hb1
                      have HN9 : Hid (L.length = nl) := Lib.hid HNl.out
                      have HW := Lib.hid (lawRow P.out (i : Int) (L) HL9.out (by rw [HN9.out]; omega))
                      have HPg := Lib.hid hpg
                      clear hpg
                      go_wp2_with fail
                      refine HW.out.mono ?_
                      rintro e w9 ⟨sx, cx, bx, rfl, k1, k2, k3⟩
                      rw [HN9.out] at k1 ⊢
                      obtain ⟨τ9, m1, m2, m3⟩ := Mr.new (k := 1) (xs := (L)) P.out.fits k3 k1 k2
                      have M9 := Lib.hid m1
                      have P9 := Lib.hid (P.out.step m2 (isK_mine 1) m3)
                      have S9 := Lib.hid (S.out.trans m2.all)
                      have V9 := Lib.hid (MV.out.step m2 (isK_other (by omega)))
                      have A9 := Lib.hid (WV.out.step m2 (fun j _ _ => isK_other (by omega)))
                      have X9 := Lib.hid (X2.out.later S9.out.bare)
                      clear k1 k2 k3 m1 m2 m3 q0 q1 q2 q3 HW
                      obtain ⟨q0, q1, q2, q3⟩ := X9.out.cells
                      have hpg := I.pages_any P9.out (i : Int)
                      rw [HPg.out] at hpg
                      have HPc := Lib.hid hpg
                      clear hpg
                      go_wp2_with fail
                      refine HPc.out.mono ?_
                      rintro e w10 ⟨sq, cq, bq, rfl, _, k1⟩
                      have P10 := Lib.hid (P9.out.below k1)
                      have M10 := Lib.hid (M9.out.below k1)
                      have V10 := Lib.hid (V9.out.below k1)
                      have A10 := Lib.hid (A9.out.below k1)
                      have S10 := Lib.hid (S9.out.trans (Step.below (M := fun _ => true) (τ := τ9) k1))
                      have X10 := Lib.hid (X2.out.later S10.out.bare)
                      clear k1 q0 q1 q2 q3 HPc
                      obtain ⟨q0, q1, q2, q3⟩ := X10.out.cells
                      obtain ⟨vi, hvi⟩ : ∃ vi, V[i]? = some vi := ⟨_, List.getElem?_eq_getElem (by rw [HV.out]; exact hlt)⟩
                      have hwi := A10.out i vi (Nat.le_refl _) hvi
                      rw [HLe.out] at hwi
                      obtain ⟨sw, cw, rfl, _⟩ := hwi.slice
                      rw [HNl.out] at hwi hvi
                      have MW10 := Lib.hid hwi
                      obtain ⟨cv', ov', rfl, q4⟩ := V10.out.at_ hvi
                      clear hwi hvi
                      go_upto_region 30 with fail
                      have P11 := P10
                      have S11 := S10
                      have V11 := V10
                      have A11 := Lib.hid A10.out.next
                      obtain ⟨hn1', _⟩ := M10.out.nums
                      obtain ⟨hn2', _⟩ := MW10.out.nums
                      have HIn := Lib.hid (ints_same w10 sx sw cx cw nl (L) HN9.out hn1' hn2')
                      clear hn1' hn2'
                      go_wp2_with fail
                      refine HIn.out.mono ?_
                      rintro e w12 ⟨rfl, m, rfl⟩
                      have B12 := set_drewN w10 m
                      have P12 := Lib.hid (P11.out.below B12)
                      have V12 := Lib.hid (V11.out.below B12)
                      have A12 := Lib.hid (A11.out.below B12)
                      have S12 := Lib.hid (S11.out.trans (Step.below (M := fun _ => true) (τ := τ9) B12))
                      clear B12
                      go_wp2
                      go_roundw
                      case rel => exact ⟨i + 1, h + pl, τ9, by omega, by go_num, by go_num, by rw [HS9.out], V12.out, A12.out, P12.out, S12.out⟩
                      case measure => simp [intOf]; omega
                · have hi60 : 50 ≤ i := by omega
                  have e3 : decide (i < 60) = false := by simpa using hlt
                  have e4 : decide ((i : Int) < 60) = false := by simp; omega
                  have hsum := sum_held (m := i) P.out Dp'.out (Nat.le_trans Dl'.out hi60)
                  rw [HH.out] at hsum
                  have HSu := Lib.hid hsum
                  clear hsum
                  go_wp2
                  go_loopw [20, 21, 22] (fun cv fv iv wr => ∃ (i c f : Nat) (τ : Tags), i ≤ n ∧ iv = .int .i64 i ∧ cv = .int .i64 c ∧ fv = .int .i64 f ∧ sumC D'.rows i = c ∧ I.freeN D' i = f ∧ Pool I.kind wr τ g D' ∧ Step (fun _ => true) bare τ w2 wr) (fun _ _ iv _ => n - (intOf iv).toNat)
                  case atStart => exact ⟨0, 0, 0, τ, by omega, rfl, rfl, rfl, rfl, rfl, P.out, S.out⟩
                  case round =>
                    clear MV WV P S X q0 q1 q2 q3
                    obtain ⟨i, c, f, τ, hi, rfl, rfl, rfl, k0, k1, k2, k3⟩ := hrel
                    have hc : c ≤ 720 := by
                      have h9 := sumC_mono D'.rows hi
                      rw [HSu.out, k0] at h9
                      omega
                    have hf : f ≤ 12 := by
                      have h9 := I.freeN_le D' i
                      rw [k1] at h9
                      omega
                    have HC := Lib.hid k0
                    have HF := Lib.hid k1
                    have P := Lib.hid k2
                    have S := Lib.hid k3
                    have X := Lib.hid (X2.out.later k3.bare)
                    clear k0 k1 k2 k3
                    obtain ⟨q0, q1, q2, q3⟩ := X.out.cells
                    rw [HXn.out] at q0
                    by_cases hlt : i < n
                    · have e5 : decide (i < n) = true := by simpa using hlt
                      have e6 : decide ((i : Int) < (n : Int)) = true := by simp; omega
                      obtain ⟨k, hk⟩ : ∃ k, cnt D'.rows i = k := ⟨_, rfl⟩
                      have hk720 : c + k ≤ 720 := by
                        have h9 := sumC_mono D'.rows (a := i + 1) hlt
                        rw [HSu.out] at h9
                        have h8 : sumC D'.rows (i + 1) = c + k := by show sumC D'.rows i + _ = _; rw [HC.out, hk]
                        omega
                      have hcd : I.countD D' (i : Int) = (k : Int) := by
                        unfold I.countD
                        rw [if_pos ⟨by omega, by rw [Dp'.out]; omega⟩, Int.toNat_natCast, hk]
                      have hCa := I.countD_any P.out (i : Int)
                      rw [hcd] at hCa
                      have HCa := Lib.hid hCa
                      have HK := Lib.hid hk
                      clear hCa hcd hk
                      by_cases hz : k = 0
                      · have e7 : ((k : Int) == 0) = true := by simp; omega
                        have HZ := Lib.hid hz
                        clear hz
                        have HF1 : Hid (I.freeN D' (i + 1) = f + 1) := Lib.hid (by show I.freeN D' i + _ = _; rw [HF.out, HK.out]; rw [if_pos HZ.out])
                        have HC1 : Hid (sumC D'.rows (i + 1) = c + k) := Lib.hid (by show sumC D'.rows i + _ = _; rw [HC.out, HK.out])
                        go_wp2_with fail
                        refine HCa.out.mono ?_
                        rintro e w9 ⟨rfl, rfl⟩
                        go_wp2_with fail
                        refine HCa.out.mono ?_
                        rintro e w9 ⟨rfl, rfl⟩
                        clear q0 q1 q2 q3
                        go_wp2
                        go_roundw
                        case rel => exact ⟨i + 1, c + k, f + 1, τ, by omega, by go_num, by go_num, by go_num, HC1.out, HF1.out, P.out, S.out⟩
                        case measure => simp [intOf]; omega
                      · have e7 : ((k : Int) == 0) = false := by simp; omega
                        have HF1 : Hid (I.freeN D' (i + 1) = f) := Lib.hid (by show I.freeN D' i + _ = _; rw [HF.out, HK.out]; rw [if_neg hz]; rfl)
                        have HC1 : Hid (sumC D'.rows (i + 1) = c + k) := Lib.hid (by show sumC D'.rows i + _ = _; rw [HC.out, HK.out])
                        go_wp2_with fail
                        refine HCa.out.mono ?_
                        rintro e w9 ⟨rfl, rfl⟩
                        go_wp2_with fail
                        refine HCa.out.mono ?_
                        rintro e w9 ⟨rfl, rfl⟩
                        clear q0 q1 q2 q3
                        go_wp2
                        go_roundw
                        case rel => exact ⟨i + 1, c + k, f, τ, by omega, by go_num, by go_num, by go_num, HC1.out, HF1.out, P.out, S.out⟩
                        case measure => simp [intOf]; omega
                    · obtain rfl : i = n := by omega
                      have e5 : decide (i < i) = false := by simp
                      have e6 : decide ((i : Int) < (i : Int)) = false := by simp
                      obtain rfl : c = h := by rw [← HC.out, HSu.out]
                      have ecc : ((c : Int) == (c : Int)) = true := by simp
                      have eff : ((f : Int) == (f : Int)) = true := by simp
                      have hFr := I.freeD_any P.out
                      rw [Dp'.out, HF.out] at hFr
                      have HFr := Lib.hid hFr
                      clear hFr
                      go_wp2_with fail
                      refine HFr.out.mono ?_
                      rintro e w10 ⟨rfl, k1⟩
                      have X10 := Lib.hid (X.out.later k1)
                      clear k1 q0 q1 q2 q3
                      go_wp2_with fail
                      refine (awake_any _).mono ?_
                      rintro e w13 ⟨rfl, k3⟩
                      have X13 := Lib.hid (X10.out.later k3)
                      clear k3
                      go_wp2
                      go_ret
                      exact ⟨rfl, X13.out.below⟩
  · have HRt : Hid (rightB x y = false) := Lib.hid (by simpa using hr)
    clear hr
    go_enter Try.func4, Try.ntmps4
    go_upto_region 1 with fail
    refine I.gen_w (Q := fun w => Code.wp _ _ _ _ w) _ (fun W => Ax w x y oa oi om W) HBx.out ?_
    clear HBx
    rintro w1 k1
    have X1 := Lib.hid k1
    obtain ⟨q0, q1, q2, q3⟩ := k1.cells
    clear k1
    go_wp2_with fail
    refine (right_any w1 x y).mono ?_
    rintro e w2 ⟨rfl, k2⟩
    have X2 := Lib.hid (X1.out.later k2)
    clear k2 X1 q0 q1 q2 q3
    rw [HRt.out]
    go_wp2_with fail
    refine (awake_any _).mono ?_
    rintro e w3 ⟨rfl, k3⟩
    have X3 := Lib.hid (X2.out.later k3)
    clear k3
    go_wp2
    go_ret
    exact ⟨rfl, X3.out.below⟩
end Go.Proofs.Ytacokklgmhmdeaa.Kv
