import Derived.Test.YtchjijifmjbgoaaDoorYa
namespace Go.Proofs.YtchjijifmjbgoaaDoor.Tn
set_option maxRecDepth 100000
open Go.ChangeShapes Go.WideShapes Go.ChangeAt Go.RowKit Go.Sort Go.Proofs.YtchjijifmjbgoaaDoor.Fx Go.Proofs.YtchjijifmjbgoaaDoor.Rf

set_option maxHeartbeats 8000000 in
theorem sift_any {wb : World} {g : FuncId} {recv : Value} {n : Nat} {cf : Nat → Nat → Int} (S : Srt wb g recv n cf) (w : World) (P : Nat) (d : Array Nat) (hs : SrtW wb P n w d w) (lo hi a : Nat) (ha : a + hi ≤ n) (hlo : lo ≤ 1000) :
    Calls Tryd.prog 101 #[.slice (some ⟨P, 0, none⟩) n n, .int .i64 lo, .int .i64 hi, .int .i64 a, .func (.func g) #[recv] #[]] w fun e w' => e = .returned (.tuple #[]) ∧ SrtW wb P n w (siftDown (ltc cf) hi a lo d) w' := by
  have HS := Lib.hid S
  have mixed : Tryd.prog.follows Departure.mixedOrders = true := by kernel_rfl
  have hn := S.le
  have eg := S.eg
  have HW : Hid (SrtW wb P n w d w) := hs
  obtain ⟨T, hT⟩ : ∃ T, siftDown (ltc cf) hi a lo d = T := ⟨_, rfl⟩
  have HT := Lib.hid hT
  rw [hT]
  clear S hs hT
  go_enter Tryd.func101, Tryd.ntmps101
  go_wp2
  go_loopw [10] (fun t wr => ∃ (r : Nat) (d1 : Array Nat), r ≤ 2000 ∧ t = .int .i64 r ∧ SrtW wb P n w d1 wr ∧ siftDown (ltc cf) hi a r d1 = T) (fun t _ => 2001 - (intOf t).toNat)
  case atStart => exact ⟨lo, d, by omega, rfl, HW.out, HT.out⟩
  case round =>
    clear HT HW
    obtain ⟨r, d1, hr, rfl, hW, hO⟩ := hrel
    have HW := Lib.hid hW
    have HO := Lib.hid hO
    clear hW hO
    obtain ⟨c, hc⟩ : ∃ c, 2 * r + 1 = c := ⟨_, rfl⟩
    have ecc : 2 * (r : Int) + 1 = (c : Int) := by omega
    have HCc := Lib.hid hc
    clear hc
    by_cases hge : hi ≤ c
    · have hdt : decide ((hi : Int) ≤ (c : Int)) = true := by simp; omega
      have hdt2 : decide (hi ≤ c) = true := by simpa using hge
      have HE : Hid (d1 = T) := Lib.hid (by
        rw [← HO.out, sift_end (by have := HCc.out; omega)])
      go_wp2
      go_end0
      exact ⟨rfl, by rw [← HE.out]; exact HW.out⟩
    · have hdt : decide ((hi : Int) ≤ (c : Int)) = false := by simp; omega
      have hdt2 : decide (hi ≤ c) = false := by simp; omega
      obtain ⟨c1, hc1⟩ : ∃ c1, c + 1 = c1 := ⟨_, rfl⟩
      have ec1 : (c : Int) + 1 = (c1 : Int) := by omega
      have HC1 := Lib.hid hc1
      have w1 : IntKind.i64.wrap (c1 : Int) = (c1 : Int) := IntWalk.i64_in _ (by omega)
      clear hc1
      by_cases h1 : c1 < hi
      · have hd1 : decide ((c1 : Int) < (hi : Int)) = true := by simp; omega
        have hd2 : decide (c1 < hi) = true := by simpa using h1
        have hcn : a + c < n := by omega
        have hcn1 : a + c + 1 < n := by omega
        obtain ⟨jc, hjc⟩ : ∃ jc, a + c = jc := ⟨_, rfl⟩
        obtain ⟨jd, hjd⟩ : ∃ jd, jc + 1 = jd := ⟨_, rfl⟩
        have HJc := Lib.hid hjc
        have HJd := Lib.hid hjd
        have ejc : (a : Int) + (c : Int) = (jc : Int) := by omega
        have ejd : (jc : Int) + 1 = (jd : Int) := by omega
        have hjn : jc < n := by omega
        have hdn : jd < n := by omega
        have wjc : IntKind.i64.wrap (jc : Int) = (jc : Int) := IntWalk.i64_in _ (by omega)
        have wjd : IntKind.i64.wrap (jd : Int) = (jd : Int) := IntWalk.i64_in _ (by omega)
        clear hjc hjd hcn hcn1
        have q1 := cell_regrown (HW.out.cell (jc) hjn)
        have q2 := cell_regrown (HW.out.cell (jd) hdn)
        have qc := fun q os => HS.out.at_ HW.out (jc) (jd) hjn hdn q os
        by_cases hlt2 : cf d1[jc]! d1[jd]! < 0
        · have hd : decide (cf d1[jc]! d1[jd]! < 0) = true := by simpa using hlt2
          have HD : Hid (ltc cf d1[jc]! d1[jd]! = true) := Lib.hid hd
          obtain ⟨x, hx⟩ : ∃ x, d1[jc]! = x := ⟨_, rfl⟩
          obtain ⟨y, hy⟩ : ∃ y, d1[jd]! = y := ⟨_, rfl⟩
          rw [hx, hy] at qc hd
          rw [hx] at q1
          rw [hy] at q2
          clear hx hy hlt2 
          go_wp2
          refine wp_region_quiet_below (by kernel_rfl) (by kernel_rfl) ?_
          repeat (quiet_step (exact qc _ _))
          refine wpQuiet_nil ?_
          intro _ hw'
          obtain ⟨⟨dq, osq⟩, hw''⟩ := hw'
          subst hw''
          have HW2 := Lib.hid (HW.out.regrown dq osq)
          generalize grow (redrawn wr dq) osq = w2 at HW2 ⊢
          clear q1 q2 qc HW
          have HDa := HD
          clear HD ejc ejd wjc wjd
          have HCh : Hid (Child (ltc cf) hi a r d1 c1) := Lib.hid ⟨by omega, Or.inr ⟨by have := HCc.out; have := HC1.out; omega, by rw [HCc.out, HJc.out, HJd.out]; exact HDa.out⟩⟩
          obtain ⟨ic, hic⟩ : ∃ ic, a + c1 = ic := ⟨_, rfl⟩
          obtain ⟨ir, hir⟩ : ∃ ir, a + r = ir := ⟨_, rfl⟩
          have HIc := Lib.hid hic
          have HIr := Lib.hid hir
          have ec : (a : Int) + (c1 : Int) = (ic : Int) := by omega
          have er : (a : Int) + (r : Int) = (ir : Int) := by omega
          have hin : ic < n := by omega
          have hir2 : ir < n := by omega
          have wc : IntKind.i64.wrap (ic : Int) = (ic : Int) := IntWalk.i64_in _ (by omega)
          have wr_ : IntKind.i64.wrap (ir : Int) = (ir : Int) := IntWalk.i64_in _ (by omega)
          clear hic hir
          have q1 := cell_regrown (HW2.out.cell (ir) hir2)
          have q2 := cell_regrown (HW2.out.cell (ic) hin)
          have qc := fun q os => HS.out.at_ HW2.out (ir) (ic) hir2 hin q os
          by_cases hlt2 : cf d1[ir]! d1[ic]! < 0
          · have hd : decide (cf d1[ir]! d1[ic]! < 0) = true := by simpa using hlt2
            have HD : Hid (ltc cf d1[ir]! d1[ic]! = true) := Lib.hid hd
            obtain ⟨x, hx⟩ : ∃ x, d1[ir]! = x := ⟨_, rfl⟩
            obtain ⟨y, hy⟩ : ∃ y, d1[ic]! = y := ⟨_, rfl⟩
            rw [hx, hy] at qc hd
            rw [hx] at q1
            rw [hy] at q2
            clear hx hy hlt2 
            go_wp2
            refine wp_region_quiet_below (by kernel_rfl) (by kernel_rfl) ?_
            repeat (quiet_step (exact qc _ _))
            refine wpQuiet_nil ?_
            intro _ hw'
            obtain ⟨⟨dq, osq⟩, hw''⟩ := hw'
            subst hw''
            have HW4 := Lib.hid (HW2.out.regrown dq osq)
            generalize grow (redrawn w2 dq) osq = w4 at HW4 ⊢
            clear q1 q2 qc HW2
            have HO2 : Hid (siftDown (ltc cf) hi a c1 (swp d1 ir ic) = T) := Lib.hid (by
              have h0 := sift_go HCh.out (by rw [HIr.out, HIc.out]; exact HD.out)
              rw [HIr.out, HIc.out] at h0
              rw [← h0]
              exact HO.out)
            clear HO HCh HIc HIr HD
            have c1 := HW4.out.cell (ir) hir2
            have c2 := HW4.out.cell (ic) hin
            have c3 := HW4.out.cell3 (ir) (ic) hir2 hin
            have f1 := HW4.out.frozen (ir)
            have f2 := HW4.out.frozen (ic)
            have HW5 := Lib.hid (HW4.out.swap (ir) (ic) hir2 hin)
            obtain ⟨x, hx⟩ : ∃ x, d1[ir]! = x := ⟨_, rfl⟩
            obtain ⟨y, hy⟩ : ∃ y, d1[ic]! = y := ⟨_, rfl⟩
            rw [hx, hy] at HW5
            rw [hx] at c1
            rw [hy] at c2 c3
            clear hx hy
            go_wp2
            go_big_region_o
            clear c1 c2 c3 f1 f2 HW4
            generalize ((w4.setCell ⟨P, ir, none⟩ (.int .i64 (y : Int))).setCell ⟨P, ic, none⟩ (.int .i64 (x : Int))).drew = w5 at HW5 ⊢

            go_wp2
            go_roundw
            case rel => exact ⟨c1, _, by omega, by first | rfl | go_num, HW5.out, HO2.out⟩
            case measure => simp [intOf]; omega
          · have hd : decide (cf d1[ir]! d1[ic]! < 0) = false := by simpa using hlt2
            have HD : Hid (ltc cf d1[ir]! d1[ic]! = false) := Lib.hid hd
            obtain ⟨x, hx⟩ : ∃ x, d1[ir]! = x := ⟨_, rfl⟩
            obtain ⟨y, hy⟩ : ∃ y, d1[ic]! = y := ⟨_, rfl⟩
            rw [hx, hy] at qc hd
            rw [hx] at q1
            rw [hy] at q2
            clear hx hy hlt2 
            go_wp2
            refine wp_region_quiet_below (by kernel_rfl) (by kernel_rfl) ?_
            repeat (quiet_step (exact qc _ _))
            refine wpQuiet_nil ?_
            intro _ hw'
            obtain ⟨⟨dq, osq⟩, hw''⟩ := hw'
            subst hw''
            have HW4 := Lib.hid (HW2.out.regrown dq osq)
            generalize grow (redrawn w2 dq) osq = w4 at HW4 ⊢
            clear q1 q2 qc HW2
            have HE : Hid (d1 = T) := Lib.hid (by
              have h0 := sift_stop HCh.out (by rw [HIr.out, HIc.out]; exact HD.out)
              rw [← h0]
              exact HO.out)
            clear HO HCh HIc HIr HD
            go_wp2
            (try simp only [Exit.inBlock, Exit.then])
            refine bodyPost_ret (results_none rfl _ _ _) rfl ?_
            exact ⟨rfl, by rw [← HE.out]; exact HW4.out⟩
        · have hd : decide (cf d1[jc]! d1[jd]! < 0) = false := by simpa using hlt2
          have HD : Hid (ltc cf d1[jc]! d1[jd]! = false) := Lib.hid hd
          obtain ⟨x, hx⟩ : ∃ x, d1[jc]! = x := ⟨_, rfl⟩
          obtain ⟨y, hy⟩ : ∃ y, d1[jd]! = y := ⟨_, rfl⟩
          rw [hx, hy] at qc hd
          rw [hx] at q1
          rw [hy] at q2
          clear hx hy hlt2 
          go_wp2
          refine wp_region_quiet_below (by kernel_rfl) (by kernel_rfl) ?_
          repeat (quiet_step (exact qc _ _))
          refine wpQuiet_nil ?_
          intro _ hw'
          obtain ⟨⟨dq, osq⟩, hw''⟩ := hw'
          subst hw''
          have HW2 := Lib.hid (HW.out.regrown dq osq)
          generalize grow (redrawn wr dq) osq = w2 at HW2 ⊢
          clear q1 q2 qc HW
          have HDa := HD
          clear HD ejc ejd wjc wjd
          have HCh : Hid (Child (ltc cf) hi a r d1 c) := Lib.hid ⟨by omega, Or.inl ⟨HCc.out.symm, fun h => by have h2 := h.2; rw [HJc.out, HJd.out, HDa.out] at h2; exact absurd h2 (by simp)⟩⟩
          obtain ⟨ic, hic⟩ : ∃ ic, a + c = ic := ⟨_, rfl⟩
          obtain ⟨ir, hir⟩ : ∃ ir, a + r = ir := ⟨_, rfl⟩
          have HIc := Lib.hid hic
          have HIr := Lib.hid hir
          have ec : (a : Int) + (c : Int) = (ic : Int) := by omega
          have er : (a : Int) + (r : Int) = (ir : Int) := by omega
          have hin : ic < n := by omega
          have hir2 : ir < n := by omega
          have wc : IntKind.i64.wrap (ic : Int) = (ic : Int) := IntWalk.i64_in _ (by omega)
          have wr_ : IntKind.i64.wrap (ir : Int) = (ir : Int) := IntWalk.i64_in _ (by omega)
          clear hic hir
          have q1 := cell_regrown (HW2.out.cell (ir) hir2)
          have q2 := cell_regrown (HW2.out.cell (ic) hin)
          have qc := fun q os => HS.out.at_ HW2.out (ir) (ic) hir2 hin q os
          by_cases hlt2 : cf d1[ir]! d1[ic]! < 0
          · have hd : decide (cf d1[ir]! d1[ic]! < 0) = true := by simpa using hlt2
            have HD : Hid (ltc cf d1[ir]! d1[ic]! = true) := Lib.hid hd
            obtain ⟨x, hx⟩ : ∃ x, d1[ir]! = x := ⟨_, rfl⟩
            obtain ⟨y, hy⟩ : ∃ y, d1[ic]! = y := ⟨_, rfl⟩
            rw [hx, hy] at qc hd
            rw [hx] at q1
            rw [hy] at q2
            clear hx hy hlt2 
            go_wp2
            refine wp_region_quiet_below (by kernel_rfl) (by kernel_rfl) ?_
            repeat (quiet_step (exact qc _ _))
            refine wpQuiet_nil ?_
            intro _ hw'
            obtain ⟨⟨dq, osq⟩, hw''⟩ := hw'
            subst hw''
            have HW4 := Lib.hid (HW2.out.regrown dq osq)
            generalize grow (redrawn w2 dq) osq = w4 at HW4 ⊢
            clear q1 q2 qc HW2
            have HO2 : Hid (siftDown (ltc cf) hi a c (swp d1 ir ic) = T) := Lib.hid (by
              have h0 := sift_go HCh.out (by rw [HIr.out, HIc.out]; exact HD.out)
              rw [HIr.out, HIc.out] at h0
              rw [← h0]
              exact HO.out)
            clear HO HCh HIc HIr HD
            have c1 := HW4.out.cell (ir) hir2
            have c2 := HW4.out.cell (ic) hin
            have c3 := HW4.out.cell3 (ir) (ic) hir2 hin
            have f1 := HW4.out.frozen (ir)
            have f2 := HW4.out.frozen (ic)
            have HW5 := Lib.hid (HW4.out.swap (ir) (ic) hir2 hin)
            obtain ⟨x, hx⟩ : ∃ x, d1[ir]! = x := ⟨_, rfl⟩
            obtain ⟨y, hy⟩ : ∃ y, d1[ic]! = y := ⟨_, rfl⟩
            rw [hx, hy] at HW5
            rw [hx] at c1
            rw [hy] at c2 c3
            clear hx hy
            go_wp2
            go_big_region_o
            clear c1 c2 c3 f1 f2 HW4
            generalize ((w4.setCell ⟨P, ir, none⟩ (.int .i64 (y : Int))).setCell ⟨P, ic, none⟩ (.int .i64 (x : Int))).drew = w5 at HW5 ⊢

            go_wp2
            go_roundw
            case rel => exact ⟨c, _, by omega, by first | rfl | go_num, HW5.out, HO2.out⟩
            case measure => simp [intOf]; omega
          · have hd : decide (cf d1[ir]! d1[ic]! < 0) = false := by simpa using hlt2
            have HD : Hid (ltc cf d1[ir]! d1[ic]! = false) := Lib.hid hd
            obtain ⟨x, hx⟩ : ∃ x, d1[ir]! = x := ⟨_, rfl⟩
            obtain ⟨y, hy⟩ : ∃ y, d1[ic]! = y := ⟨_, rfl⟩
            rw [hx, hy] at qc hd
            rw [hx] at q1
            rw [hy] at q2
            clear hx hy hlt2 
            go_wp2
            refine wp_region_quiet_below (by kernel_rfl) (by kernel_rfl) ?_
            repeat (quiet_step (exact qc _ _))
            refine wpQuiet_nil ?_
            intro _ hw'
            obtain ⟨⟨dq, osq⟩, hw''⟩ := hw'
            subst hw''
            have HW4 := Lib.hid (HW2.out.regrown dq osq)
            generalize grow (redrawn w2 dq) osq = w4 at HW4 ⊢
            clear q1 q2 qc HW2
            have HE : Hid (d1 = T) := Lib.hid (by
              have h0 := sift_stop HCh.out (by rw [HIr.out, HIc.out]; exact HD.out)
              rw [← h0]
              exact HO.out)
            clear HO HCh HIc HIr HD
            go_wp2
            (try simp only [Exit.inBlock, Exit.then])
            refine bodyPost_ret (results_none rfl _ _ _) rfl ?_
            exact ⟨rfl, by rw [← HE.out]; exact HW4.out⟩
      · have hd1 : decide ((c1 : Int) < (hi : Int)) = false := by simp; omega
        have hd2 : decide (c1 < hi) = false := by simp; omega
        go_wp2
        go_big_region_o
        have HW2 := Lib.hid HW.out.drew
        generalize wr.drew = w2 at HW2 ⊢
        clear HW
        have HCh : Hid (Child (ltc cf) hi a r d1 c) := Lib.hid ⟨by omega, Or.inl ⟨HCc.out.symm, fun h => h1 (by have := HC1.out; omega)⟩⟩
        obtain ⟨ic, hic⟩ : ∃ ic, a + c = ic := ⟨_, rfl⟩
        obtain ⟨ir, hir⟩ : ∃ ir, a + r = ir := ⟨_, rfl⟩
        have HIc := Lib.hid hic
        have HIr := Lib.hid hir
        have ec : (a : Int) + (c : Int) = (ic : Int) := by omega
        have er : (a : Int) + (r : Int) = (ir : Int) := by omega
        have hin : ic < n := by omega
        have hir2 : ir < n := by omega
        have wc : IntKind.i64.wrap (ic : Int) = (ic : Int) := IntWalk.i64_in _ (by omega)
        have wr_ : IntKind.i64.wrap (ir : Int) = (ir : Int) := IntWalk.i64_in _ (by omega)
        clear hic hir
        have q1 := cell_regrown (HW2.out.cell (ir) hir2)
        have q2 := cell_regrown (HW2.out.cell (ic) hin)
        have qc := fun q os => HS.out.at_ HW2.out (ir) (ic) hir2 hin q os
        by_cases hlt2 : cf d1[ir]! d1[ic]! < 0
        · have hd : decide (cf d1[ir]! d1[ic]! < 0) = true := by simpa using hlt2
          have HD : Hid (ltc cf d1[ir]! d1[ic]! = true) := Lib.hid hd
          obtain ⟨x, hx⟩ : ∃ x, d1[ir]! = x := ⟨_, rfl⟩
          obtain ⟨y, hy⟩ : ∃ y, d1[ic]! = y := ⟨_, rfl⟩
          rw [hx, hy] at qc hd
          rw [hx] at q1
          rw [hy] at q2
          clear hx hy hlt2 
          go_wp2
          refine wp_region_quiet_below (by kernel_rfl) (by kernel_rfl) ?_
          repeat (quiet_step (exact qc _ _))
          refine wpQuiet_nil ?_
          intro _ hw'
          obtain ⟨⟨dq, osq⟩, hw''⟩ := hw'
          subst hw''
          have HW4 := Lib.hid (HW2.out.regrown dq osq)
          generalize grow (redrawn w2 dq) osq = w4 at HW4 ⊢
          clear q1 q2 qc HW2
          have HO2 : Hid (siftDown (ltc cf) hi a c (swp d1 ir ic) = T) := Lib.hid (by
            have h0 := sift_go HCh.out (by rw [HIr.out, HIc.out]; exact HD.out)
            rw [HIr.out, HIc.out] at h0
            rw [← h0]
            exact HO.out)
          clear HO HCh HIc HIr HD
          have c1 := HW4.out.cell (ir) hir2
          have c2 := HW4.out.cell (ic) hin
          have c3 := HW4.out.cell3 (ir) (ic) hir2 hin
          have f1 := HW4.out.frozen (ir)
          have f2 := HW4.out.frozen (ic)
          have HW5 := Lib.hid (HW4.out.swap (ir) (ic) hir2 hin)
          obtain ⟨x, hx⟩ : ∃ x, d1[ir]! = x := ⟨_, rfl⟩
          obtain ⟨y, hy⟩ : ∃ y, d1[ic]! = y := ⟨_, rfl⟩
          rw [hx, hy] at HW5
          rw [hx] at c1
          rw [hy] at c2 c3
          clear hx hy
          go_wp2
          go_big_region_o
          clear c1 c2 c3 f1 f2 HW4
          generalize ((w4.setCell ⟨P, ir, none⟩ (.int .i64 (y : Int))).setCell ⟨P, ic, none⟩ (.int .i64 (x : Int))).drew = w5 at HW5 ⊢

          go_wp2
          go_roundw
          case rel => exact ⟨c, _, by omega, by first | rfl | go_num, HW5.out, HO2.out⟩
          case measure => simp [intOf]; omega
        · have hd : decide (cf d1[ir]! d1[ic]! < 0) = false := by simpa using hlt2
          have HD : Hid (ltc cf d1[ir]! d1[ic]! = false) := Lib.hid hd
          obtain ⟨x, hx⟩ : ∃ x, d1[ir]! = x := ⟨_, rfl⟩
          obtain ⟨y, hy⟩ : ∃ y, d1[ic]! = y := ⟨_, rfl⟩
          rw [hx, hy] at qc hd
          rw [hx] at q1
          rw [hy] at q2
          clear hx hy hlt2 
          go_wp2
          refine wp_region_quiet_below (by kernel_rfl) (by kernel_rfl) ?_
          repeat (quiet_step (exact qc _ _))
          refine wpQuiet_nil ?_
          intro _ hw'
          obtain ⟨⟨dq, osq⟩, hw''⟩ := hw'
          subst hw''
          have HW4 := Lib.hid (HW2.out.regrown dq osq)
          generalize grow (redrawn w2 dq) osq = w4 at HW4 ⊢
          clear q1 q2 qc HW2
          have HE : Hid (d1 = T) := Lib.hid (by
            have h0 := sift_stop HCh.out (by rw [HIr.out, HIc.out]; exact HD.out)
            rw [← h0]
            exact HO.out)
          clear HO HCh HIc HIr HD
          go_wp2
          (try simp only [Exit.inBlock, Exit.then])
          refine bodyPost_ret (results_none rfl _ _ _) rfl ?_
          exact ⟨rfl, by rw [← HE.out]; exact HW4.out⟩
set_option maxHeartbeats 8000000 in
theorem heap_any {wb : World} {g : FuncId} {recv : Value} {n : Nat} {cf : Nat → Nat → Int} (S : Srt wb g recv n cf) (w : World) (P : Nat) (d : Array Nat) (hs : SrtW wb P n w d w) (a b : Nat) (hab : a < b) (hb : b ≤ n) :
    Calls Tryd.prog 91 #[.slice (some ⟨P, 0, none⟩) n n, .int .i64 a, .int .i64 b, .func (.func g) #[recv] #[]] w fun e w' => e = .returned (.tuple #[]) ∧ SrtW wb P n w (heapSort (ltc cf) d a b) w' := by
  have HSi := Lib.hid (fun W d (h : SrtW wb P n W d W) lo hi (ha : a + hi ≤ n) (hlo : lo ≤ 1000) => sift_any S W P d h lo hi a ha hlo)
  have mixed : Tryd.prog.follows Departure.mixedOrders = true := by kernel_rfl
  have hn := S.le
  have HW : Hid (SrtW wb P n w d w) := hs
  obtain ⟨T, hT⟩ : ∃ T, heapSort (ltc cf) d a b = T := ⟨_, rfl⟩
  obtain ⟨m, hm⟩ : ∃ m, b - a = m := ⟨_, rfl⟩
  obtain ⟨q, hq⟩ : ∃ q, (m - 1) / 2 = q := ⟨_, rfl⟩
  obtain ⟨B, hB⟩ : ∃ B, heapBuild (ltc cf) m a (q + 1) d = B := ⟨_, rfl⟩
  have HB := Lib.hid hB
  have HT : Hid (heapPop (ltc cf) a m B = T) := Lib.hid (by
    rw [← hT, ← hB, ← hq, ← hm]; rfl)
  rw [hT]
  have e1 : (b : Int) - (a : Int) = (m : Int) := by omega
  obtain ⟨m1, hm1⟩ : ∃ m1, m = m1 + 1 := ⟨m - 1, by omega⟩
  have e2 : (m : Int) - 1 = (m1 : Int) := by omega
  have e3 : (m1 : Int).tdiv 2 = (q : Int) := by rw [Int.tdiv_eq_ediv_of_nonneg (by omega)]; omega
  have e3' : (m1 : Int) / 2 = (q : Int) := by omega
  have hmn : a + m ≤ n := by omega
  have hqm : q ≤ 1000 := by omega
  have hm1k : m1 ≤ 1000 := by omega
  have w1 : IntKind.i64.wrap (m : Int) = (m : Int) := IntWalk.i64_in _ (by omega)
  have w2 : IntKind.i64.wrap (m1 : Int) = (m1 : Int) := IntWalk.i64_in _ (by omega)
  have w3 : IntKind.i64.wrap (q : Int) = (q : Int) := IntWalk.i64_in _ (by omega)
  have HM1 := Lib.hid hm1
  clear S hs hT hm hq hB hm1
  go_enter Tryd.func91, Tryd.ntmps91
  go_wp2
  go_loopw [11] (fun t wr => ∃ (k : Nat) (z : Int) (d1 : Array Nat), k ≤ q + 1 ∧ t = .int .i64 z ∧ z = (k : Int) - 1 ∧ SrtW wb P n w d1 wr ∧ heapBuild (ltc cf) m a k d1 = B) (fun t _ => (intOf t + 1).toNat)
  case atStart => exact ⟨q + 1, q, d, by omega, rfl, by omega, HW.out, HB.out⟩
  case round =>
    clear HB HW
    obtain ⟨k, z, d1, hk, rfl, hz, hW, hO⟩ := hrel
    have HW := Lib.hid hW
    have HO := Lib.hid hO
    clear hW hO
    rcases k with _ | j
    · obtain rfl : z = -1 := by omega
      have HE : Hid (d1 = B) := HO
      clear hz
      go_wp2
      have HT2 : Hid (heapPop (ltc cf) a m d1 = T) := Lib.hid (by rw [HE.out]; exact HT.out)
      clear HO HE HT
      go_loopw [12] (fun t wr => ∃ (k : Nat) (z : Int) (d1 : Array Nat), k ≤ m ∧ t = .int .i64 z ∧ z = (k : Int) - 1 ∧ SrtW wb P n w d1 wr ∧ heapPop (ltc cf) a k d1 = T) (fun t _ => (intOf t + 1).toNat)
      case atStart => exact ⟨m, m1, d1, by omega, rfl, by omega, HW.out, HT2.out⟩
      case round =>
        clear HT2 HW
        obtain ⟨k, z, d1, hk, rfl, hz, hW, hO⟩ := hrel
        have HW := Lib.hid hW
        have HO := Lib.hid hO
        clear hW hO
        rcases k with _ | j
        · obtain rfl : z = -1 := by omega
          have HE : Hid (d1 = T) := HO
          clear hz
          go_wp2
          go_end0
          exact ⟨rfl, by rw [← HE.out]; exact HW.out⟩
        · obtain rfl : z = (j : Int) := by omega
          have hdt : decide ((0 : Int) ≤ (j : Int)) = true := by simp
          obtain ⟨ij, hij⟩ : ∃ ij, a + j = ij := ⟨_, rfl⟩
          have HIj := Lib.hid hij
          have eij : (a : Int) + (j : Int) = (ij : Int) := by omega
          have han : a < n := by omega
          have hijn : ij < n := by omega
          have wij : IntKind.i64.wrap (ij : Int) = (ij : Int) := IntWalk.i64_in _ (by omega)
          have hjk : a + j ≤ n := by omega
          have HO2 : Hid (heapPop (ltc cf) a j (siftDown (ltc cf) j a 0 (swp d1 a ij)) = T) := Lib.hid (by rw [← hij]; exact HO.out)
          clear hij hz HO
          have c1 := HW.out.cell (a) han
          have c2 := HW.out.cell (ij) hijn
          have c3 := HW.out.cell3 (a) (ij) han hijn
          have f1 := HW.out.frozen (a)
          have f2 := HW.out.frozen (ij)
          have HW5 := Lib.hid (HW.out.swap (a) (ij) han hijn)
          obtain ⟨x, hx⟩ : ∃ x, d1[a]! = x := ⟨_, rfl⟩
          obtain ⟨y, hy⟩ : ∃ y, d1[ij]! = y := ⟨_, rfl⟩
          rw [hx, hy] at HW5
          rw [hx] at c1
          rw [hy] at c2 c3
          clear hx hy
          go_wp2
          go_big_region_o
          clear c1 c2 c3 f1 f2 HW
          generalize ((wr.setCell ⟨P, a, none⟩ (.int .i64 (y : Int))).setCell ⟨P, ij, none⟩ (.int .i64 (x : Int))).drew = w5 at HW5 ⊢

          obtain ⟨d2, hd2⟩ : ∃ d2, swp d1 a ij = d2 := ⟨_, rfl⟩
          rw [hd2] at HW5 HO2
          have HC := Lib.hid (HSi.out _ _ HW5.out.start 0 j hjk (by omega))
          clear hd2
          go_wp2_with fail
          refine HC.out.mono ?_
          rintro e w6 ⟨rfl, h6⟩
          have HW6 := Lib.hid (HW5.out.trans h6)
          clear h6 HC HW5
          go_wp2
          go_roundw
          case rel => exact ⟨j, (j : Int) - 1, _, by omega, by first | rfl | go_num, rfl, HW6.out, HO2.out⟩
          case measure => simp [intOf]
    · obtain rfl : z = (j : Int) := by omega
      have hdt : decide ((0 : Int) ≤ (j : Int)) = true := by simp
      have HO2 : Hid (heapBuild (ltc cf) m a j (siftDown (ltc cf) m a j d1) = B) := HO
      have HC := Lib.hid (HSi.out _ _ HW.out.start j m hmn (by omega))
      clear HO hz
      go_wp2_with fail
      refine HC.out.mono ?_
      rintro e w6 ⟨rfl, h6⟩
      have HW6 := Lib.hid (HW.out.trans h6)
      clear h6 HC HW
      go_wp2
      go_roundw
      case rel => exact ⟨j, (j : Int) - 1, _, by omega, by first | rfl | go_num, rfl, HW6.out, HO2.out⟩
      case measure => simp [intOf]
end Go.Proofs.YtchjijifmjbgoaaDoor.Tn
