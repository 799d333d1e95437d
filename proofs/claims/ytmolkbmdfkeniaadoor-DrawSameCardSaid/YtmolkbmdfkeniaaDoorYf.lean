import Derived.Test.YtmolkbmdfkeniaaDoorYd
-- from Yf
namespace Go.Proofs.YtmolkbmdfkeniaaDoor.Tn
set_option maxRecDepth 100000
open Go.ChangeShapes Go.WideShapes Go.ChangeAt Go.RowKit Go.Sort Go.Proofs.YtmolkbmdfkeniaaDoor.Fx Go.Proofs.YtmolkbmdfkeniaaDoor.Rf
set_option maxHeartbeats 16000000 in
theorem part_any {wb : World} {g : FuncId} {recv : Value} {n : Nat} {cf : Nat → Nat → Int} (S : Srt wb g recv n cf) (w : World) (P : Nat) (d : Array Nat) (hs : SrtW wb P n w d w) (a b : Nat) (hab : a < b) (hb : b ≤ n) :
    Calls Tryd.prog 90 #[.slice (some ⟨P, 0, none⟩) n n, .int .i64 a, .int .i64 b, .func (.func g) #[recv] #[]] w fun e w' => e = .returned (.bool (partialInsertionSort (ltc cf) d a b).2) ∧ SrtW wb P n w (partialInsertionSort (ltc cf) d a b).1 w' := by
  have HS := Lib.hid S
  have mixed : Tryd.prog.follows Departure.mixedOrders = true := by kernel_rfl
  have hn := S.le
  have eg := S.eg
  have HW : Hid (SrtW wb P n w d w) := hs
  obtain ⟨T, hT⟩ : ∃ T, partialInsertionSort (ltc cf) d a b = T := ⟨_, rfl⟩
  rw [hT]
  obtain ⟨T1, T2⟩ := T
  have HT : Hid (partialIns (ltc cf) a b 5 (a + 1) d = (T1, T2)) := hT
  obtain ⟨m, hm⟩ : ∃ m, b - a = m := ⟨_, rfl⟩
  have HM := Lib.hid hm
  have em : (b : Int) - (a : Int) = (m : Int) := by omega
  have wm : IntKind.i64.wrap (m : Int) = (m : Int) := IntWalk.i64_in _ (by omega)
  clear S hs hT hm
  dsimp only
  go_enter Tryd.func90, Tryd.ntmps90
  go_wp2
  go_loopw [9, 10] (fun t u wr => ∃ (i s c : Nat) (d1 : Array Nat), a + 1 ≤ i ∧ i ≤ b ∧ c + s = 5 ∧ t = .int .i64 i ∧ u = .int .i64 c ∧ SrtW wb P n w d1 wr ∧ partialIns (ltc cf) a b s i d1 = (T1, T2)) (fun _ u _ => 5 - (intOf u).toNat)
  case atStart => exact ⟨a + 1, 5, 0, d, by omega, by omega, rfl, by first | rfl | go_num, rfl, HW.out, HT.out⟩
  case round =>
    clear HT HW
    obtain ⟨i, s, c, d1, hi1, hi2, hcs, rfl, rfl, hW, hO⟩ := hrel
    have HW := Lib.hid hW
    have HO := Lib.hid hO
    clear hW hO
    rcases s with _ | s
    · obtain rfl : c = 5 := by omega
      have HE1 : Hid (d1 = T1) := Lib.hid (congrArg Prod.fst HO.out)
      have HE2 : Hid (false = T2) := Lib.hid (congrArg Prod.snd HO.out)
      clear HO hcs
      go_wp2
      (try simp only [Exit.inBlock, Exit.then])
      go_ret
      exact ⟨by rw [← HE2.out]; rfl, by rw [← HE1.out]; exact HW.out⟩
    · have hdc : decide ((c : Int) < 5) = true := by simp; omega
      have HO2 : Hid (iScan (ltc cf) a b s (scanSorted (ltc cf) d1 b i) d1 = (T1, T2)) := Lib.hid (by rw [← ins_scan]; exact HO.out)
      have hcs1 : c + s ≤ 4 := by omega
      have hcs2 : 4 ≤ c + s := by omega
      clear HO hcs
      go_wp2
      go_loopw [9] (fun t wr => ∃ i : Nat, a + 1 ≤ i ∧ i ≤ b ∧ t = .int .i64 i ∧ SrtW wb P n w d1 wr ∧ iScan (ltc cf) a b s (scanSorted (ltc cf) d1 b i) d1 = (T1, T2)) (fun t _ => b - (intOf t).toNat)
      case atStart => exact ⟨i, by omega, by omega, rfl, HW.out, HO2.out⟩
      case round =>
        clear HO2 HW hi1 hi2
        obtain ⟨i, hi1, hi2, rfl, hW, hO⟩ := hrel
        have HW := Lib.hid hW
        have HO := Lib.hid hO
        clear hW hO
        by_cases hib : i < b
        · have hdi : decide ((i : Int) < (b : Int)) = true := by simp; omega
          have hdi2 : decide (i < b) = true := by simpa using hib
          obtain ⟨k, hk⟩ : ∃ k, i = k + 1 := ⟨i - 1, by omega⟩
          have ek : (i : Int) - 1 = (k : Int) := by omega
          have wk : IntKind.i64.wrap (k : Int) = (k : Int) := IntWalk.i64_in _ (by omega)
          have hin : i < n := by omega
          have hkn : k < n := by omega
          have hik : i - 1 = k := by omega
          have hak : a ≤ k := by omega
          have hki : k + 1 ≤ i := by omega
          have hki2 : i ≤ k + 1 := by omega
          clear hk
          have q1 := cell_regrown (HW.out.cell (i) hin)
          have q2 := cell_regrown (HW.out.cell (k) hkn)
          have qc := fun q os => HS.out.at_ HW.out (i) (k) hin hkn q os
          by_cases hlt2 : cf d1[i]! d1[k]! < 0
          · have hd : decide (cf d1[i]! d1[k]! < 0) = true := by simpa using hlt2
            have HD : Hid (ltc cf d1[i]! d1[k]! = true) := Lib.hid hd
            obtain ⟨x, hx⟩ : ∃ x, d1[i]! = x := ⟨_, rfl⟩
            obtain ⟨y, hy⟩ : ∃ y, d1[k]! = y := ⟨_, rfl⟩
            rw [hx, hy] at qc hd
            rw [hx] at q1
            rw [hy] at q2
            clear hx hy hlt2 
            go_wp2
            refine wp_region_quiet_below (by kernel_rfl) (by kernel_rfl) ?_
            repeat (quiet_step (exact qc _ _))
            refine wpQuiet_nil ?_
            intro _ hw'
            obtain ⟨⟨dq, osq⟩, hw''⟩ := hw'
            subst hw''
            have HW2 := Lib.hid (HW.out.regrown dq osq)
            generalize grow (redrawn wr dq) osq = w2 at HW2  ⊢
            clear q1 q2 qc HW
            have HO2 : Hid (iScan (ltc cf) a b s i d1 = (T1, T2)) := Lib.hid (by
              have h0 := sorted_stop (lt := ltc cf) (d := d1) (b := b) (i := i) (fun _ => by rw [hik]; exact HD.out)
              have h1 := HO.out
              rw [h0] at h1
              exact h1)
            clear HO HD
            have hne : decide ((i : Int) = (b : Int)) = false := by simp; omega
            have hne2 : decide (i = b) = false := by simp; omega
            have hne3 : ((i : Int) == (b : Int)) = false := by simp; omega
            by_cases h50 : m < 50
            · have hd50 : decide ((m : Int) < 50) = true := by simp; omega
              have HE : Hid ((d1, false) = (T1, T2)) := Lib.hid (by rw [← HO2.out, iScan_few (by omega) (by rw [HM.out]; exact h50)])
              have HE1 : Hid (d1 = T1) := Lib.hid (congrArg Prod.fst HE.out)
              have HE2 : Hid (false = T2) := Lib.hid (congrArg Prod.snd HE.out)
              clear HE HO2
              go_wp2
              (try simp only [Exit.inBlock, Exit.then])
              go_ret
              exact ⟨by rw [← HE2.out]; rfl, by rw [← HE1.out]; exact HW2.out⟩
            · have hd50 : decide ((m : Int) < 50) = false := by simp; omega
              have HO : Hid (iSwp (ltc cf) a b s i (swp d1 i k) = (T1, T2)) := Lib.hid (by
                have h0 := iScan_go (lt := ltc cf) (a := a) (b := b) (s := s) (i := i) (d := d1) (by omega) (by rw [HM.out]; exact h50)
                rw [hik] at h0
                rw [← h0]
                exact HO2.out)
              clear HO2
              have c1 := HW2.out.cell (i) hin
              have c2 := HW2.out.cell (k) hkn
              have c3 := HW2.out.cell3 (i) (k) hin hkn
              have f1 := HW2.out.frozen (i)
              have f2 := HW2.out.frozen (k)
              have HW3 := Lib.hid (HW2.out.swap (i) (k) hin hkn)
              obtain ⟨x, hx⟩ : ∃ x, d1[i]! = x := ⟨_, rfl⟩
              obtain ⟨y, hy⟩ : ∃ y, d1[k]! = y := ⟨_, rfl⟩
              rw [hx, hy] at HW3 
              rw [hx] at c1
              rw [hy] at c2 c3
              clear hx hy
              go_wp2
              go_big_region_o
              clear c1 c2 c3 f1 f2 HW2
              generalize ((w2.setCell ⟨P, i, none⟩ (.int .i64 (y : Int))).setCell ⟨P, k, none⟩ (.int .i64 (x : Int))).drew = w3 at HW3  ⊢

              obtain ⟨d2, hd2⟩ : ∃ d2, swp d1 i k = d2 := ⟨_, rfl⟩
              rw [hd2] at HO HW3
              clear hd2
              obtain ⟨ia, hia⟩ : ∃ ia, i - a = ia := ⟨_, rfl⟩
              obtain ⟨bi, hbi0⟩ : ∃ bi, b - i = bi := ⟨_, rfl⟩
              have eia : (i : Int) - (a : Int) = (ia : Int) := by omega
              have ebi : (b : Int) - (i : Int) = (bi : Int) := by omega
              have wia : IntKind.i64.wrap (ia : Int) = (ia : Int) := IntWalk.i64_in _ (by omega)
              have wbi : IntKind.i64.wrap (bi : Int) = (bi : Int) := IntWalk.i64_in _ (by omega)
              have HIa := Lib.hid hia
              have HBi := Lib.hid hbi0
              clear hia hbi0
              go_upto_if 65 with fail
              go_cut [] from 15 to 140 (fun wc => ∃ d3, SrtW wb P n w d3 wc ∧ iUp (ltc cf) a b s i d3 = (T1, T2))
              case first =>
                by_cases hi2 : 2 ≤ ia
                · have hdi : decide ((2 : Int) ≤ (ia : Int)) = true := by simp; omega
                  rw [hdi]
                  have HO2 : Hid (iUp (ltc cf) a b s i (shiftDown (ltc cf) k d2) = (T1, T2)) := Lib.hid (by
                    have h0 := iSwp_yes (lt := ltc cf) (a := a) (b := b) (s := s) (i := i) (d := d2) (by have := HIa.out; omega)
                    rw [hik] at h0
                    rw [← h0]
                    exact HO.out)
                  clear HO
                  go_wp2
                  go_loopw [11] (fun t wr => ∃ (j : Nat) (d3 : Array Nat), j ≤ k ∧ t = .int .i64 j ∧ SrtW wb P n w d3 wr ∧ iUp (ltc cf) a b s i (shiftDown (ltc cf) j d3) = (T1, T2)) (fun t _ => (intOf t).toNat)
                  case atStart => exact ⟨k, d2, by omega, by first | rfl | go_num, HW3.out, HO2.out⟩
                  case round =>
                    clear HO2 HW3
                    obtain ⟨j, d3, hj1, rfl, hW, hO⟩ := hrel
                    have HW := Lib.hid hW
                    have HO := Lib.hid hO
                    clear hW hO
                    rcases j with _ | l
                    · have HO2 : Hid (iUp (ltc cf) a b s i d3 = (T1, T2)) := HO
                      clear HO
                      have HO := HO2
                      clear HO2
                      go_wp2
                      go_meet
                      case rel => exact ⟨d3, HW.out, HO.out⟩
                    · obtain ⟨j, hj⟩ : ∃ j, l + 1 = j := ⟨_, rfl⟩
                      have el0 : ((l + 1 : Nat) : Int) = (j : Int) := by omega
                      have hjn : j < n := by omega
                      have hln : l < n := by omega
                      have hd1 : decide ((1 : Int) ≤ (j : Int)) = true := by simp; omega
                      have el : (j : Int) - 1 = (l : Int) := by omega
                      have wl : IntKind.i64.wrap (l : Int) = (l : Int) := IntWalk.i64_in _ (by omega)
                      rw [hj] at HO ⊢
                      have HJ := Lib.hid hj
                      clear el0 hj
                      have q1 := cell_regrown (HW.out.cell (j) hjn)
                      have q2 := cell_regrown (HW.out.cell (l) hln)
                      have qc := fun q os => HS.out.at_ HW.out (j) (l) hjn hln q os
                      by_cases hlt2 : cf d3[j]! d3[l]! < 0
                      · have hd : decide (cf d3[j]! d3[l]! < 0) = true := by simpa using hlt2
                        have HD : Hid (ltc cf d3[j]! d3[l]! = true) := Lib.hid hd
                        obtain ⟨x, hx⟩ : ∃ x, d3[j]! = x := ⟨_, rfl⟩
                        obtain ⟨y, hy⟩ : ∃ y, d3[l]! = y := ⟨_, rfl⟩
                        rw [hx, hy] at qc hd
                        rw [hx] at q1
                        rw [hy] at q2
                        clear hx hy hlt2 
                        go_wp2
                        refine wp_region_quiet_below (by kernel_rfl) (by kernel_rfl) ?_
                        repeat (quiet_step (exact qc _ _))
                        refine wpQuiet_nil ?_
                        intro _ hw'
                        obtain ⟨⟨dq, osq⟩, hw''⟩ := hw'
                        subst hw''
                        have HW6 := Lib.hid (HW.out.regrown dq osq)
                        generalize grow (redrawn wr dq) osq = w6 at HW6  ⊢
                        clear q1 q2 qc HW
                        have HO2 : Hid (iUp (ltc cf) a b s i (shiftDown (ltc cf) l (swp d3 j l)) = (T1, T2)) := Lib.hid (by
                          have h1 := HD.out
                          have h2 := HO.out
                          rw [← HJ.out] at h1 h2 ⊢
                          rw [← down_go (lt := ltc cf) h1]
                          exact h2)
                        clear HO HD
                        have c1 := HW6.out.cell (j) hjn
                        have c2 := HW6.out.cell (l) hln
                        have c3 := HW6.out.cell3 (j) (l) hjn hln
                        have f1 := HW6.out.frozen (j)
                        have f2 := HW6.out.frozen (l)
                        have HW7 := Lib.hid (HW6.out.swap (j) (l) hjn hln)
                        obtain ⟨x, hx⟩ : ∃ x, d3[j]! = x := ⟨_, rfl⟩
                        obtain ⟨y, hy⟩ : ∃ y, d3[l]! = y := ⟨_, rfl⟩
                        rw [hx, hy] at HW7 
                        rw [hx] at c1
                        rw [hy] at c2 c3
                        clear hx hy
                        go_wp2
                        go_big_region_o
                        clear c1 c2 c3 f1 f2 HW6
                        generalize ((w6.setCell ⟨P, j, none⟩ (.int .i64 (y : Int))).setCell ⟨P, l, none⟩ (.int .i64 (x : Int))).drew = w7 at HW7  ⊢

                        go_wp2
                        go_roundw
                        case rel => exact ⟨l, _, by have := HJ.out; omega, by first | rfl | go_num, HW7.out, HO2.out⟩
                        case measure => have := HJ.out; simp [intOf]; omega
                      · have hd : decide (cf d3[j]! d3[l]! < 0) = false := by simpa using hlt2
                        have HD : Hid (ltc cf d3[j]! d3[l]! = false) := Lib.hid hd
                        obtain ⟨x, hx⟩ : ∃ x, d3[j]! = x := ⟨_, rfl⟩
                        obtain ⟨y, hy⟩ : ∃ y, d3[l]! = y := ⟨_, rfl⟩
                        rw [hx, hy] at qc hd
                        rw [hx] at q1
                        rw [hy] at q2
                        clear hx hy hlt2 
                        go_wp2
                        refine wp_region_quiet_below (by kernel_rfl) (by kernel_rfl) ?_
                        repeat (quiet_step (exact qc _ _))
                        refine wpQuiet_nil ?_
                        intro _ hw'
                        obtain ⟨⟨dq, osq⟩, hw''⟩ := hw'
                        subst hw''
                        have HW6 := Lib.hid (HW.out.regrown dq osq)
                        generalize grow (redrawn wr dq) osq = w6 at HW6  ⊢
                        clear q1 q2 qc HW
                        have HO2 : Hid (iUp (ltc cf) a b s i d3 = (T1, T2)) := Lib.hid (by
                          have h1 := HD.out
                          have h2 := HO.out
                          rw [← HJ.out] at h1 h2
                          rw [down_stop (lt := ltc cf) h1] at h2
                          exact h2)
                        clear HO HD
                        have HO := HO2
                        clear HO2
                        go_wp2
                        go_meet
                        case rel => exact ⟨d3, HW6.out, HO.out⟩
                · have hdi : decide ((2 : Int) ≤ (ia : Int)) = false := by simp; omega
                  rw [hdi]
                  have HO2 : Hid (iUp (ltc cf) a b s i d2 = (T1, T2)) := Lib.hid (by
                    rw [← iSwp_no (d := d2) (by have := HIa.out; omega)]
                    exact HO.out)
                  clear HO
                  have HO := HO2
                  clear HO2
                  go_wp2
                  go_meet
                  case rel => exact ⟨d2, HW3.out, HO.out⟩
              case rest =>
                clear HW3 HO
                obtain ⟨d3, hW, hO⟩ := hcut
                have HW := Lib.hid hW
                have HO := Lib.hid hO
                clear hW hO
                by_cases hbi : 2 ≤ bi
                · have hdb : decide ((2 : Int) ≤ (bi : Int)) = true := by simp; omega
                  have HO2 : Hid (partialIns (ltc cf) a b s i (shiftUp (ltc cf) b (i + 1) d3) = (T1, T2)) := Lib.hid (by
                    rw [← iUp_yes (by have := HBi.out; omega)]
                    exact HO.out)
                  clear HO
                  go_wp2
                  go_loopw [12] (fun t wr => ∃ (j : Nat) (d4 : Array Nat), i + 1 ≤ j ∧ j ≤ b ∧ t = .int .i64 j ∧ SrtW wb P n w d4 wr ∧ partialIns (ltc cf) a b s i (shiftUp (ltc cf) b j d4) = (T1, T2)) (fun t _ => b - (intOf t).toNat)
                  case atStart => exact ⟨i + 1, d3, by omega, by omega, by first | rfl | go_num, HW.out, HO2.out⟩
                  case round =>
                    clear HO2 HW
                    obtain ⟨j, d4, hj1, hj2, rfl, hW, hO⟩ := hrel
                    have HW := Lib.hid hW
                    have HO := Lib.hid hO
                    clear hW hO
                    by_cases hjb : j < b
                    · have hdj : decide ((j : Int) < (b : Int)) = true := by simp; omega
                      have hdj2 : decide (j < b) = true := by simpa using hjb
                      obtain ⟨l, hl⟩ : ∃ l, j = l + 1 := ⟨j - 1, by omega⟩
                      have el : (j : Int) - 1 = (l : Int) := by omega
                      have wl : IntKind.i64.wrap (l : Int) = (l : Int) := IntWalk.i64_in _ (by omega)
                      have hjn : j < n := by omega
                      have hln : l < n := by omega
                      have hj1 : j - 1 = l := by omega
                      have hil : i ≤ l := by omega
                      clear hl
                      have q1 := cell_regrown (HW.out.cell (j) hjn)
                      have q2 := cell_regrown (HW.out.cell (l) hln)
                      have qc := fun q os => HS.out.at_ HW.out (j) (l) hjn hln q os
                      by_cases hlt2 : cf d4[j]! d4[l]! < 0
                      · have hd : decide (cf d4[j]! d4[l]! < 0) = true := by simpa using hlt2
                        have HD : Hid (ltc cf d4[j]! d4[l]! = true) := Lib.hid hd
                        obtain ⟨x, hx⟩ : ∃ x, d4[j]! = x := ⟨_, rfl⟩
                        obtain ⟨y, hy⟩ : ∃ y, d4[l]! = y := ⟨_, rfl⟩
                        rw [hx, hy] at qc hd
                        rw [hx] at q1
                        rw [hy] at q2
                        clear hx hy hlt2 
                        go_wp2
                        refine wp_region_quiet_below (by kernel_rfl) (by kernel_rfl) ?_
                        repeat (quiet_step (exact qc _ _))
                        refine wpQuiet_nil ?_
                        intro _ hw'
                        obtain ⟨⟨dq, osq⟩, hw''⟩ := hw'
                        subst hw''
                        have HW6 := Lib.hid (HW.out.regrown dq osq)
                        generalize grow (redrawn wr dq) osq = w6 at HW6  ⊢
                        clear q1 q2 qc HW
                        have HO2 : Hid (partialIns (ltc cf) a b s i (shiftUp (ltc cf) b (j + 1) (swp d4 j l)) = (T1, T2)) := Lib.hid (by
                          have h0 := up_go (lt := ltc cf) hjb (by rw [hj1]; exact HD.out)
                          rw [hj1] at h0
                          rw [← h0]
                          exact HO.out)
                        clear HO HD hj1
                        have c1 := HW6.out.cell (j) hjn
                        have c2 := HW6.out.cell (l) hln
                        have c3 := HW6.out.cell3 (j) (l) hjn hln
                        have f1 := HW6.out.frozen (j)
                        have f2 := HW6.out.frozen (l)
                        have HW7 := Lib.hid (HW6.out.swap (j) (l) hjn hln)
                        obtain ⟨x, hx⟩ : ∃ x, d4[j]! = x := ⟨_, rfl⟩
                        obtain ⟨y, hy⟩ : ∃ y, d4[l]! = y := ⟨_, rfl⟩
                        rw [hx, hy] at HW7 
                        rw [hx] at c1
                        rw [hy] at c2 c3
                        clear hx hy
                        go_wp2
                        go_big_region_o
                        clear c1 c2 c3 f1 f2 HW6
                        generalize ((w6.setCell ⟨P, j, none⟩ (.int .i64 (y : Int))).setCell ⟨P, l, none⟩ (.int .i64 (x : Int))).drew = w7 at HW7  ⊢

                        go_wp2
                        go_roundw
                        case rel => exact ⟨j + 1, _, by omega, by omega, by first | rfl | go_num, HW7.out, HO2.out⟩
                        case measure => simp [intOf]; omega
                      · have hd : decide (cf d4[j]! d4[l]! < 0) = false := by simpa using hlt2
                        have HD : Hid (ltc cf d4[j]! d4[l]! = false) := Lib.hid hd
                        obtain ⟨x, hx⟩ : ∃ x, d4[j]! = x := ⟨_, rfl⟩
                        obtain ⟨y, hy⟩ : ∃ y, d4[l]! = y := ⟨_, rfl⟩
                        rw [hx, hy] at qc hd
                        rw [hx] at q1
                        rw [hy] at q2
                        clear hx hy hlt2 
                        go_wp2
                        refine wp_region_quiet_below (by kernel_rfl) (by kernel_rfl) ?_
                        repeat (quiet_step (exact qc _ _))
                        refine wpQuiet_nil ?_
                        intro _ hw'
                        obtain ⟨⟨dq, osq⟩, hw''⟩ := hw'
                        subst hw''
                        have HW6 := Lib.hid (HW.out.regrown dq osq)
                        generalize grow (redrawn wr dq) osq = w6 at HW6  ⊢
                        clear q1 q2 qc HW
                        have HO2 : Hid (partialIns (ltc cf) a b s i d4 = (T1, T2)) := Lib.hid (by
                          rw [← up_stop (lt := ltc cf) (d := d4) hjb (by rw [hj1]; exact HD.out)]
                          exact HO.out)
                        clear HO HD hj1
                        have HO := HO2
                        go_wp2
                        go_roundw
                        case rel => exact ⟨i, s, c + 1, d4, by omega, by omega, by omega, rfl, by first | rfl | go_num, HW6.out, HO.out⟩
                        case measure => simp [intOf]; omega
                    · have hdj : decide ((j : Int) < (b : Int)) = false := by simp; omega
                      have hdj2 : decide (j < b) = false := by simp; omega
                      have HO2 : Hid (partialIns (ltc cf) a b s i d4 = (T1, T2)) := Lib.hid (by
                        rw [← up_end (lt := ltc cf) (d := d4) hjb]
                        exact HO.out)
                      clear HO
                      have HO := HO2
                      go_wp2
                      go_roundw
                      case rel => exact ⟨i, s, c + 1, d4, by omega, by omega, by omega, rfl, by first | rfl | go_num, HW.out, HO.out⟩
                      case measure => simp [intOf]; omega
                · have hdb : decide ((2 : Int) ≤ (bi : Int)) = false := by simp; omega
                  have HO2 : Hid (partialIns (ltc cf) a b s i d3 = (T1, T2)) := Lib.hid (by
                    rw [← iUp_no (d := d3) (by have := HBi.out; omega)]
                    exact HO.out)
                  clear HO
                  have HO := HO2
                  go_wp2
                  go_roundw
                  case rel => exact ⟨i, s, c + 1, d3, by omega, by omega, by omega, rfl, by first | rfl | go_num, HW.out, HO.out⟩
                  case measure => simp [intOf]; omega
          · have hd : decide (cf d1[i]! d1[k]! < 0) = false := by simpa using hlt2
            have HD : Hid (ltc cf d1[i]! d1[k]! = false) := Lib.hid hd
            obtain ⟨x, hx⟩ : ∃ x, d1[i]! = x := ⟨_, rfl⟩
            obtain ⟨y, hy⟩ : ∃ y, d1[k]! = y := ⟨_, rfl⟩
            rw [hx, hy] at qc hd
            rw [hx] at q1
            rw [hy] at q2
            clear hx hy hlt2 
            go_wp2
            refine wp_region_quiet_below (by kernel_rfl) (by kernel_rfl) ?_
            repeat (quiet_step (exact qc _ _))
            refine wpQuiet_nil ?_
            intro _ hw'
            obtain ⟨⟨dq, osq⟩, hw''⟩ := hw'
            subst hw''
            have HW2 := Lib.hid (HW.out.regrown dq osq)
            generalize grow (redrawn wr dq) osq = w2 at HW2  ⊢
            clear q1 q2 qc HW
            have HO2 : Hid (iScan (ltc cf) a b s (scanSorted (ltc cf) d1 b (i + 1)) d1 = (T1, T2)) := Lib.hid (by
              rw [← sorted_go (lt := ltc cf) (d := d1) hib (by rw [hik]; exact HD.out)]
              exact HO.out)
            clear HO HD
            go_wp2
            go_roundw
            case rel => exact ⟨i + 1, by omega, by omega, by first | rfl | go_num, HW2.out, HO2.out⟩
            case measure => simp [intOf]; omega
        · have hdi : decide ((i : Int) < (b : Int)) = false := by simp; omega
          have hdi2 : decide (i < b) = false := by simp; omega
          obtain rfl : i = b := by omega
          have HE : Hid ((d1, true) = (T1, T2)) := Lib.hid (by
            have h1 := HO.out
            rw [sorted_stop (fun h => absurd h hib), iScan_b rfl] at h1
            exact h1)
          have HE1 : Hid (d1 = T1) := Lib.hid (congrArg Prod.fst HE.out)
          have HE2 : Hid (true = T2) := Lib.hid (congrArg Prod.snd HE.out)
          clear HE HO
          go_wp2
          go_big_region_o
          have HW2 := Lib.hid HW.out.drew
          generalize wr.drew = w2 at HW2 ⊢
          clear HW
          go_wp2
          (try simp only [Exit.inBlock, Exit.then])
          go_ret
          exact ⟨by rw [← HE2.out]; rfl, by rw [← HE1.out]; exact HW2.out⟩
end Go.Proofs.YtmolkbmdfkeniaaDoor.Tn
-- from Yg
namespace Go.Proofs.YtmolkbmdfkeniaaDoor.Tn
set_option maxRecDepth 100000
open Go.ChangeShapes Go.WideShapes Go.ChangeAt Go.RowKit Go.Sort Go.Proofs.YtmolkbmdfkeniaaDoor.Fx Go.Proofs.YtmolkbmdfkeniaaDoor.Rf
set_option maxHeartbeats 16000000 in
theorem parteq_any {wb : World} {g : FuncId} {recv : Value} {n : Nat} {cf : Nat → Nat → Int} (S : Srt wb g recv n cf) (w : World) (P : Nat) (d : Array Nat) (hs : SrtW wb P n w d w) (a b p : Nat) (hab : a < b) (hb : b ≤ n) (_hp1 : a ≤ p) (hp2 : p < b) :
    Calls Tryd.prog 91 #[.slice (some ⟨P, 0, none⟩) n n, .int .i64 a, .int .i64 b, .int .i64 p, .func (.func g) #[recv] #[]] w fun e w' => e = .returned (.int .i64 ((partitionEqual (ltc cf) d a b p).1 : Int)) ∧ SrtW wb P n w (partitionEqual (ltc cf) d a b p).2 w' := by
  have HS := Lib.hid S
  have mixed : Tryd.prog.follows Departure.mixedOrders = true := by kernel_rfl
  have hn := S.le
  have eg := S.eg
  have HW : Hid (SrtW wb P n w d w) := hs
  obtain ⟨T, hT⟩ : ∃ T, partitionEqual (ltc cf) d a b p = T := ⟨_, rfl⟩
  rw [hT]
  obtain ⟨T1, T2⟩ := T
  obtain ⟨b1, hb1⟩ : ∃ b1, b1 + 1 = b := ⟨b - 1, by omega⟩
  have HT : Hid (partEqLoop (ltc cf) a (a + 1) b1 (swp d a p) = (T1, T2)) := Lib.hid (by rw [← hT, show b1 = b - 1 by omega]; rfl)
  have eb : (b : Int) - 1 = (b1 : Int) := by omega
  have wb1 : IntKind.i64.wrap (b1 : Int) = (b1 : Int) := IntWalk.i64_in _ (by omega)
  have han : a < n := by omega
  have hpn : p < n := by omega
  have hb1b : b1 < b := by omega
  have hab1 : a ≤ b1 := by omega
  clear S hs hT hb1
  dsimp only
  go_enter Tryd.func91, Tryd.ntmps91
  have c1 := HW.out.cell (a) han
  have c2 := HW.out.cell (p) hpn
  have c3 := HW.out.cell3 (a) (p) han hpn
  have f1 := HW.out.frozen (a)
  have f2 := HW.out.frozen (p)
  have HW3 := Lib.hid (HW.out.swap (a) (p) han hpn)
  obtain ⟨x, hx⟩ : ∃ x, d[a]! = x := ⟨_, rfl⟩
  obtain ⟨y, hy⟩ : ∃ y, d[p]! = y := ⟨_, rfl⟩
  rw [hx, hy] at HW3 
  rw [hx] at c1
  rw [hy] at c2 c3
  clear hx hy
  go_wp2
  go_big_region_o
  clear c1 c2 c3 f1 f2 HW
  generalize ((w.setCell ⟨P, a, none⟩ (.int .i64 (y : Int))).setCell ⟨P, p, none⟩ (.int .i64 (x : Int))).drew = w3 at HW3  ⊢

  go_wp2
  go_loopw [11, 12] (fun t u wr => ∃ (i j : Nat) (d1 : Array Nat), a + 1 ≤ i ∧ i ≤ j + 2 ∧ a ≤ j ∧ j < b ∧ t = .int .i64 i ∧ u = .int .i64 j ∧ SrtW wb P n w d1 wr ∧ partEqLoop (ltc cf) a i j d1 = (T1, T2)) (fun t _ _ => b + 3 - (intOf t).toNat)
  case atStart => exact ⟨a + 1, b1, _, by omega, by omega, by omega, by omega, by first | rfl | go_num, by first | rfl | go_num, HW3.out, HT.out⟩
  case round =>
    clear HT HW3
    obtain ⟨i0, j, d1, hi01, hi02, hj1, hj2, rfl, rfl, hW, hO⟩ := hrel
    have HW := Lib.hid hW
    have HO : Hid (eUp (ltc cf) a (scanUp (fun x => !ltc cf d1[a]! x) d1 j i0) j d1 = (T1, T2)) := Lib.hid (by rw [← parteq_up]; exact hO)
    clear hW hO
    go_step
    go_step
    go_step
    go_cut [11] from 31 to 88 (fun s wc => ∃ i : Nat, i0 ≤ i ∧ i ≤ j + 2 ∧ s = .int .i64 i ∧ SrtW wb P n w d1 wc ∧ eUp (ltc cf) a i j d1 = (T1, T2))
    case first =>
      go_wp2
      go_loopw [11] (fun t wr => ∃ i : Nat, i0 ≤ i ∧ i ≤ j + 2 ∧ t = .int .i64 i ∧ SrtW wb P n w d1 wr ∧ eUp (ltc cf) a (scanUp (fun x => !ltc cf d1[a]! x) d1 j i) j d1 = (T1, T2)) (fun t _ => j + 3 - (intOf t).toNat)
      case atStart => exact ⟨i0, by omega, by omega, by first | rfl | go_num, HW.out, HO.out⟩
      case round =>
        clear HW HO
        obtain ⟨i, hi1, hi2, rfl, hW, hO⟩ := hrel
        have HW := Lib.hid hW
        have HO := Lib.hid hO
        clear hW hO
        by_cases hij : i ≤ j
        · have hdt : decide ((i : Int) ≤ (j : Int)) = true := by simp; omega
          have hdt2 : decide (i ≤ j) = true := by simpa using hij
          have hin : i < n := by omega
          have q1 := cell_regrown (HW.out.cell (a) han)
          have q2 := cell_regrown (HW.out.cell (i) hin)
          have qc := fun q os => HS.out.at_ HW.out (a) (i) han hin q os
          by_cases hlt2 : cf d1[a]! d1[i]! < 0
          · have hd : decide (cf d1[a]! d1[i]! < 0) = true := by simpa using hlt2
            have HD : Hid (ltc cf d1[a]! d1[i]! = true) := Lib.hid hd
            obtain ⟨x, hx⟩ : ∃ x, d1[a]! = x := ⟨_, rfl⟩
            obtain ⟨y, hy⟩ : ∃ y, d1[i]! = y := ⟨_, rfl⟩
            rw [hx, hy] at qc hd
            rw [hx] at q1
            rw [hy] at q2
            clear hx hy hlt2 
            go_wp2
            refine wp_region_quiet_below (by kernel_rfl) (by kernel_rfl) ?_
            repeat (quiet_step (exact qc _ _))
            refine wpQuiet_nil ?_
            intro _ hw'
            obtain ⟨⟨dq, osq⟩, hw''⟩ := hw'
            subst hw''
            have HW2 := Lib.hid (HW.out.regrown dq osq)
            generalize grow (redrawn wr dq) osq = w2 at HW2  ⊢
            clear q1 q2 qc HW
            have HO2 : Hid (eUp (ltc cf) a i j d1 = (T1, T2)) := Lib.hid (by
              have h0 := HO.out
              rw [scanUp_stop (p := fun x => !ltc cf d1[a]! x) (d := d1) (fun _ => by show (!ltc cf d1[a]! d1[i]!) = false; rw [HD.out]; rfl)] at h0
              exact h0)
            clear HO HD
            go_wp2
            go_meet
            case rel => exact ⟨i, by omega, by omega, rfl, HW2.out, HO2.out⟩
          · have hd : decide (cf d1[a]! d1[i]! < 0) = false := by simpa using hlt2
            have HD : Hid (ltc cf d1[a]! d1[i]! = false) := Lib.hid hd
            obtain ⟨x, hx⟩ : ∃ x, d1[a]! = x := ⟨_, rfl⟩
            obtain ⟨y, hy⟩ : ∃ y, d1[i]! = y := ⟨_, rfl⟩
            rw [hx, hy] at qc hd
            rw [hx] at q1
            rw [hy] at q2
            clear hx hy hlt2 
            go_wp2
            refine wp_region_quiet_below (by kernel_rfl) (by kernel_rfl) ?_
            repeat (quiet_step (exact qc _ _))
            refine wpQuiet_nil ?_
            intro _ hw'
            obtain ⟨⟨dq, osq⟩, hw''⟩ := hw'
            subst hw''
            have HW2 := Lib.hid (HW.out.regrown dq osq)
            generalize grow (redrawn wr dq) osq = w2 at HW2  ⊢
            clear q1 q2 qc HW
            have HO2 : Hid (eUp (ltc cf) a (scanUp (fun x => !ltc cf d1[a]! x) d1 j (i + 1)) j d1 = (T1, T2)) := Lib.hid (by
              rw [← scanUp_go (p := fun x => !ltc cf d1[a]! x) (d := d1) hij (by show (!ltc cf d1[a]! d1[i]!) = true; rw [HD.out]; rfl)]
              exact HO.out)
            clear HO HD
            go_wp2
            go_roundw
            case rel => exact ⟨i + 1, by omega, by omega, by first | rfl | go_num, HW2.out, HO2.out⟩
            case measure => simp [intOf]; omega
        · have hdt : decide ((i : Int) ≤ (j : Int)) = false := by simp; omega
          have hdt2 : decide (i ≤ j) = false := by simp; omega
          have HO2 : Hid (eUp (ltc cf) a i j d1 = (T1, T2)) := Lib.hid (by
            have h0 := HO.out
            rw [scanUp_stop (p := fun x => !ltc cf d1[a]! x) (d := d1) (fun h => absurd h hij)] at h0
            exact h0)
          clear HO
          go_wp2
          go_big_region_o
          have HW2 := Lib.hid HW.out.drew
          generalize wr.drew = w2 at HW2 ⊢
          clear HW
          go_wp2
          go_meet
          case rel => exact ⟨i, by omega, by omega, rfl, HW2.out, HO2.out⟩
    case rest =>
    clear HW HO
    obtain ⟨i, hi1, hi2, rfl, hW, hO⟩ := hcut
    have HW := Lib.hid hW
    have HO : Hid (eDown (ltc cf) a i (scanDown (fun x => ltc cf d1[a]! x) d1 i j) d1 = (T1, T2)) := hO
    clear hW hO
    have hjj : i ≤ j + 2 := hi2
    obtain ⟨j0, hj0⟩ : ∃ j0, j = j0 := ⟨_, rfl⟩
    have hj0b : j0 < b := by omega
    rw [hj0] at HO hjj ⊢
    go_step
    go_step
    go_cut [12] from 31 to 88 (fun s wc => ∃ j : Nat, a ≤ j ∧ j ≤ j0 ∧ s = .int .i64 j ∧ SrtW wb P n w d1 wc ∧ eDown (ltc cf) a i j d1 = (T1, T2))
    case first =>
      go_wp2
      go_loopw [12] (fun t wr => ∃ j : Nat, a ≤ j ∧ j ≤ j0 ∧ t = .int .i64 j ∧ SrtW wb P n w d1 wr ∧ eDown (ltc cf) a i (scanDown (fun x => ltc cf d1[a]! x) d1 i j) d1 = (T1, T2)) (fun t _ => (intOf t).toNat)
      case atStart => exact ⟨j0, by omega, by omega, rfl, HW.out, HO.out⟩
      case round =>
        clear HW HO
        clear hj0
        clear hi2
        rename_i jx
        obtain ⟨j, hj1, hj2, rfl, hW, hO⟩ := hrel
        have HW := Lib.hid hW
        have HO := Lib.hid hO
        clear hW hO
        by_cases hij : i ≤ j
        · have hdt : decide ((i : Int) ≤ (j : Int)) = true := by simp; omega
          have hdt2 : decide (i ≤ j) = true := by simpa using hij
          have hjn : j < n := by omega
          obtain ⟨l, hl⟩ : ∃ l, l + 1 = j := ⟨j - 1, by omega⟩
          have HL := Lib.hid hl
          have el : (j : Int) - 1 = (l : Int) := by omega
          have wl : IntKind.i64.wrap (l : Int) = (l : Int) := IntWalk.i64_in _ (by omega)
          clear hl
          have q1 := cell_regrown (HW.out.cell (a) han)
          have q2 := cell_regrown (HW.out.cell (j) hjn)
          have qc := fun q os => HS.out.at_ HW.out (a) (j) han hjn q os
          by_cases hlt2 : cf d1[a]! d1[j]! < 0
          · have hd : decide (cf d1[a]! d1[j]! < 0) = true := by simpa using hlt2
            have HD : Hid (ltc cf d1[a]! d1[j]! = true) := Lib.hid hd
            obtain ⟨x, hx⟩ : ∃ x, d1[a]! = x := ⟨_, rfl⟩
            obtain ⟨y, hy⟩ : ∃ y, d1[j]! = y := ⟨_, rfl⟩
            rw [hx, hy] at qc hd
            rw [hx] at q1
            rw [hy] at q2
            clear hx hy hlt2 
            go_wp2
            refine wp_region_quiet_below (by kernel_rfl) (by kernel_rfl) ?_
            repeat (quiet_step (exact qc _ _))
            refine wpQuiet_nil ?_
            intro _ hw'
            obtain ⟨⟨dq, osq⟩, hw''⟩ := hw'
            subst hw''
            have HW2 := Lib.hid (HW.out.regrown dq osq)
            generalize grow (redrawn wr dq) osq = w2 at HW2  ⊢
            clear q1 q2 qc HW
            have HO2 : Hid (eDown (ltc cf) a i (scanDown (fun x => ltc cf d1[a]! x) d1 i l) d1 = (T1, T2)) := Lib.hid (by
              have h0 := scanDown_go (p := fun x => ltc cf d1[a]! x) (d := d1) (i := i) (j := l) (by have := HL.out; omega) (by show ltc cf d1[a]! d1[l + 1]! = true; rw [HL.out]; exact HD.out)
              rw [HL.out] at h0
              rw [← h0]
              exact HO.out)
            clear HO HD
            go_wp2
            go_roundw
            case rel => exact ⟨l, by have := HL.out; omega, by have := HL.out; omega, by first | rfl | go_num, HW2.out, HO2.out⟩
            case measure => have := HL.out; simp [intOf]; omega
          · have hd : decide (cf d1[a]! d1[j]! < 0) = false := by simpa using hlt2
            have HD : Hid (ltc cf d1[a]! d1[j]! = false) := Lib.hid hd
            obtain ⟨x, hx⟩ : ∃ x, d1[a]! = x := ⟨_, rfl⟩
            obtain ⟨y, hy⟩ : ∃ y, d1[j]! = y := ⟨_, rfl⟩
            rw [hx, hy] at qc hd
            rw [hx] at q1
            rw [hy] at q2
            clear hx hy hlt2 
            go_wp2
            refine wp_region_quiet_below (by kernel_rfl) (by kernel_rfl) ?_
            repeat (quiet_step (exact qc _ _))
            refine wpQuiet_nil ?_
            intro _ hw'
            obtain ⟨⟨dq, osq⟩, hw''⟩ := hw'
            subst hw''
            have HW2 := Lib.hid (HW.out.regrown dq osq)
            generalize grow (redrawn wr dq) osq = w2 at HW2  ⊢
            clear q1 q2 qc HW
            have HO2 : Hid (eDown (ltc cf) a i j d1 = (T1, T2)) := Lib.hid (by
              have h0 := HO.out
              rw [scanDown_stop (p := fun x => ltc cf d1[a]! x) (d := d1) (fun _ => by show ltc cf d1[a]! d1[j]! = false; exact HD.out)] at h0
              exact h0)
            clear HO HD
            go_wp2
            go_meet
            case rel => exact ⟨j, by omega, by omega, rfl, HW2.out, HO2.out⟩
        · have hdt : decide ((i : Int) ≤ (j : Int)) = false := by simp; omega
          have hdt2 : decide (i ≤ j) = false := by simp; omega
          have HO2 : Hid (eDown (ltc cf) a i j d1 = (T1, T2)) := Lib.hid (by
            have h0 := HO.out
            rw [scanDown_stop (p := fun x => ltc cf d1[a]! x) (d := d1) (fun h => absurd h hij)] at h0
            exact h0)
          clear HO
          go_wp2
          go_big_region_o
          have HW2 := Lib.hid HW.out.drew
          generalize wr.drew = w2 at HW2 ⊢
          clear HW
          go_wp2
          go_meet
          case rel => exact ⟨j, by omega, by omega, rfl, HW2.out, HO2.out⟩
    case rest =>
    clear HW HO
    clear hi2
    rename_i jx
    obtain ⟨j, hj3, hj4, rfl, hW, hO⟩ := hcut
    have HW := Lib.hid hW
    have HO := Lib.hid hO
    clear hW hO
    by_cases hji : j < i
    · have hdt : decide ((j : Int) < (i : Int)) = true := by simp; omega
      have hdt2 : decide (j < i) = true := by simpa using hji
      have HE : Hid ((i, d1) = (T1, T2)) := Lib.hid (by rw [← HO.out, eDown_end hji])
      have HE1 : Hid (i = T1) := Lib.hid (congrArg Prod.fst HE.out)
      have HE2 : Hid (d1 = T2) := Lib.hid (congrArg Prod.snd HE.out)
      clear HE HO
      go_wp2
      go_ret
      exact ⟨by rw [← HE1.out]; rfl, by rw [← HE2.out]; exact HW.out⟩
    · have hdt : decide ((j : Int) < (i : Int)) = false := by simp; omega
      have hdt2 : decide (j < i) = false := by simp; omega
      have hin : i < n := by omega
      have hjn : j < n := by omega
      obtain ⟨l, hl⟩ : ∃ l, l + 1 = j := ⟨j - 1, by omega⟩
      have HL := Lib.hid hl
      have el : (j : Int) - 1 = (l : Int) := by omega
      have wl : IntKind.i64.wrap (l : Int) = (l : Int) := IntWalk.i64_in _ (by omega)
      have HO2 : Hid (partEqLoop (ltc cf) a (i + 1) l (swp d1 i j) = (T1, T2)) := Lib.hid (by
        have h0 := HO.out
        rw [eDown_go hji, show j - 1 = l by omega] at h0
        exact h0)
      clear HO hl
      have c1 := HW.out.cell (i) hin
      have c2 := HW.out.cell (j) hjn
      have c3 := HW.out.cell3 (i) (j) hin hjn
      have f1 := HW.out.frozen (i)
      have f2 := HW.out.frozen (j)
      have HW5 := Lib.hid (HW.out.swap (i) (j) hin hjn)
      obtain ⟨x, hx⟩ : ∃ x, d1[i]! = x := ⟨_, rfl⟩
      obtain ⟨y, hy⟩ : ∃ y, d1[j]! = y := ⟨_, rfl⟩
      rw [hx, hy] at HW5 
      rw [hx] at c1
      rw [hy] at c2 c3
      clear hx hy
      go_wp2
      go_big_region_o
      clear c1 c2 c3 f1 f2 HW
      generalize ((wc.setCell ⟨P, i, none⟩ (.int .i64 (y : Int))).setCell ⟨P, j, none⟩ (.int .i64 (x : Int))).drew = w5 at HW5  ⊢

      go_wp2
      go_roundw
      case rel => exact ⟨i + 1, l, _, by omega, by have := HL.out; omega, by have := HL.out; omega, by have := HL.out; omega, by first | rfl | go_num, by first | rfl | go_num, HW5.out, HO2.out⟩
      case measure => simp [intOf]; omega
end Go.Proofs.YtmolkbmdfkeniaaDoor.Tn
