import Derived.Test.YtmolkbmdfkeniaaDoorYf
-- from Yh
namespace Go.Proofs.YtmolkbmdfkeniaaDoor.Tn
set_option maxRecDepth 100000
open Go.ChangeShapes Go.WideShapes Go.ChangeAt Go.RowKit Go.Sort Go.Proofs.YtmolkbmdfkeniaaDoor.Fx Go.Proofs.YtmolkbmdfkeniaaDoor.Rf
set_option maxHeartbeats 16000000 in
theorem partition_any {wb : World} {g : FuncId} {recv : Value} {n : Nat} {cf : Nat → Nat → Int} (S : Srt wb g recv n cf) (w : World) (P : Nat) (d : Array Nat) (hs : SrtW wb P n w d w) (a b p : Nat) (hab : a < b) (hb : b ≤ n) (_hp1 : a ≤ p) (hp2 : p < b) :
    Calls Tryd.prog 92 #[.slice (some ⟨P, 0, none⟩) n n, .int .i64 a, .int .i64 b, .int .i64 p, .func (.func g) #[recv] #[]] w fun e w' => ∃ q : Bool, e = .returned (.tuple #[.int .i64 ((partition (ltc cf) d a b p).1 : Int), .bool q]) ∧ SrtW wb P n w (partition (ltc cf) d a b p).2.2 w' := by
  have HS := Lib.hid S
  have mixed : Tryd.prog.follows Departure.mixedOrders = true := by kernel_rfl
  have hn := S.le
  have eg := S.eg
  have HW : Hid (SrtW wb P n w d w) := hs
  rw [partition_fst, partition_arr]
  obtain ⟨T, hT⟩ : ∃ T, partLoop (ltc cf) a (a + 1) (b - 1) (swp d a p) = T := ⟨_, rfl⟩
  rw [hT]
  obtain ⟨T1, T2⟩ := T
  obtain ⟨b1, hb1⟩ : ∃ b1, b1 + 1 = b := ⟨b - 1, by omega⟩
  have HT : Hid (partLoop (ltc cf) a (a + 1) b1 (swp d a p) = (T1, T2)) := Lib.hid (by rw [← hT, show b1 = b - 1 by omega])
  have eb : (b : Int) - 1 = (b1 : Int) := by omega
  have wb1 : IntKind.i64.wrap (b1 : Int) = (b1 : Int) := IntWalk.i64_in _ (by omega)
  have han : a < n := by omega
  have hpn : p < n := by omega
  have hb1b : b1 < b := by omega
  have hab1 : a ≤ b1 := by omega
  clear S hs hT hb1
  dsimp only
  go_enter Tryd.func92, Tryd.ntmps92
  have c1 := HW.out.cell (a) han
  have c2 := HW.out.cell (p) hpn
  have c3 := HW.out.cell3 (a) (p) han hpn
  have f1 := HW.out.frozen (a)
  have f2 := HW.out.frozen (p)
  have HW3 := Lib.hid (HW.out.swap (a) (p) han hpn)
  obtain ⟨x, hx⟩ : ∃ x, d[a]! = x := ⟨_, rfl⟩
  obtain ⟨y, hy⟩ : ∃ y, d[p]! = y := ⟨_, rfl⟩
  rw [hx, hy] at HW3 
  rw [hx] at c1
  rw [hy] at c2 c3
  clear hx hy
  go_wp2
  go_big_region_o
  clear c1 c2 c3 f1 f2 HW
  generalize ((w.setCell ⟨P, a, none⟩ (.int .i64 (y : Int))).setCell ⟨P, p, none⟩ (.int .i64 (x : Int))).drew = w3 at HW3  ⊢

  go_upto_region 2 with fail
  go_cut [12, 13] from 14 (fun s t wc => ∃ (i j : Nat) (d1 : Array Nat), a + 1 ≤ i ∧ i ≤ j + 2 ∧ a ≤ j ∧ j < b ∧ s = .int .i64 i ∧ t = .int .i64 j ∧ SrtW wb P n w d1 wc ∧ partLoop (ltc cf) a i j d1 = (T1, T2))
  case first =>
    go_wp2
    go_meet
    case rel => exact ⟨a + 1, b1, _, by omega, by omega, by omega, by omega, by first | rfl | go_num, by first | rfl | go_num, HW3.out, HT.out⟩
  case rest =>
  clear HW3 HT
  obtain ⟨i0, j, d1, hi01, hi02, hj1, hj2, rfl, rfl, hW, hO⟩ := hcut
  have HW := Lib.hid hW
  have HO : Hid (pUp (ltc cf) a (scanUp (fun x => ltc cf x d1[a]!) d1 j i0) j d1 = (T1, T2)) := Lib.hid (by rw [← part_up]; exact hO)
  clear hW hO
  go_step
  go_step
  go_cut [12] from 14 (fun s wc => ∃ i : Nat, i0 ≤ i ∧ i ≤ j + 2 ∧ s = .int .i64 i ∧ SrtW wb P n w d1 wc ∧ pUp (ltc cf) a i j d1 = (T1, T2))
  case first =>
    go_wp2
    go_loopw [12] (fun t wr => ∃ i : Nat, i0 ≤ i ∧ i ≤ j + 2 ∧ t = .int .i64 i ∧ SrtW wb P n w d1 wr ∧ pUp (ltc cf) a (scanUp (fun x => ltc cf x d1[a]!) d1 j i) j d1 = (T1, T2)) (fun t _ => j + 3 - (intOf t).toNat)
    case atStart => exact ⟨i0, by omega, by omega, by first | rfl | go_num, HW.out, HO.out⟩
    case round =>
      clear HW HO
      obtain ⟨i, hi1, hi2, rfl, hW, hO⟩ := hrel
      have HW := Lib.hid hW
      have HO := Lib.hid hO
      clear hW hO
      by_cases hij : i ≤ j
      · have hdt : decide ((i : Int) ≤ (j : Int)) = true := by simp; omega
        have hdt2 : decide (i ≤ j) = true := by simpa using hij
        have hin : i < n := by omega
        have q1 := cell_regrown (HW.out.cell (i) hin)
        have q2 := cell_regrown (HW.out.cell (a) han)
        have qc := fun q os => HS.out.at_ HW.out (i) (a) hin han q os
        by_cases hlt2 : cf d1[i]! d1[a]! < 0
        · have hd : decide (cf d1[i]! d1[a]! < 0) = true := by simpa using hlt2
          have HD : Hid (ltc cf d1[i]! d1[a]! = true) := Lib.hid hd
          obtain ⟨x, hx⟩ : ∃ x, d1[i]! = x := ⟨_, rfl⟩
          obtain ⟨y, hy⟩ : ∃ y, d1[a]! = y := ⟨_, rfl⟩
          rw [hx, hy] at qc hd
          rw [hx] at q1
          rw [hy] at q2
          clear hx hy hlt2 
          go_wp2
          refine wp_region_quiet_below (by kernel_rfl) (by kernel_rfl) ?_
          repeat (quiet_step (exact qc _ _))
          refine wpQuiet_nil ?_
          intro _ hw'
          obtain ⟨⟨dq, osq⟩, hw''⟩ := hw'
          subst hw''
          have HW2 := Lib.hid (HW.out.regrown dq osq)
          generalize grow (redrawn wr dq) osq = w2 at HW2  ⊢
          clear q1 q2 qc HW
          have HO2 : Hid (pUp (ltc cf) a (scanUp (fun x => ltc cf x d1[a]!) d1 j (i + 1)) j d1 = (T1, T2)) := Lib.hid (by
            rw [← scanUp_go (p := fun x => ltc cf x d1[a]!) (d := d1) hij HD.out]
            exact HO.out)
          clear HO HD
          go_wp2
          go_roundw
          case rel => exact ⟨i + 1, by omega, by omega, by first | rfl | go_num, HW2.out, HO2.out⟩
          case measure => simp [intOf]; omega
        · have hd : decide (cf d1[i]! d1[a]! < 0) = false := by simpa using hlt2
          have HD : Hid (ltc cf d1[i]! d1[a]! = false) := Lib.hid hd
          obtain ⟨x, hx⟩ : ∃ x, d1[i]! = x := ⟨_, rfl⟩
          obtain ⟨y, hy⟩ : ∃ y, d1[a]! = y := ⟨_, rfl⟩
          rw [hx, hy] at qc hd
          rw [hx] at q1
          rw [hy] at q2
          clear hx hy hlt2 
          go_wp2
          refine wp_region_quiet_below (by kernel_rfl) (by kernel_rfl) ?_
          repeat (quiet_step (exact qc _ _))
          refine wpQuiet_nil ?_
          intro _ hw'
          obtain ⟨⟨dq, osq⟩, hw''⟩ := hw'
          subst hw''
          have HW2 := Lib.hid (HW.out.regrown dq osq)
          generalize grow (redrawn wr dq) osq = w2 at HW2  ⊢
          clear q1 q2 qc HW
          have HO2 : Hid (pUp (ltc cf) a i j d1 = (T1, T2)) := Lib.hid (by
            have h0 := HO.out
            rw [scanUp_stop (p := fun x => ltc cf x d1[a]!) (d := d1) (fun _ => by show ltc cf d1[i]! d1[a]! = false; exact HD.out)] at h0
            exact h0)
          clear HO HD
          go_wp2
          go_meet
          case rel => exact ⟨i, by omega, by omega, rfl, HW2.out, HO2.out⟩
      · have hdt : decide ((i : Int) ≤ (j : Int)) = false := by simp; omega
        have hdt2 : decide (i ≤ j) = false := by simp; omega
        have HO2 : Hid (pUp (ltc cf) a i j d1 = (T1, T2)) := Lib.hid (by
          have h0 := HO.out
          rw [scanUp_stop (p := fun x => ltc cf x d1[a]!) (d := d1) (fun h => absurd h hij)] at h0
          exact h0)
        clear HO
        go_wp2
        go_big_region_o
        have HW2 := Lib.hid HW.out.drew
        generalize wr.drew = w2 at HW2 ⊢
        clear HW
        go_wp2
        go_meet
        case rel => exact ⟨i, by omega, by omega, rfl, HW2.out, HO2.out⟩
  case rest =>
  clear HW HO
  obtain ⟨i, hi1, hi2, rfl, hW, hO⟩ := hcut
  have HW := Lib.hid hW
  have HO : Hid (pDown (ltc cf) a i (scanDown (fun x => !ltc cf x d1[a]!) d1 i j) d1 = (T1, T2)) := hO
  clear hW hO
  have hjj : i ≤ j + 2 := hi2
  obtain ⟨j0, hj0⟩ : ∃ j0, j = j0 := ⟨_, rfl⟩
  have hj0b : j0 < b := by omega
  rw [hj0] at HO hjj ⊢
  go_step
  go_step
  go_cut [13] from 14 (fun s wc => ∃ j : Nat, a ≤ j ∧ j ≤ j0 ∧ s = .int .i64 j ∧ SrtW wb P n w d1 wc ∧ pDown (ltc cf) a i j d1 = (T1, T2))
  case first =>
    go_wp2
    go_loopw [13] (fun t wr => ∃ j : Nat, a ≤ j ∧ j ≤ j0 ∧ t = .int .i64 j ∧ SrtW wb P n w d1 wr ∧ pDown (ltc cf) a i (scanDown (fun x => !ltc cf x d1[a]!) d1 i j) d1 = (T1, T2)) (fun t _ => (intOf t).toNat)
    case atStart => exact ⟨j0, by omega, by omega, rfl, HW.out, HO.out⟩
    case round =>
      clear HW HO
      clear hj0
      clear hi2
      rename_i jx
      obtain ⟨j, hj1, hj2, rfl, hW, hO⟩ := hrel
      have HW := Lib.hid hW
      have HO := Lib.hid hO
      clear hW hO
      by_cases hij : i ≤ j
      · have hdt : decide ((i : Int) ≤ (j : Int)) = true := by simp; omega
        have hdt2 : decide (i ≤ j) = true := by simpa using hij
        have hjn : j < n := by omega
        obtain ⟨l, hl⟩ : ∃ l, l + 1 = j := ⟨j - 1, by omega⟩
        have HL := Lib.hid hl
        have el : (j : Int) - 1 = (l : Int) := by omega
        have wl : IntKind.i64.wrap (l : Int) = (l : Int) := IntWalk.i64_in _ (by omega)
        clear hl
        have q1 := cell_regrown (HW.out.cell (j) hjn)
        have q2 := cell_regrown (HW.out.cell (a) han)
        have qc := fun q os => HS.out.at_ HW.out (j) (a) hjn han q os
        by_cases hlt2 : cf d1[j]! d1[a]! < 0
        · have hd : decide (cf d1[j]! d1[a]! < 0) = true := by simpa using hlt2
          have HD : Hid (ltc cf d1[j]! d1[a]! = true) := Lib.hid hd
          obtain ⟨x, hx⟩ : ∃ x, d1[j]! = x := ⟨_, rfl⟩
          obtain ⟨y, hy⟩ : ∃ y, d1[a]! = y := ⟨_, rfl⟩
          rw [hx, hy] at qc hd
          rw [hx] at q1
          rw [hy] at q2
          clear hx hy hlt2 
          go_wp2
          refine wp_region_quiet_below (by kernel_rfl) (by kernel_rfl) ?_
          repeat (quiet_step (exact qc _ _))
          refine wpQuiet_nil ?_
          intro _ hw'
          obtain ⟨⟨dq, osq⟩, hw''⟩ := hw'
          subst hw''
          have HW2 := Lib.hid (HW.out.regrown dq osq)
          generalize grow (redrawn wr dq) osq = w2 at HW2  ⊢
          clear q1 q2 qc HW
          have HO2 : Hid (pDown (ltc cf) a i j d1 = (T1, T2)) := Lib.hid (by
            have h0 := HO.out
            rw [scanDown_stop (p := fun x => !ltc cf x d1[a]!) (d := d1) (fun _ => by show (!ltc cf d1[j]! d1[a]!) = false; rw [HD.out]; rfl)] at h0
            exact h0)
          clear HO HD
          go_wp2
          go_meet
          case rel => exact ⟨j, by omega, by omega, rfl, HW2.out, HO2.out⟩
        · have hd : decide (cf d1[j]! d1[a]! < 0) = false := by simpa using hlt2
          have HD : Hid (ltc cf d1[j]! d1[a]! = false) := Lib.hid hd
          obtain ⟨x, hx⟩ : ∃ x, d1[j]! = x := ⟨_, rfl⟩
          obtain ⟨y, hy⟩ : ∃ y, d1[a]! = y := ⟨_, rfl⟩
          rw [hx, hy] at qc hd
          rw [hx] at q1
          rw [hy] at q2
          clear hx hy hlt2 
          go_wp2
          refine wp_region_quiet_below (by kernel_rfl) (by kernel_rfl) ?_
          repeat (quiet_step (exact qc _ _))
          refine wpQuiet_nil ?_
          intro _ hw'
          obtain ⟨⟨dq, osq⟩, hw''⟩ := hw'
          subst hw''
          have HW2 := Lib.hid (HW.out.regrown dq osq)
          generalize grow (redrawn wr dq) osq = w2 at HW2  ⊢
          clear q1 q2 qc HW
          have HO2 : Hid (pDown (ltc cf) a i (scanDown (fun x => !ltc cf x d1[a]!) d1 i l) d1 = (T1, T2)) := Lib.hid (by
            have h0 := scanDown_go (p := fun x => !ltc cf x d1[a]!) (d := d1) (i := i) (j := l) (by have := HL.out; omega) (by show (!ltc cf d1[l + 1]! d1[a]!) = true; rw [HL.out, HD.out]; rfl)
            rw [HL.out] at h0
            rw [← h0]
            exact HO.out)
          clear HO HD
          go_wp2
          go_roundw
          case rel => exact ⟨l, by have := HL.out; omega, by have := HL.out; omega, by first | rfl | go_num, HW2.out, HO2.out⟩
          case measure => have := HL.out; simp [intOf]; omega
      · have hdt : decide ((i : Int) ≤ (j : Int)) = false := by simp; omega
        have hdt2 : decide (i ≤ j) = false := by simp; omega
        have HO2 : Hid (pDown (ltc cf) a i j d1 = (T1, T2)) := Lib.hid (by
          have h0 := HO.out
          rw [scanDown_stop (p := fun x => !ltc cf x d1[a]!) (d := d1) (fun h => absurd h hij)] at h0
          exact h0)
        clear HO
        go_wp2
        go_big_region_o
        have HW2 := Lib.hid HW.out.drew
        generalize wr.drew = w2 at HW2 ⊢
        clear HW
        go_wp2
        go_meet
        case rel => exact ⟨j, by omega, by omega, rfl, HW2.out, HO2.out⟩
  case rest =>
  clear HW HO
  clear hi2
  rename_i jx
  obtain ⟨j, hj3, hj4, rfl, hW, hO⟩ := hcut
  have HW := Lib.hid hW
  have HO := Lib.hid hO
  clear hW hO
  by_cases hji : j < i
  · have hdt : decide ((j : Int) < (i : Int)) = true := by simp; omega
    have hdt2 : decide (j < i) = true := by simpa using hji
    have HE : Hid ((j, d1) = (T1, T2)) := Lib.hid (by rw [← HO.out, pDown_end hji])
    have HE1 : Hid (j = T1) := Lib.hid (congrArg Prod.fst HE.out)
    have HE2 : Hid (d1 = T2) := Lib.hid (congrArg Prod.snd HE.out)
    have hjn : j < n := by omega
    clear HE HO
    have c1 := HW.out.cell (j) hjn
    have c2 := HW.out.cell (a) han
    have c3 := HW.out.cell3 (j) (a) hjn han
    have f1 := HW.out.frozen (j)
    have f2 := HW.out.frozen (a)
    have HW9 := Lib.hid (HW.out.swap (j) (a) hjn han)
    obtain ⟨x, hx⟩ : ∃ x, d1[j]! = x := ⟨_, rfl⟩
    obtain ⟨y, hy⟩ : ∃ y, d1[a]! = y := ⟨_, rfl⟩
    rw [hx, hy] at HW9 
    rw [hx] at c1
    rw [hy] at c2 c3
    clear hx hy
    go_wp2
    go_big_region_o
    clear c1 c2 c3 f1 f2 HW
    generalize ((wc.setCell ⟨P, j, none⟩ (.int .i64 (y : Int))).setCell ⟨P, a, none⟩ (.int .i64 (x : Int))).drew = w9 at HW9  ⊢

    go_wp2
    (try simp only [Exit.inBlock, Exit.then])
    go_ret2
    exact ⟨true, by rw [← HE1.out]; rfl, by rw [← HE2.out, ← HE1.out]; exact HW9.out⟩
  · have hdt : decide ((j : Int) < (i : Int)) = false := by simp; omega
    have hdt2 : decide (j < i) = false := by simp; omega
    have hin : i < n := by omega
    have hjn : j < n := by omega
    obtain ⟨l, hl⟩ : ∃ l, l + 1 = j := ⟨j - 1, by omega⟩
    have HL := Lib.hid hl
    have el : (j : Int) - 1 = (l : Int) := by omega
    have wl : IntKind.i64.wrap (l : Int) = (l : Int) := IntWalk.i64_in _ (by omega)
    have HO2 : Hid (partLoop (ltc cf) a (i + 1) l (swp d1 i j) = (T1, T2)) := Lib.hid (by
      have h0 := HO.out
      rw [pDown_go hji, show j - 1 = l by omega] at h0
      exact h0)
    clear HO hl
    have c1 := HW.out.cell (i) hin
    have c2 := HW.out.cell (j) hjn
    have c3 := HW.out.cell3 (i) (j) hin hjn
    have f1 := HW.out.frozen (i)
    have f2 := HW.out.frozen (j)
    have HW5 := Lib.hid (HW.out.swap (i) (j) hin hjn)
    obtain ⟨x, hx⟩ : ∃ x, d1[i]! = x := ⟨_, rfl⟩
    obtain ⟨y, hy⟩ : ∃ y, d1[j]! = y := ⟨_, rfl⟩
    rw [hx, hy] at HW5 
    rw [hx] at c1
    rw [hy] at c2 c3
    clear hx hy
    go_wp2
    go_big_region_o
    clear c1 c2 c3 f1 f2 HW
    generalize ((wc.setCell ⟨P, i, none⟩ (.int .i64 (y : Int))).setCell ⟨P, j, none⟩ (.int .i64 (x : Int))).drew = w5 at HW5  ⊢

    go_wp2
    go_loopw [12, 13] (fun t u wr => ∃ (i j : Nat) (d1 : Array Nat), a + 1 ≤ i ∧ i ≤ j + 2 ∧ a ≤ j ∧ j < b ∧ t = .int .i64 i ∧ u = .int .i64 j ∧ SrtW wb P n w d1 wr ∧ partLoop (ltc cf) a i j d1 = (T1, T2)) (fun t _ _ => b + 3 - (intOf t).toNat)
    case atStart => exact ⟨i + 1, l, _, by omega, by have := HL.out; omega, by have := HL.out; omega, by have := HL.out; omega, by first | rfl | go_num, by first | rfl | go_num, HW5.out, HO2.out⟩
    case round =>
      clear HO2 HW5
      obtain ⟨i0, j, d1, hi01, hi02, hj1, hj2, rfl, rfl, hW, hO⟩ := hrel
      have HW := Lib.hid hW
      have HO : Hid (pUp (ltc cf) a (scanUp (fun x => ltc cf x d1[a]!) d1 j i0) j d1 = (T1, T2)) := Lib.hid (by rw [← part_up]; exact hO)
      clear hW hO
      go_step
      go_step
      go_step
      go_cut [12] from 105 to 162 (fun s wc => ∃ i : Nat, i0 ≤ i ∧ i ≤ j + 2 ∧ s = .int .i64 i ∧ SrtW wb P n w d1 wc ∧ pUp (ltc cf) a i j d1 = (T1, T2))
      case first =>
        go_wp2
        go_loopw [12] (fun t wr => ∃ i : Nat, i0 ≤ i ∧ i ≤ j + 2 ∧ t = .int .i64 i ∧ SrtW wb P n w d1 wr ∧ pUp (ltc cf) a (scanUp (fun x => ltc cf x d1[a]!) d1 j i) j d1 = (T1, T2)) (fun t _ => j + 3 - (intOf t).toNat)
        case atStart => exact ⟨i0, by omega, by omega, by first | rfl | go_num, HW.out, HO.out⟩
        case round =>
          clear HW HO
          obtain ⟨i, hi1, hi2, rfl, hW, hO⟩ := hrel
          have HW := Lib.hid hW
          have HO := Lib.hid hO
          clear hW hO
          by_cases hij : i ≤ j
          · have hdt : decide ((i : Int) ≤ (j : Int)) = true := by simp; omega
            have hdt2 : decide (i ≤ j) = true := by simpa using hij
            have hin : i < n := by omega
            have q1 := cell_regrown (HW.out.cell (i) hin)
            have q2 := cell_regrown (HW.out.cell (a) han)
            have qc := fun q os => HS.out.at_ HW.out (i) (a) hin han q os
            by_cases hlt2 : cf d1[i]! d1[a]! < 0
            · have hd : decide (cf d1[i]! d1[a]! < 0) = true := by simpa using hlt2
              have HD : Hid (ltc cf d1[i]! d1[a]! = true) := Lib.hid hd
              obtain ⟨x, hx⟩ : ∃ x, d1[i]! = x := ⟨_, rfl⟩
              obtain ⟨y, hy⟩ : ∃ y, d1[a]! = y := ⟨_, rfl⟩
              rw [hx, hy] at qc hd
              rw [hx] at q1
              rw [hy] at q2
              clear hx hy hlt2 
              go_wp2
              refine wp_region_quiet_below (by kernel_rfl) (by kernel_rfl) ?_
              repeat (quiet_step (exact qc _ _))
              refine wpQuiet_nil ?_
              intro _ hw'
              obtain ⟨⟨dq, osq⟩, hw''⟩ := hw'
              subst hw''
              have HW2 := Lib.hid (HW.out.regrown dq osq)
              generalize grow (redrawn wr dq) osq = w2 at HW2  ⊢
              clear q1 q2 qc HW
              have HO2 : Hid (pUp (ltc cf) a (scanUp (fun x => ltc cf x d1[a]!) d1 j (i + 1)) j d1 = (T1, T2)) := Lib.hid (by
                rw [← scanUp_go (p := fun x => ltc cf x d1[a]!) (d := d1) hij HD.out]
                exact HO.out)
              clear HO HD
              go_wp2
              go_roundw
              case rel => exact ⟨i + 1, by omega, by omega, by first | rfl | go_num, HW2.out, HO2.out⟩
              case measure => simp [intOf]; omega
            · have hd : decide (cf d1[i]! d1[a]! < 0) = false := by simpa using hlt2
              have HD : Hid (ltc cf d1[i]! d1[a]! = false) := Lib.hid hd
              obtain ⟨x, hx⟩ : ∃ x, d1[i]! = x := ⟨_, rfl⟩
              obtain ⟨y, hy⟩ : ∃ y, d1[a]! = y := ⟨_, rfl⟩
              rw [hx, hy] at qc hd
              rw [hx] at q1
              rw [hy] at q2
              clear hx hy hlt2 
              go_wp2
              refine wp_region_quiet_below (by kernel_rfl) (by kernel_rfl) ?_
              repeat (quiet_step (exact qc _ _))
              refine wpQuiet_nil ?_
              intro _ hw'
              obtain ⟨⟨dq, osq⟩, hw''⟩ := hw'
              subst hw''
              have HW2 := Lib.hid (HW.out.regrown dq osq)
              generalize grow (redrawn wr dq) osq = w2 at HW2  ⊢
              clear q1 q2 qc HW
              have HO2 : Hid (pUp (ltc cf) a i j d1 = (T1, T2)) := Lib.hid (by
                have h0 := HO.out
                rw [scanUp_stop (p := fun x => ltc cf x d1[a]!) (d := d1) (fun _ => by show ltc cf d1[i]! d1[a]! = false; exact HD.out)] at h0
                exact h0)
              clear HO HD
              go_wp2
              go_meet
              case rel => exact ⟨i, by omega, by omega, rfl, HW2.out, HO2.out⟩
          · have hdt : decide ((i : Int) ≤ (j : Int)) = false := by simp; omega
            have hdt2 : decide (i ≤ j) = false := by simp; omega
            have HO2 : Hid (pUp (ltc cf) a i j d1 = (T1, T2)) := Lib.hid (by
              have h0 := HO.out
              rw [scanUp_stop (p := fun x => ltc cf x d1[a]!) (d := d1) (fun h => absurd h hij)] at h0
              exact h0)
            clear HO
            go_wp2
            go_big_region_o
            have HW2 := Lib.hid HW.out.drew
            generalize wr.drew = w2 at HW2 ⊢
            clear HW
            go_wp2
            go_meet
            case rel => exact ⟨i, by omega, by omega, rfl, HW2.out, HO2.out⟩
      case rest =>
      clear HW HO
      obtain ⟨i, hi1, hi2, rfl, hW, hO⟩ := hcut
      have HW := Lib.hid hW
      have HO : Hid (pDown (ltc cf) a i (scanDown (fun x => !ltc cf x d1[a]!) d1 i j) d1 = (T1, T2)) := hO
      clear hW hO
      have hjj : i ≤ j + 2 := hi2
      obtain ⟨j0, hj0⟩ : ∃ j0, j = j0 := ⟨_, rfl⟩
      have hj0b : j0 < b := by omega
      rw [hj0] at HO hjj ⊢
      go_step
      go_step
      go_cut [13] from 105 to 162 (fun s wc => ∃ j : Nat, a ≤ j ∧ j ≤ j0 ∧ s = .int .i64 j ∧ SrtW wb P n w d1 wc ∧ pDown (ltc cf) a i j d1 = (T1, T2))
      case first =>
        go_wp2
        go_loopw [13] (fun t wr => ∃ j : Nat, a ≤ j ∧ j ≤ j0 ∧ t = .int .i64 j ∧ SrtW wb P n w d1 wr ∧ pDown (ltc cf) a i (scanDown (fun x => !ltc cf x d1[a]!) d1 i j) d1 = (T1, T2)) (fun t _ => (intOf t).toNat)
        case atStart => exact ⟨j0, by omega, by omega, rfl, HW.out, HO.out⟩
        case round =>
          clear HW HO
          clear hj0
          clear hi2
          rename_i jx
          obtain ⟨j, hj1, hj2, rfl, hW, hO⟩ := hrel
          have HW := Lib.hid hW
          have HO := Lib.hid hO
          clear hW hO
          by_cases hij : i ≤ j
          · have hdt : decide ((i : Int) ≤ (j : Int)) = true := by simp; omega
            have hdt2 : decide (i ≤ j) = true := by simpa using hij
            have hjn : j < n := by omega
            obtain ⟨l, hl⟩ : ∃ l, l + 1 = j := ⟨j - 1, by omega⟩
            have HL := Lib.hid hl
            have el : (j : Int) - 1 = (l : Int) := by omega
            have wl : IntKind.i64.wrap (l : Int) = (l : Int) := IntWalk.i64_in _ (by omega)
            clear hl
            have q1 := cell_regrown (HW.out.cell (j) hjn)
            have q2 := cell_regrown (HW.out.cell (a) han)
            have qc := fun q os => HS.out.at_ HW.out (j) (a) hjn han q os
            by_cases hlt2 : cf d1[j]! d1[a]! < 0
            · have hd : decide (cf d1[j]! d1[a]! < 0) = true := by simpa using hlt2
              have HD : Hid (ltc cf d1[j]! d1[a]! = true) := Lib.hid hd
              obtain ⟨x, hx⟩ : ∃ x, d1[j]! = x := ⟨_, rfl⟩
              obtain ⟨y, hy⟩ : ∃ y, d1[a]! = y := ⟨_, rfl⟩
              rw [hx, hy] at qc hd
              rw [hx] at q1
              rw [hy] at q2
              clear hx hy hlt2 
              go_wp2
              refine wp_region_quiet_below (by kernel_rfl) (by kernel_rfl) ?_
              repeat (quiet_step (exact qc _ _))
              refine wpQuiet_nil ?_
              intro _ hw'
              obtain ⟨⟨dq, osq⟩, hw''⟩ := hw'
              subst hw''
              have HW2 := Lib.hid (HW.out.regrown dq osq)
              generalize grow (redrawn wr dq) osq = w2 at HW2  ⊢
              clear q1 q2 qc HW
              have HO2 : Hid (pDown (ltc cf) a i j d1 = (T1, T2)) := Lib.hid (by
                have h0 := HO.out
                rw [scanDown_stop (p := fun x => !ltc cf x d1[a]!) (d := d1) (fun _ => by show (!ltc cf d1[j]! d1[a]!) = false; rw [HD.out]; rfl)] at h0
                exact h0)
              clear HO HD
              go_wp2
              go_meet
              case rel => exact ⟨j, by omega, by omega, rfl, HW2.out, HO2.out⟩
            · have hd : decide (cf d1[j]! d1[a]! < 0) = false := by simpa using hlt2
              have HD : Hid (ltc cf d1[j]! d1[a]! = false) := Lib.hid hd
              obtain ⟨x, hx⟩ : ∃ x, d1[j]! = x := ⟨_, rfl⟩
              obtain ⟨y, hy⟩ : ∃ y, d1[a]! = y := ⟨_, rfl⟩
              rw [hx, hy] at qc hd
              rw [hx] at q1
              rw [hy] at q2
              clear hx hy hlt2 
              go_wp2
              refine wp_region_quiet_below (by kernel_rfl) (by kernel_rfl) ?_
              repeat (quiet_step (exact qc _ _))
              refine wpQuiet_nil ?_
              intro _ hw'
              obtain ⟨⟨dq, osq⟩, hw''⟩ := hw'
              subst hw''
              have HW2 := Lib.hid (HW.out.regrown dq osq)
              generalize grow (redrawn wr dq) osq = w2 at HW2  ⊢
              clear q1 q2 qc HW
              have HO2 : Hid (pDown (ltc cf) a i (scanDown (fun x => !ltc cf x d1[a]!) d1 i l) d1 = (T1, T2)) := Lib.hid (by
                have h0 := scanDown_go (p := fun x => !ltc cf x d1[a]!) (d := d1) (i := i) (j := l) (by have := HL.out; omega) (by show (!ltc cf d1[l + 1]! d1[a]!) = true; rw [HL.out, HD.out]; rfl)
                rw [HL.out] at h0
                rw [← h0]
                exact HO.out)
              clear HO HD
              go_wp2
              go_roundw
              case rel => exact ⟨l, by have := HL.out; omega, by have := HL.out; omega, by first | rfl | go_num, HW2.out, HO2.out⟩
              case measure => have := HL.out; simp [intOf]; omega
          · have hdt : decide ((i : Int) ≤ (j : Int)) = false := by simp; omega
            have hdt2 : decide (i ≤ j) = false := by simp; omega
            have HO2 : Hid (pDown (ltc cf) a i j d1 = (T1, T2)) := Lib.hid (by
              have h0 := HO.out
              rw [scanDown_stop (p := fun x => !ltc cf x d1[a]!) (d := d1) (fun h => absurd h hij)] at h0
              exact h0)
            clear HO
            go_wp2
            go_big_region_o
            have HW2 := Lib.hid HW.out.drew
            generalize wr.drew = w2 at HW2 ⊢
            clear HW
            go_wp2
            go_meet
            case rel => exact ⟨j, by omega, by omega, rfl, HW2.out, HO2.out⟩
      case rest =>
      clear HW HO
      clear hi2
      rename_i jx
      obtain ⟨j, hj3, hj4, rfl, hW, hO⟩ := hcut
      have HW := Lib.hid hW
      have HO := Lib.hid hO
      clear hW hO
      by_cases hji : j < i
      · have hdt : decide ((j : Int) < (i : Int)) = true := by simp; omega
        have hdt2 : decide (j < i) = true := by simpa using hji
        have HE : Hid ((j, d1) = (T1, T2)) := Lib.hid (by rw [← HO.out, pDown_end hji])
        have HE1 : Hid (j = T1) := Lib.hid (congrArg Prod.fst HE.out)
        have HE2 : Hid (d1 = T2) := Lib.hid (congrArg Prod.snd HE.out)
        have hjn : j < n := by omega
        clear HE HO
        have c1 := HW.out.cell (j) hjn
        have c2 := HW.out.cell (a) han
        have c3 := HW.out.cell3 (j) (a) hjn han
        have f1 := HW.out.frozen (j)
        have f2 := HW.out.frozen (a)
        have HW9 := Lib.hid (HW.out.swap (j) (a) hjn han)
        obtain ⟨x, hx⟩ : ∃ x, d1[j]! = x := ⟨_, rfl⟩
        obtain ⟨y, hy⟩ : ∃ y, d1[a]! = y := ⟨_, rfl⟩
        rw [hx, hy] at HW9 
        rw [hx] at c1
        rw [hy] at c2 c3
        clear hx hy
        go_wp2
        go_big_region_o
        clear c1 c2 c3 f1 f2 HW
        generalize ((wc.setCell ⟨P, j, none⟩ (.int .i64 (y : Int))).setCell ⟨P, a, none⟩ (.int .i64 (x : Int))).drew = w9 at HW9  ⊢

        go_wp2
        (try simp only [Exit.inBlock, Exit.then])
        go_ret2
        exact ⟨false, by rw [← HE1.out]; rfl, by rw [← HE2.out, ← HE1.out]; exact HW9.out⟩
      · have hdt : decide ((j : Int) < (i : Int)) = false := by simp; omega
        have hdt2 : decide (j < i) = false := by simp; omega
        have hin : i < n := by omega
        have hjn : j < n := by omega
        obtain ⟨l, hl⟩ : ∃ l, l + 1 = j := ⟨j - 1, by omega⟩
        have HL := Lib.hid hl
        have el : (j : Int) - 1 = (l : Int) := by omega
        have wl : IntKind.i64.wrap (l : Int) = (l : Int) := IntWalk.i64_in _ (by omega)
        have HO2 : Hid (partLoop (ltc cf) a (i + 1) l (swp d1 i j) = (T1, T2)) := Lib.hid (by
          have h0 := HO.out
          rw [pDown_go hji, show j - 1 = l by omega] at h0
          exact h0)
        clear HO hl
        have c1 := HW.out.cell (i) hin
        have c2 := HW.out.cell (j) hjn
        have c3 := HW.out.cell3 (i) (j) hin hjn
        have f1 := HW.out.frozen (i)
        have f2 := HW.out.frozen (j)
        have HW5 := Lib.hid (HW.out.swap (i) (j) hin hjn)
        obtain ⟨x, hx⟩ : ∃ x, d1[i]! = x := ⟨_, rfl⟩
        obtain ⟨y, hy⟩ : ∃ y, d1[j]! = y := ⟨_, rfl⟩
        rw [hx, hy] at HW5 
        rw [hx] at c1
        rw [hy] at c2 c3
        clear hx hy
        go_wp2
        go_big_region_o
        clear c1 c2 c3 f1 f2 HW
        generalize ((wc.setCell ⟨P, i, none⟩ (.int .i64 (y : Int))).setCell ⟨P, j, none⟩ (.int .i64 (x : Int))).drew = w5 at HW5  ⊢

        go_wp2
        go_roundw
        case rel => exact ⟨i + 1, l, _, by omega, by have := HL.out; omega, by have := HL.out; omega, by have := HL.out; omega, by first | rfl | go_num, by first | rfl | go_num, HW5.out, HO2.out⟩
        case measure => simp [intOf]; omega
end Go.Proofs.YtmolkbmdfkeniaaDoor.Tn
