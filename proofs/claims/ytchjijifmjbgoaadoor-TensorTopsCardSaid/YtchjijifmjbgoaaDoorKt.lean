import Derived.Test.YtchjijifmjbgoaaDoorKs
namespace Go.Proofs.YtchjijifmjbgoaaDoor.Tn
set_option maxRecDepth 100000
open Go.ChangeShapes Go.WideShapes Go.ChangeAt Go.RowKit Go.Sort Go.Proofs.YtchjijifmjbgoaaDoor.Fx Go.Proofs.YtchjijifmjbgoaaDoor.Rf

set_option maxHeartbeats 4000000 in
theorem ins_any {wb : World} {g : FuncId} {recv : Value} {n : Nat} {cf : Nat → Nat → Int} (S : Srt wb g recv n cf) (w : World) (P a b : Nat) (d : Array Nat) (hs : SrtW wb P n w d w) (hab : a ≤ b) (hb : b ≤ n) :
    Calls Tryd.prog 90 #[.slice (some ⟨P, 0, none⟩) n n, .int .i64 a, .int .i64 b, .func (.func g) #[recv] #[]] w fun e w' => e = .returned (.tuple #[]) ∧ SrtW wb P n w (insertionSort (ltc cf) d a b) w' := by
  have HS := Lib.hid S
  have mixed : Tryd.prog.follows Departure.mixedOrders = true := by kernel_rfl
  have hn := S.le
  have eg := S.eg
  have HW : Hid (SrtW wb P n w d w) := hs
  have HT : Hid (insOuter (ltc cf) a b (a + 1) d = insertionSort (ltc cf) d a b) := Lib.hid rfl
  obtain ⟨T, hT⟩ : ∃ T, insertionSort (ltc cf) d a b = T := ⟨_, rfl⟩
  rw [hT] at HT ⊢
  clear S hs hT
  go_enter Tryd.func90, Tryd.ntmps90
  go_wp2
  go_loopw [8] (fun t wr => ∃ (i : Nat) (d1 : Array Nat), a + 1 ≤ i ∧ (i ≤ b ∨ i = a + 1) ∧ t = .int .i64 i ∧ SrtW wb P n w d1 wr ∧ insOuter (ltc cf) a b i d1 = T) (fun t _ => b + 1 - (intOf t).toNat)
  case atStart => exact ⟨a + 1, d, by omega, Or.inr rfl, by simp, HW.out, HT.out⟩
  case round =>
    clear HT HW
    obtain ⟨i, d1, hi1, hi2, rfl, hW, hO⟩ := hrel
    have HW := Lib.hid hW
    have HO := Lib.hid hO
    clear hW hO
    by_cases hlt : i < b
    · have hdt : decide (i < b) = true := by simpa using hlt
      have HO2 : Hid (insOuter (ltc cf) a b (i + 1) (insInner (ltc cf) a i d1) = T) := Lib.hid (by rw [← insOuter_go _ _ _ _ _ hlt]; exact HO.out)
      clear HO
      go_wp2
      go_loopw [9] (fun t wr => ∃ (j : Nat) (dj : Array Nat), a ≤ j ∧ j ≤ i ∧ t = .int .i64 j ∧ SrtW wb P n w dj wr ∧ insOuter (ltc cf) a b (i + 1) (insInner (ltc cf) a j dj) = T) (fun t _ => (intOf t).toNat)
      case atStart => exact ⟨i, d1, by omega, by omega, rfl, HW.out, HO2.out⟩
      case round =>
        clear HO2 HW
        obtain ⟨j, dj, hj1, hj2, rfl, hW, hO⟩ := hrel
        have HW := Lib.hid hW
        have HO := Lib.hid hO
        clear hW hO
        by_cases hja : a < j
        · obtain ⟨k, hk⟩ : ∃ k, j = k + 1 := ⟨j - 1, by omega⟩
          have HK := Lib.hid hk
          have hjk : (j : Int) - 1 = (k : Int) := by omega
          have hwk : IntKind.i64.wrap (k : Int) = (k : Int) := IntWalk.i64_in _ (by omega)
          have hjn : j < n := by omega
          have hkn : k < n := by omega
          have hak : a ≤ k := by omega
          have hjt : decide ((a : Int) < (j : Int)) = true := by simp; omega
          have hjt2 : decide (a < j) = true := by simpa using hja
          have q1 := cell_regrown (HW.out.cell j hjn)
          have q2 := cell_regrown (HW.out.cell k hkn)
          have qc := fun q os => HS.out.at_ HW.out j k hjn hkn q os
          by_cases hlt2 : cf dj[j]! dj[k]! < 0
          · have hd : decide (cf dj[j]! dj[k]! < 0) = true := by simpa using hlt2
            have HO2 : Hid (insOuter (ltc cf) a b (i + 1) (insInner (ltc cf) a k (swp dj j k)) = T) := Lib.hid (by
              subst hk
              rw [← insInner_go _ _ _ _ hja hd]
              exact HO.out)
            have HSw := Lib.hid (fun W (h : SrtW wb P n w dj W) => h.swap j k hjn hkn)
            have HC1 := Lib.hid (fun W (h : SrtW wb P n w dj W) => h.cell j hjn)
            have HC2 := Lib.hid (fun W (h : SrtW wb P n w dj W) => h.cell k hkn)
            have HC3 := Lib.hid (fun W (h : SrtW wb P n w dj W) v => h.cell2 j k hkn (by omega) v)
            obtain ⟨x, hx⟩ : ∃ x, dj[j]! = x := ⟨_, rfl⟩
            obtain ⟨y, hy⟩ : ∃ y, dj[k]! = y := ⟨_, rfl⟩
            rw [hx, hy] at qc hd HSw
            rw [hx] at q1 HC1
            rw [hy] at q2 HC2 HC3
            clear hx hy hlt2 hk hja
            go_wp2
            refine wp_region_quiet_below (by kernel_rfl) (by kernel_rfl) ?_
            repeat (quiet_step (exact qc _ _))
            refine wpQuiet_nil ?_
            intro _ hw'
            obtain ⟨⟨dq, osq⟩, hw''⟩ := hw'
            subst hw''
            have HW2 := Lib.hid (HW.out.regrown dq osq)
            generalize grow (redrawn wr dq) osq = w2 at HW2 ⊢
            clear q1 q2 qc HW
            have c1 := HC1.out _ HW2.out
            have c2 := HC2.out _ HW2.out
            have c3 := HC3.out _ HW2.out (.int .i64 (y : Int))
            have f1 := HW2.out.frozen j
            have f2 := HW2.out.frozen k
            have HW3 := Lib.hid (HSw.out _ HW2.out)
            go_wp2
            go_big_region_o
            clear c1 c2 c3 f1 f2
            generalize ((w2.setCell ⟨P, j, none⟩ (.int .i64 (y : Int))).setCell ⟨P, k, none⟩ (.int .i64 (x : Int))).drew = w3 at HW3 ⊢
            go_wp2
            go_roundw
            case rel => exact ⟨k, _, by have := HK.out; omega, by have := HK.out; omega, by first | rfl | go_num, HW3.out, HO2.out⟩
            case measure => have := HK.out; simp [intOf]; omega
          · have hd : decide (cf dj[j]! dj[k]! < 0) = false := by simpa using hlt2
            have HO2 : Hid (insOuter (ltc cf) a b (i + 1) dj = T) := Lib.hid (by
              have h0 := HO.out
              subst hk
              rw [insInner_stop _ _ _ _ (fun _ => hd)] at h0
              exact h0)
            obtain ⟨x, hx⟩ : ∃ x, dj[j]! = x := ⟨_, rfl⟩
            obtain ⟨y, hy⟩ : ∃ y, dj[k]! = y := ⟨_, rfl⟩
            rw [hx, hy] at qc hd
            rw [hx] at q1
            rw [hy] at q2
            clear hx hy hlt2 hk hja
            go_wp2
            refine wp_region_quiet_below (by kernel_rfl) (by kernel_rfl) ?_
            repeat (quiet_step (exact qc _ _))
            refine wpQuiet_nil ?_
            intro _ hw'
            obtain ⟨⟨dq, osq⟩, hw''⟩ := hw'
            subst hw''
            have HW2 := Lib.hid (HW.out.regrown dq osq)
            generalize grow (redrawn wr dq) osq = w2 at HW2 ⊢
            clear q1 q2 qc HW
            go_wp2
            go_roundw
            case rel => exact ⟨i + 1, dj, by omega, by omega, by first | rfl | go_num, HW2.out, HO2.out⟩
            case measure => simp [intOf]; omega
        · have hja' : j = a := by omega
          have hjt : decide ((a : Int) < (j : Int)) = false := by simp; omega
          have hjt2 : decide (a < j) = false := by simp; omega
          have HO2 : Hid (insOuter (ltc cf) a b (i + 1) dj = T) := Lib.hid (by
            have h0 := HO.out
            rw [hja'] at h0
            rcases a with _ | a
            · exact h0
            · rw [insInner_stop _ _ _ _ (fun h => absurd h (by omega))] at h0
              exact h0)
          clear hja'
          go_wp2
          go_big_region_o
          have HW2 := Lib.hid HW.out.drew
          generalize wr.drew = w2 at HW2 ⊢
          clear HW
          go_wp2
          go_roundw
          case rel => exact ⟨i + 1, dj, by omega, by omega, by first | rfl | go_num, HW2.out, HO2.out⟩
          case measure => simp [intOf]; omega
    · have hdf : decide (i < b) = false := by simpa using hlt
      have HE : Hid (d1 = T) := Lib.hid (by rw [← HO.out, insOuter_end _ _ _ _ _ hlt])
      go_wp2
      go_end0
      exact ⟨rfl, by rw [← HE.out]; exact HW.out⟩
end Go.Proofs.YtchjijifmjbgoaaDoor.Tn
