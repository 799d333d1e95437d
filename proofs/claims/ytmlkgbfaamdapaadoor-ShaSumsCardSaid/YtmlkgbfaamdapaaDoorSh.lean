import Derived.Test.YtmlkgbfaamdapaaDoorSq
namespace Go.Proofs.YtmlkgbfaamdapaaDoor
open Go.ChangeShapes Go.WideShapes Go.ChangeAt Go.RowKit
set_option maxRecDepth 100000 in
set_option maxHeartbeats 2000000 in
theorem filled_any (w : World) (sp : Option Addr) (m cap : Nat) (l : List Int) (hm : l.length = m) (hb : Bytes w sp cap l) (hz : sp = none → cap = 0) (hn : m ≤ 900000) :
    Calls Tryd.prog 21 #[.slice sp m cap] w fun e w' => ∃ sp' cap', e = .returned (.slice sp' (m + 9 + zn m) cap') ∧ Out w (.slice sp' (m + 9 + zn m) cap') (m + 9 + zn m) (full l m) w' := by
  have HM := Lib.hid hm
  have HB := Lib.hid hb
  clear hm hb
  go_enter Tryd.func21, Tryd.ntmps21
  go_upto_region 3 with (refine wpList_append_bytes rfl (.tmp 6) (.tmp 7) rfl w.heap.size (.slice none 0 0) 0 m [] l rfl (World.ownsRow_nil _ _ _ _) sp cap rfl HM.out HB.out hz (by omega) (Nat.le_refl _) ?_; intro v1 w1 hown1 hg1)
  simp only [Nat.zero_add, List.nil_append] at hown1
  obtain ⟨s1, c1, rfl, _, _, _, _⟩ := own_bytes hown1
  have O1 := Lib.hid (show Out w (.slice s1 m c1) m l w1 from ⟨hown1, Below.ofGrown hg1 (Nat.le_refl _) (fun k e => by cases e)⟩)
  clear hown1 hg1
  go_wp2_with (refine wpList_push O1.out rfl (.tmp 9) (.tmp 10) rfl rfl rfl (by omega) ?_; intro s2 c2 w2 o2)
  have O2 := Lib.hid o2
  clear o2 O1
  go_loopw [3] (fun v wr => ∃ j n : Nat, j ≤ zn m ∧ n = m + 1 + j ∧ ∃ s c, v = .slice s n c ∧ Out w (.slice s n c) n (l ++ (128 :: List.replicate j 0)) wr) (fun v _ => m + 1 + zn m - lenV v)
  case atStart => exact ⟨0, m + 1, by omega, by omega, s2, c2, rfl, O2.out⟩
  case round =>
    obtain ⟨j, n, hj, hnj, s3, c3, rfl, o3⟩ := hrel
    have O3 := Lib.hid o3
    clear o3
    have hzn : zn m = (119 - m % 64) % 64 := rfl
    by_cases hlt : j < zn m
    · have hne : ((n : Int) % 64 == 56) = false := by simp; omega
      have htm : (n : Int).tmod 64 = (n : Int) % 64 := Int.tmod_eq_emod_of_nonneg (by omega)
      go_wp2_with (refine wpList_push O3.out rfl (.tmp 16) (.tmp 17) rfl rfl rfl (by omega) ?_; intro s4 c4 w4 o4)
      have O4 := Lib.hid o4
      clear o4 O3
      go_roundw
      case rel =>
        refine ⟨j + 1, m + 1 + j + 1, by omega, by omega, s4, c4, rfl, ?_⟩
        have := O4.out
        rw [hnj] at this
        rw [List.replicate_succ']
        simpa using this
      case measure => simp only [lenV]; omega
    · obtain rfl : j = zn m := by omega
      have hne : ((n : Int) % 64 == 56) = true := by simp; omega
      have htm : (n : Int).tmod 64 = (n : Int) % 64 := Int.tmod_eq_emod_of_nonneg (by omega)
      have HNj := Lib.hid hnj
      have hzb : zn m ≤ 63 := by omega
      have hnb : n ≤ 1000000 - 70 := by omega
      clear hnj hzn hj hlt
      obtain ⟨z, hz⟩ : ∃ z, (n : Int) % 64 = z := ⟨_, rfl⟩
      rw [hz] at hne htm
      have hnz : (z != 56) = false := by have := hne; simp at this; simp [this]
      clear hz
      go_wp2
      have O5 := Lib.hid O3.out
      clear O3 hne htm O2 hnz
      go_loopw [3, 5] (fun v i wr => ∃ k n' : Nat, k ≤ 8 ∧ n' = n + k ∧ i = .int .i64 (7 - k) ∧ ∃ s c, v = .slice s n' c ∧ Out w (.slice s n' c) n' (l ++ (128 :: List.replicate (zn m) 0) ++ (tail8 m).take k) wr) (fun _ i _ => (intOf i + 1).toNat)
      case atStart => exact ⟨0, n, by omega, by omega, rfl, s3, c3, rfl, by simpa using O5.out⟩
      case round =>
        obtain ⟨k, n', hk, hnk, rfl, s6, c6, rfl, o6⟩ := hrel
        have O6 := Lib.hid o6
        clear o6
        by_cases hlt : k < 8
        · have HTk := Lib.hid (tail8_take m k hlt)
          obtain ⟨e, he⟩ : ∃ e, e = 7 - k := ⟨_, rfl⟩
          rw [← he] at HTk
          have hke : (7 : Int) - (k : Int) = (e : Int) := by omega
          rw [hke]
          have hge : decide ((0 : Int) ≤ (e : Int)) = true := by simp
          have he7 : e ≤ 7 := by omega
          have HKe := Lib.hid (show k + e = 7 by omega)
          clear hke he
          have pw : ∀ w, Calls Tryd.prog 23 #[.int .i64 (8 * (e : Int))] w fun x w' => x = .returned (.int .i64 (2 ^ (8 * e))) ∧ w = w' := fun w => by
            have := power_any (8 * e) (by omega) w
            rwa [show ((8 * e : Nat) : Int) = 8 * (e : Int) by omega] at this
          obtain ⟨p1, p2⟩ := pow_le (8 * e) (by omega)
          obtain ⟨P, hP⟩ : ∃ P : Int, 2 ^ (8 * e) = P := ⟨_, rfl⟩
          rw [hP] at pw p1 p2 HTk
          clear hP
          have PW := Lib.hid pw
          clear pw
          obtain ⟨B, hB⟩ : ∃ B : Int, 8 * (m : Int) = B := ⟨_, rfl⟩
          have hB0 : 0 ≤ B := by omega
          have hB1 : B ≤ 7200000 := by omega
          rw [hB] at HTk ⊢
          have kq := run_quo B P hB0 (by omega) (by omega)
          have q0 : 0 ≤ B / P := Int.ediv_nonneg hB0 (by omega)
          have q1 : B / P ≤ 7200000 := Int.le_trans (Int.ediv_le_self _ hB0) hB1
          obtain ⟨Qv, hQ⟩ : ∃ Q, B / P = Q := ⟨_, rfl⟩
          rw [hQ] at HTk kq q0 q1
          have HQ := Lib.hid hQ
          clear hQ hB
          obtain ⟨X, hX⟩ : ∃ X, l ++ (128 :: List.replicate (zn m) 0) ++ (tail8 m).take k = X := ⟨_, rfl⟩
          rw [hX] at O6
          have HX := Lib.hid hX
          clear hX
          have hkk : n' + 1 ≤ 1000000 := by omega
          have HNk := Lib.hid hnk
          clear hnk
          go_wp2_with fail
          refine (PW.out _).mono ?_
          rintro _ _ ⟨rfl, rfl⟩
          go_wp2_with (refine wpList_push O6.out rfl (.tmp 26) (.tmp 34) rfl rfl rfl hkk ?_; intro s7 c7 w7 o7)
          have O7 := Lib.hid o7
          clear o7 O6 kq
          go_roundw
          case rel =>
            refine ⟨k + 1, n' + 1, by omega, by have := HNk.out; omega, ?_, s7, c7, rfl, ?_⟩
            · rw [show (7 : Int) - ((k + 1 : Nat) : Int) = (e : Int) - 1 by have := HKe.out; omega]
            · rw [HTk.out, ← List.append_assoc, HX.out]
              have := O7.out
              rw [HQ.out, Int.tmod_eq_emod_of_nonneg q0, Int.emod_emod] at this
              exact this
          case measure => simp only [intOf]; omega
        · obtain rfl : k = 8 := by omega
          have hge : decide ((0 : Int) ≤ 7 - ((8 : Nat) : Int)) = false := by decide
          have hn8 : n' = m + 9 + zn m := by have := HNj.out; omega
          have HN8 := Lib.hid hn8
          clear hn8 hnk
          have HF : Hid (l ++ (128 :: List.replicate (zn m) 0) ++ (tail8 m).take 8 = full l m) := by
            refine Lib.hid ?_
            unfold full
            rw [List.take_of_length_le (by rw [tail8_length]; omega), HM.out, List.append_assoc]
          go_wp2
          go_ret
          have := O6.out
          rw [HF.out, HN8.out] at this
          exact ⟨s6, c6, by rw [HN8.out]; rfl, this⟩
end Go.Proofs.YtmlkgbfaamdapaaDoor
