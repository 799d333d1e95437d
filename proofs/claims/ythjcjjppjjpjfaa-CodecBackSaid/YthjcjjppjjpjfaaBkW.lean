import Derived.Test.YthjcjjppjjpjfaaBk
namespace Go.Proofs.Ythjcjjppjjpjfaa
open Go.ChangeShapes Go.WideShapes Go.ChangeAt Go.RowKit

set_option maxRecDepth 100000 in
set_option maxHeartbeats 8000000 in
theorem back_walk (w : World) (A E B : Option Addr) (N M K C F D : Nat) (ls : List (List Int)) (ms b : List Int) (hN : ls.length = N) (hM : ms.length = M) (hK : b.length = K) (hl : Pieces w A C ls) (hm : Nums w E F ms) (hb : Bytes w B D b)
    (hr : ∀ x ∈ ms, -9223372036854775808 ≤ x ∧ x ≤ 9223372036854775807) :
    Calls Try.prog 5 #[.slice A N C, .slice E M F, .slice B K D] w fun e w' => e = .returned (.bool true) ∧ Below w.heap.size w w' := by
  have hNm : N ≤ 9223372036854775807 := by rw [← hN]; exact hl.len
  have hMm : M ≤ 9223372036854775807 := by rw [← hM]; have := Sl.len hm; simpa using this
  have hKm : K ≤ 9223372036854775807 := by rw [← hK]; exact hb.len
  have HN := Lib.hid hN
  have HM := Lib.hid hM
  have HK := Lib.hid hK
  have HL := Lib.hid hl
  have HMs : Hid (Nums w E F ms) := Lib.hid hm
  have HB := Lib.hid hb
  have HR := Lib.hid hr
  clear hN hM hK hl hm hb hr
  by_cases hf1 : Few ls
  · have HSm : Hid (small ls) := Lib.hid (few_small hf1)
    have hj1 := few_len hf1
    have HF1 := Lib.hid (decide_eq_true hf1)
    clear hf1
    obtain ⟨J, hJ⟩ : ∃ J, (join ls).length = J := ⟨_, rfl⟩
    rw [hJ] at hj1
    have HJ := Lib.hid hJ
    clear hJ
    by_cases hM60 : M ≤ 60
    · have hd1 : decide ((60 : Int) < (M : Int)) = false := by simp; omega
      by_cases hK7 : K ≤ 700
      · have hd2 : decide ((700 : Int) < (K : Int)) = false := by simp; omega
        go_enter Try.func5, Try.ntmps5
        go_wp2_with fail
        refine (few_any w A N C ls HN.out HL.out).mono ?_
        rintro e w' ⟨rfl, rfl⟩
        rw [HF1.out]
        go_wp2_with fail
        refine (join_any w A C N ls HN.out HL.out (by rw [HJ.out]; omega)).mono ?_
        rintro e w1 ⟨s1, c1, rfl, hb1, hw1⟩
        rw [HJ.out]
        have HW1 := Lib.hid hw1
        have HB1 := Lib.hid hb1
        clear hb1 hw1
        go_wp2_with fail
        refine (split_ok w1 s1 J c1 (join ls) ls HJ.out HB1.out (by omega) rfl HSm.out).mono ?_
        rintro e w2 ⟨s2, c2, rfl, hp2, hw2⟩
        rw [HN.out]
        have HW2 := Lib.hid (HW1.out.trans (hw2.mono HW1.out.size))
        have HP2 := Lib.hid hp2
        clear hp2 hw2 HW1 HB1
        go_wp2_with fail
        refine (numbers_any w2 E F M ms HM.out (Sl.below HMs.out (Nat.le_refl _) HW2.out) (by omega)).mono ?_
        rintro e w3 ⟨s3, c3, rfl, hb3, hw3⟩
        have HW3 := Lib.hid (HW2.out.trans (hw3.mono HW2.out.size))
        have HP3 := Lib.hid (HP2.out.below hw3)
        have HB3 := Lib.hid hb3
        have HNl := Lib.hid (show (nums ms).length = 8 * M by rw [nums_length, HM.out])
        clear hb3 hw3 HW2 HP2
        obtain ⟨M8, hM8⟩ : ∃ x, 8 * M = x := ⟨_, rfl⟩
        rw [hM8] at HNl ⊢
        have hM8b : M8 ≤ 480 := by omega
        have HM8 := Lib.hid hM8.symm
        clear hM8
        go_wp2_with fail
        refine (ints_ok w3 s3 M8 c3 M (nums ms) HNl.out HM8.out HB3.out (by omega)).mono ?_
        rintro e w4 ⟨g4, rfl, hb4, hw4⟩
        rw [ints_nums ms HR.out M (by rw [HM.out]; exact Nat.le_refl _), List.take_of_length_le (by rw [HM.out]; exact Nat.le_refl _)] at hb4
        have HW4 := Lib.hid (HW3.out.trans (hw4.mono HW3.out.size))
        have HP4 := Lib.hid (HP3.out.below hw4)
        have HN4 : Hid (Nums w4 (some ⟨g4, 0, none⟩) M ms) := Lib.hid hb4
        clear hb4 hw4 HW3 HP3 HB3
        go_wp2_with fail
        refine (pieces_any w4 s2 A N N c2 C ls ls HN.out HN.out HP4.out (HL.out.below HW4.out)).mono ?_
        rintro e w5 ht
        obtain ⟨rfl, hb5⟩ := ht.below
        rw [decide_eq_true rfl]
        have HW5 := Lib.hid (HW4.out.trans (hb5.mono HW4.out.size))
        have HN5 : Hid (Nums w5 (some ⟨g4, 0, none⟩) M ms) := Lib.hid (Sl.below HN4.out (Nat.le_refl _) hb5)
        clear ht hb5 HN4 HP4 HW4
        go_wp2_with fail
        refine (ints_any w5 (some ⟨g4, 0, none⟩) E M M M F ms ms HM.out HM.out HN5.out (Sl.below HMs.out (Nat.le_refl _) HW5.out)).mono ?_
        rintro e w6 ht
        obtain ⟨rfl, hb6⟩ := ht.below
        rw [decide_eq_true rfl]
        have HW6 := Lib.hid (HW5.out.trans (hb6.mono HW5.out.size))
        have HB6 := Lib.hid (HB.out.below HW6.out)
        clear ht hb6 HN5 HW5 HB HMs HL
        go_wp2_with fail
        by_cases hsp : ∃ ps, small ps ∧ join ps = b
        · obtain ⟨ps, hps, hjp⟩ := hsp
          have hjs := Lib.hid (show (join ps).length = K by rw [hjp, HK.out])
          refine (split_ok w6 B K D b ps HK.out HB6.out (by omega) hjp hps).mono ?_
          rintro e w7 ⟨s7, c7, rfl, hp7, hw7⟩
          have HW7 := Lib.hid (HW6.out.trans (hw7.mono HW6.out.size))
          have HB7 := Lib.hid (HB6.out.below hw7)
          have HP7 := Lib.hid hp7
          have HJp := Lib.hid hjp
          obtain ⟨q, hq⟩ : ∃ q, ps.length = q := ⟨_, rfl⟩
          rw [hq]
          have HQ := Lib.hid hq
          clear hp7 hw7 hps hjp hq HW6 HB6
          go_wp2_with fail
          refine (join_any w7 s7 c7 q ps HQ.out HP7.out (by rw [hjs.out]; omega)).mono ?_
          rintro e w8 ⟨s8, c8, rfl, hb8, hw8⟩
          rw [hjs.out]
          have HW8 := Lib.hid (HW7.out.trans (hw8.mono HW7.out.size))
          have HB8 := Lib.hid (HB7.out.below hw8)
          have HBj := Lib.hid hb8
          clear hb8 hw8 HW7 HB7 HP7
          go_wp2_with fail
          refine (bytes_any w8 s8 B K K c8 D (join ps) b hjs.out HK.out HBj.out HB8.out).mono ?_
          rintro e w9 ht
          obtain ⟨rfl, hb9⟩ := ht.below
          rw [decide_eq_true HJp.out]
          have HW9 := Lib.hid (HW8.out.trans (hb9.mono HW8.out.size))
          have HB9 := Lib.hid (HB8.out.below hb9)
          clear ht hb9 HW8 HB8 HBj
          by_cases h8 : K % 8 = 0
          · have HQ8 := Lib.hid (show K = 8 * (K / 8) by omega)
            have hq8 : K / 8 ≤ 100 := by omega
            have HNI := Lib.hid (show nums (ints b (K / 8)) = b by rw [nums_ints b HB9.out.rng (K / 8) (by rw [HK.out]; omega), List.take_of_length_le (by rw [HK.out]; omega)])
            have HIl := Lib.hid (ints_length b (K / 8))
            obtain ⟨r, hr⟩ : ∃ r, K / 8 = r := ⟨_, rfl⟩
            rw [hr] at HQ8 hq8 HNI HIl
            have HR8 := Lib.hid (show 8 * r = K from HQ8.out.symm)
            clear hr h8
            go_wp2_with fail
            refine (ints_ok w9 B K D r b HK.out HQ8.out HB9.out (by omega)).mono ?_
            rintro e w10 ⟨g10, rfl, hn10, hw10⟩
            have HW10 := Lib.hid (HW9.out.trans (hw10.mono HW9.out.size))
            have HB10 := Lib.hid (HB9.out.below hw10)
            have HN10 : Hid (Nums w10 (some ⟨g10, 0, none⟩) r (ints b r)) := Lib.hid hn10
            clear hn10 hw10 HW9 HB9
            go_wp2_with fail
            refine (numbers_any w10 (some ⟨g10, 0, none⟩) r r (ints b r) HIl.out HN10.out (by omega)).mono ?_
            rintro e w11 ⟨s11, c11, rfl, hb11, hw11⟩
            rw [HR8.out]
            rw [HNI.out] at hb11
            have HW11 := Lib.hid (HW10.out.trans (hw11.mono HW10.out.size))
            have HB11 := Lib.hid (HB10.out.below hw11)
            have HBn := Lib.hid hb11
            clear hb11 hw11 HW10 HB10 HN10
            go_wp2_with fail
            refine (bytes_any w11 s11 B K K c11 D b b HK.out HK.out HBn.out HB11.out).mono ?_
            rintro e w12 ht
            obtain ⟨rfl, hb12⟩ := ht.below
            rw [decide_eq_true rfl]
            have HW12 := Lib.hid (HW11.out.trans (hb12.mono HW11.out.size))
            clear ht hb12 HW11 HB11 HBn
            go_wp2_with fail
            refine (awake_any _).mono ?_
            rintro e w13 ⟨rfl, hb13⟩
            have HW13 := Lib.hid (HW12.out.trans (hb13.mono HW12.out.size))
            clear hb13
            go_wp2
            go_ret
            exact ⟨rfl, HW13.out⟩
          · go_wp2_with fail
            refine (ints_bad w9 B K D h8 (by omega)).mono ?_
            rintro e w12 ⟨rfl, rfl⟩
            have HW12 := HW9
            clear h8 HW9 HB9
            go_wp2_with fail
            refine (awake_any _).mono ?_
            rintro e w13 ⟨rfl, hb13⟩
            have HW13 := Lib.hid (HW12.out.trans (hb13.mono HW12.out.size))
            clear hb13
            go_wp2
            go_ret
            exact ⟨rfl, HW13.out⟩
        · refine (split_bad w6 B K D b HK.out HB6.out (by omega) hsp).mono ?_
          rintro e w9 ⟨rfl, hw7⟩
          have HW9 := Lib.hid (HW6.out.trans (hw7.mono HW6.out.size))
          have HB9 := Lib.hid (HB6.out.below hw7)
          clear hw7 hsp HW6 HB6
          by_cases h8 : K % 8 = 0
          · have HQ8 := Lib.hid (show K = 8 * (K / 8) by omega)
            have hq8 : K / 8 ≤ 100 := by omega
            have HNI := Lib.hid (show nums (ints b (K / 8)) = b by rw [nums_ints b HB9.out.rng (K / 8) (by rw [HK.out]; omega), List.take_of_length_le (by rw [HK.out]; omega)])
            have HIl := Lib.hid (ints_length b (K / 8))
            obtain ⟨r, hr⟩ : ∃ r, K / 8 = r := ⟨_, rfl⟩
            rw [hr] at HQ8 hq8 HNI HIl
            have HR8 := Lib.hid (show 8 * r = K from HQ8.out.symm)
            clear hr h8
            go_wp2_with fail
            refine (ints_ok w9 B K D r b HK.out HQ8.out HB9.out (by omega)).mono ?_
            rintro e w10 ⟨g10, rfl, hn10, hw10⟩
            have HW10 := Lib.hid (HW9.out.trans (hw10.mono HW9.out.size))
            have HB10 := Lib.hid (HB9.out.below hw10)
            have HN10 : Hid (Nums w10 (some ⟨g10, 0, none⟩) r (ints b r)) := Lib.hid hn10
            clear hn10 hw10 HW9 HB9
            go_wp2_with fail
            refine (numbers_any w10 (some ⟨g10, 0, none⟩) r r (ints b r) HIl.out HN10.out (by omega)).mono ?_
            rintro e w11 ⟨s11, c11, rfl, hb11, hw11⟩
            rw [HR8.out]
            rw [HNI.out] at hb11
            have HW11 := Lib.hid (HW10.out.trans (hw11.mono HW10.out.size))
            have HB11 := Lib.hid (HB10.out.below hw11)
            have HBn := Lib.hid hb11
            clear hb11 hw11 HW10 HB10 HN10
            go_wp2_with fail
            refine (bytes_any w11 s11 B K K c11 D b b HK.out HK.out HBn.out HB11.out).mono ?_
            rintro e w12 ht
            obtain ⟨rfl, hb12⟩ := ht.below
            rw [decide_eq_true rfl]
            have HW12 := Lib.hid (HW11.out.trans (hb12.mono HW11.out.size))
            clear ht hb12 HW11 HB11 HBn
            go_wp2_with fail
            refine (awake_any _).mono ?_
            rintro e w13 ⟨rfl, hb13⟩
            have HW13 := Lib.hid (HW12.out.trans (hb13.mono HW12.out.size))
            clear hb13
            go_wp2
            go_ret
            exact ⟨rfl, HW13.out⟩
          · go_wp2_with fail
            refine (ints_bad w9 B K D h8 (by omega)).mono ?_
            rintro e w12 ⟨rfl, rfl⟩
            have HW12 := HW9
            clear h8 HW9 HB9
            go_wp2_with fail
            refine (awake_any _).mono ?_
            rintro e w13 ⟨rfl, hb13⟩
            have HW13 := Lib.hid (HW12.out.trans (hb13.mono HW12.out.size))
            clear hb13
            go_wp2
            go_ret
            exact ⟨rfl, HW13.out⟩
      · have hd2 : decide ((700 : Int) < (K : Int)) = true := by simp; omega
        go_enter Try.func5, Try.ntmps5
        go_wp2_with fail
        refine (few_any w A N C ls HN.out HL.out).mono ?_
        rintro e w' ⟨rfl, rfl⟩
        rw [HF1.out]
        go_wp2_with fail
        refine (awake_any w).mono ?_
        rintro e w1 ⟨rfl, hb1⟩
        go_wp2
        go_ret
        exact ⟨rfl, hb1⟩
    · have hd1 : decide ((60 : Int) < (M : Int)) = true := by simp; omega
      go_enter Try.func5, Try.ntmps5
      go_wp2_with fail
      refine (few_any w A N C ls HN.out HL.out).mono ?_
      rintro e w' ⟨rfl, rfl⟩
      rw [HF1.out]
      go_wp2_with fail
      refine (awake_any w).mono ?_
      rintro e w1 ⟨rfl, hb1⟩
      go_wp2
      go_ret
      exact ⟨rfl, hb1⟩
  · have HF1 := Lib.hid (decide_eq_false hf1)
    clear hf1
    go_enter Try.func5, Try.ntmps5
    go_wp2_with fail
    refine (few_any w A N C ls HN.out HL.out).mono ?_
    rintro e w' ⟨rfl, rfl⟩
    rw [HF1.out]
    go_wp2_with fail
    refine (awake_any w).mono ?_
    rintro e w1 ⟨rfl, hb1⟩
    go_wp2
    go_ret
    exact ⟨rfl, hb1⟩
end Go.Proofs.Ythjcjjppjjpjfaa
