import Derived.Test.YthjcjjppjjpjfaaRj
import Derived.Test.YthjcjjppjjpjfaaRs
import Derived.Test.YthjcjjppjjpjfaaBk
namespace Go.Proofs.Ythjcjjppjjpjfaa
open Go.ChangeShapes Go.WideShapes Go.ChangeAt Go.RowKit

theorem ref_ok (w : World) (sp : Option Addr) (m cap : Nat) (l : List Int) (ps : List (List Int)) (hm : l.length = m) (hb : Bytes w sp cap l) (hmx : m ≤ 100000) (hj : join ps = l) (hs : small ps) :
    Calls Try.prog 14 #[.slice sp m cap] w fun e w' => ∃ A c, e = .returned (.tuple #[.slice A ps.length c, .bool true]) ∧ Pieces w' A c ps ∧ Below w.heap.size w w' := by
  refine (ref_split w sp m cap l hm hb hmx).mono fun e w' ⟨hw, h⟩ => ?_
  rcases h with ⟨A, c, qs, rfl, hp, hq, hsq⟩ | ⟨_, hno⟩
  · obtain rfl := join_inj hsq hs (hq.trans hj.symm)
    exact ⟨A, c, rfl, hp, hw⟩
  · exact absurd hj (hno ps hs)
theorem ref_bad (w : World) (sp : Option Addr) (m cap : Nat) (l : List Int) (hm : l.length = m) (hb : Bytes w sp cap l) (hmx : m ≤ 100000) (hno : ¬ ∃ ps, small ps ∧ join ps = l) :
    Calls Try.prog 14 #[.slice sp m cap] w fun e w' => e = .returned (.tuple #[.slice none 0 0, .bool false]) ∧ Below w.heap.size w w' := by
  refine (ref_split w sp m cap l hm hb hmx).mono fun e w' ⟨hw, h⟩ => ?_
  rcases h with ⟨A, c, qs, rfl, hp, hq, hsq⟩ | ⟨he, _⟩
  · exact absurd ⟨qs, hsq, hq⟩ hno
  · exact ⟨he, hw⟩
set_option maxRecDepth 100000 in
set_option maxHeartbeats 8000000 in
theorem joins_walk (w : World) (A B : Option Addr) (N K C D : Nat) (ls : List (List Int)) (b : List Int) (hN : ls.length = N) (hK : b.length = K) (hl : Pieces w A C ls) (hb : Bytes w B D b) :
    Calls Try.prog 3 #[.slice A N C, .slice B K D] w fun e w' => e = .returned (.bool true) ∧ Below w.heap.size w w' := by
  have hNm : N ≤ 9223372036854775807 := by rw [← hN]; exact hl.len
  have hKm : K ≤ 9223372036854775807 := by rw [← hK]; exact hb.len
  have HN := Lib.hid hN
  have HK := Lib.hid hK
  have HL := Lib.hid hl
  have HB := Lib.hid hb
  clear hN hK hl hb
  by_cases hf1 : Few ls
  · have hj1 := few_len hf1
    have HF1 := Lib.hid (decide_eq_true hf1)
    clear hf1
    obtain ⟨J, hJ⟩ : ∃ J, (join ls).length = J := ⟨_, rfl⟩
    rw [hJ] at hj1
    have HJ := Lib.hid hJ
    clear hJ
    by_cases hK7 : K ≤ 700
    · have hd2 : decide ((700 : Int) < (K : Int)) = false := by simp; omega
      go_enter Try.func3, Try.ntmps3
      go_wp2_with fail
      refine (few_any w A N C ls HN.out HL.out).mono ?_
      rintro e w' ⟨rfl, rfl⟩
      rw [HF1.out]
      go_wp2_with fail
      refine (join_any w A C N ls HN.out HL.out (by rw [HJ.out]; omega)).mono ?_
      rintro e w1 ⟨s1, c1, rfl, hb1, hw1⟩
      rw [HJ.out]
      have HW1 := Lib.hid hw1
      have HB1 := Lib.hid hb1
      clear hb1 hw1
      go_wp2_with fail
      refine (ref_join w1 A C N ls HN.out (HL.out.below HW1.out) (by rw [HJ.out]; omega)).mono ?_
      rintro e w2 ⟨s2, c2, rfl, hb2, hw2⟩
      rw [HJ.out]
      have HW2 := Lib.hid (HW1.out.trans (hw2.mono HW1.out.size))
      have HB12 := Lib.hid (HB1.out.below hw2)
      have HB2 := Lib.hid hb2
      clear hb2 hw2 HW1 HB1
      go_wp2_with fail
      refine (bytes_any w2 s1 s2 J J c1 c2 (join ls) (join ls) HJ.out HJ.out HB12.out HB2.out).mono ?_
      rintro e w3 ht
      obtain ⟨rfl, hb3⟩ := ht.below
      rw [decide_eq_true rfl]
      have HW3 := Lib.hid (HW2.out.trans (hb3.mono HW2.out.size))
      have HB3 := Lib.hid (HB.out.below HW3.out)
      clear ht hb3 HW2 HB12 HB2
      go_wp2_with fail
      by_cases hsp : ∃ ps, small ps ∧ join ps = b
      · obtain ⟨ps, hps, hjp⟩ := hsp
        refine (split_ok w3 B K D b ps HK.out HB3.out (by omega) hjp hps).mono ?_
        rintro e w4 ⟨s4, c4, rfl, hp4, hw4⟩
        have HW4 := Lib.hid (HW3.out.trans (hw4.mono HW3.out.size))
        have HB4 := Lib.hid (HB3.out.below hw4)
        have HP4 := Lib.hid hp4
        obtain ⟨q, hq⟩ : ∃ q, ps.length = q := ⟨_, rfl⟩
        rw [hq]
        have HQ := Lib.hid hq
        have HPs : Hid (small ps) := Lib.hid hps
        have HJp := Lib.hid hjp
        clear hp4 hw4 hps hjp hq HW3 HB3
        go_wp2_with fail
        refine (ref_ok w4 B K D b ps HK.out HB4.out (by omega) HJp.out HPs.out).mono ?_
        rintro e w5 ⟨s5, c5, rfl, hp5, hw5⟩
        rw [HQ.out]
        have HW5 := Lib.hid (HW4.out.trans (hw5.mono HW4.out.size))
        have HP45 := Lib.hid (HP4.out.below hw5)
        have HP5 := Lib.hid hp5
        clear hp5 hw5 HW4 HB4 HP4
        go_wp2_with fail
        refine (pieces_any w5 s4 s5 q q c4 c5 ps ps HQ.out HQ.out HP45.out HP5.out).mono ?_
        rintro e w6 ht
        obtain ⟨rfl, hb6⟩ := ht.below
        rw [decide_eq_true rfl]
        have HW6 := Lib.hid (HW5.out.trans (hb6.mono HW5.out.size))
        clear ht hb6 HW5 HP45 HP5
        go_wp2_with fail
        refine (awake_any _).mono ?_
        rintro e w13 ⟨rfl, hb13⟩
        have HW13 := Lib.hid (HW6.out.trans (hb13.mono HW6.out.size))
        clear hb13
        go_wp2
        go_ret
        exact ⟨rfl, HW13.out⟩
      · have HSp := Lib.hid hsp
        clear hsp
        refine (split_bad w3 B K D b HK.out HB3.out (by omega) HSp.out).mono ?_
        rintro e w4 ⟨rfl, hw4⟩
        have HW4 := Lib.hid (HW3.out.trans (hw4.mono HW3.out.size))
        have HB4 := Lib.hid (HB3.out.below hw4)
        clear hw4 HW3 HB3
        go_wp2_with fail
        refine (ref_bad w4 B K D b HK.out HB4.out (by omega) HSp.out).mono ?_
        rintro e w5 ⟨rfl, hw5⟩
        have HW5 := Lib.hid (HW4.out.trans (hw5.mono HW4.out.size))
        clear hw5 HW4 HB4
        go_wp2_with fail
        refine (awake_any _).mono ?_
        rintro e w13 ⟨rfl, hb13⟩
        have HW13 := Lib.hid (HW5.out.trans (hb13.mono HW5.out.size))
        clear hb13
        go_wp2
        go_ret
        exact ⟨rfl, HW13.out⟩
    · have hd2 : decide ((700 : Int) < (K : Int)) = true := by simp; omega
      go_enter Try.func3, Try.ntmps3
      go_wp2_with fail
      refine (few_any w A N C ls HN.out HL.out).mono ?_
      rintro e w' ⟨rfl, rfl⟩
      rw [HF1.out]
      go_wp2_with fail
      refine (awake_any w).mono ?_
      rintro e w1 ⟨rfl, hb1⟩
      go_wp2
      go_ret
      exact ⟨rfl, hb1⟩
  · have HF1 := Lib.hid (decide_eq_false hf1)
    clear hf1
    go_enter Try.func3, Try.ntmps3
    go_wp2_with fail
    refine (few_any w A N C ls HN.out HL.out).mono ?_
    rintro e w' ⟨rfl, rfl⟩
    rw [HF1.out]
    go_wp2_with fail
    refine (awake_any w).mono ?_
    rintro e w1 ⟨rfl, hb1⟩
    go_wp2
    go_ret
    exact ⟨rfl, hb1⟩
end Go.Proofs.Ythjcjjppjjpjfaa
