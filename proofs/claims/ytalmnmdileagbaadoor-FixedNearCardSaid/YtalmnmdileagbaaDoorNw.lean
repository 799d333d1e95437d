import Derived.Test.YtalmnmdileagbaaDoorFg
namespace Go.Proofs.YtalmnmdileagbaaDoor.Fx
open Go.ChangeShapes Go.WideShapes Go.ChangeAt Go.RowKit

set_option maxRecDepth 100000 in
set_option maxHeartbeats 4000000 in
theorem near_walk (w : World) (a b : Int) (he : Env w) : Calls Tryd.prog 7 #[.int .i64 a, .int .i64 b] w fun e w' => e = .returned (.bool true) ∧ Below w.heap.size w w' := by
  have HE := Lib.hid he
  clear he
  have HB0 := Lib.hid (Below.refl w.heap.size w)
  have HAc := Lib.hid (fun W => add_any W a b)
  have HAd := Lib.hid (fun W => add_any W b a)
  rw [(add_comm' a b).1, (add_comm' a b).2] at HAd
  have HMc := Lib.hid (fun W => mul_any W a b)
  have HMd := Lib.hid (fun W => mul_any W b a)
  rw [(mul_comm' a b).1, (mul_comm' a b).2] at HMd
  have HAz := Lib.hid (fun h => add_zero (a := a) (b := b) h)
  have HMz := Lib.hid (fun h => mul_zero (a := a) (b := b) h)
  obtain ⟨N, hN⟩ : ∃ N, addR a b = N := ⟨_, rfl⟩
  obtain ⟨E, hE⟩ : ∃ N, addE a b = N := ⟨_, rfl⟩
  obtain ⟨P, hP⟩ : ∃ N, mulR a b = N := ⟨_, rfl⟩
  obtain ⟨G, hG⟩ : ∃ N, mulE a b = N := ⟨_, rfl⟩
  rw [hN, hE] at HAc HAd HAz
  rw [hP, hG] at HMc HMd HMz
  clear hN hE hP hG
  by_cases he : E = 0
  · subst he
    obtain ⟨ja, jb, js, rfl⟩ := HAz.out rfl
    obtain ⟨b1, b2⟩ : -2147483648 ≤ b ∧ b ≤ 2147483647 := ⟨jb.1, jb.2⟩
    by_cases hm : b = -2147483648
    · have db : (b != -2147483648) = false := by simpa using hm
      have HS := Lib.hid (fun W => add_any W (a + b) (-b))
      obtain ⟨Y, hY⟩ : ∃ Y, addR (a + b) (-b) = Y := ⟨_, rfl⟩
      obtain ⟨I, hI⟩ : ∃ I, addE (a + b) (-b) = I := ⟨_, rfl⟩
      rw [hY, hI] at HS
      clear hY hI ja jb js hm
      by_cases hg : G = 0
      · subst hg
        obtain ⟨ka, kb, kp, rfl⟩ := HMz.out rfl
        by_cases hz : b = 0
        · have dz : (b == 0) = true := by simpa using hz
          clear ka kb kp hz
          go_enter Tryd.func7, Tryd.ntmps7
          go_wp2_with fail
          refine (HAc.out _).mono ?_
          rintro e w1 ⟨rfl, hb1⟩
          have HB1 := Lib.hid (HB0.out.trans (hb1.mono HB0.out.size))
          clear hb1
          go_wp2_with fail
          refine (HAd.out _).mono ?_
          rintro e w2 ⟨rfl, hb2⟩
          have HB2 := Lib.hid (HB1.out.trans (hb2.mono HB1.out.size))
          clear hb2
          go_wp2_with fail
          refine (HMc.out _).mono ?_
          rintro e w3 ⟨rfl, hb3⟩
          have HB3 := Lib.hid (HB2.out.trans (hb3.mono HB2.out.size))
          clear hb3
          go_wp2_with fail
          refine (HMd.out _).mono ?_
          rintro e w4 ⟨rfl, hb4⟩
          have HB4 := Lib.hid (HB3.out.trans (hb4.mono HB3.out.size))
          clear hb4
          go_wp2_with fail
          refine (HS.out _).mono ?_
          rintro e w5 ⟨rfl, hb5⟩
          have HB5 := Lib.hid (HB4.out.trans (hb5.mono HB4.out.size))
          clear hb5
          go_wp2_with fail
          refine (awake_any _ (HE.out.below HB5.out)).mono ?_
          rintro e w6 ⟨rfl, hb6⟩
          have HB6 := Lib.hid (HB5.out.trans (hb6.mono HB5.out.size))
          clear hb6
          go_wp2
          go_ret
          exact ⟨rfl, HB6.out⟩
        · have dz : (b == 0) = false := by simpa using hz
          by_cases hd : isN (dv (rnd (a * b)) b)
          · by_cases hs : 0 < b
            · have HD := Lib.hid (fun W => div_any W (rnd (a * b)) b)
              rw [(div_yes kp kb hz hd).1, (div_yes kp kb hz hd).2] at HD
              obtain ⟨a1, a2⟩ : -2147483648 ≤ a ∧ a ≤ 2147483647 := ⟨ka.1, ka.2⟩
              obtain ⟨b1, b2⟩ : -2147483648 ≤ b ∧ b ≤ 2147483647 := ⟨kb.1, kb.2⟩
              have hnr := dv_near (a := a) hz _ rfl
              rw [if_pos (by omega)] at hnr
              obtain ⟨q, hq⟩ : ∃ q, 32768 / b = q := ⟨_, rfl⟩
              rw [hq] at hnr
              have q0 : 0 ≤ q := by rw [← hq]; exact Int.ediv_nonneg (by omega) (by omega)
              have q1 : q ≤ 32768 := by rw [← hq]; exact Int.ediv_le_self _ (by omega)
              obtain ⟨x1, x2⟩ : -2147483648 ≤ dv (rnd (a * b)) b ∧ dv (rnd (a * b)) b ≤ 2147483647 := ⟨hd.1, hd.2⟩
              obtain ⟨R, hR⟩ : ∃ R, rnd (a * b) = R := ⟨_, rfl⟩
              rw [hR] at HD hnr HMc HMd x1 x2
              obtain ⟨X, hX⟩ : ∃ X, dv R b = X := ⟨_, rfl⟩
              rw [hX] at HD hnr x1 x2
              have d1 : decide (X - a ≤ q + 1) = true := by simp; omega
              have d2 : decide (a - X ≤ q + 1) = true := by simp; omega
              clear ka kb kp hd hR hX hnr
              have HQ := Lib.hid hq
              clear hq
              go_enter Tryd.func7, Tryd.ntmps7
              go_wp2_with fail
              refine (HAc.out _).mono ?_
              rintro e w1 ⟨rfl, hb1⟩
              have HB1 := Lib.hid (HB0.out.trans (hb1.mono HB0.out.size))
              clear hb1
              go_wp2_with fail
              refine (HAd.out _).mono ?_
              rintro e w2 ⟨rfl, hb2⟩
              have HB2 := Lib.hid (HB1.out.trans (hb2.mono HB1.out.size))
              clear hb2
              go_wp2_with fail
              refine (HMc.out _).mono ?_
              rintro e w3 ⟨rfl, hb3⟩
              have HB3 := Lib.hid (HB2.out.trans (hb3.mono HB2.out.size))
              clear hb3
              go_wp2_with fail
              refine (HMd.out _).mono ?_
              rintro e w4 ⟨rfl, hb4⟩
              have HB4 := Lib.hid (HB3.out.trans (hb4.mono HB3.out.size))
              clear hb4
              go_wp2_with fail
              refine (HS.out _).mono ?_
              rintro e w5 ⟨rfl, hb5⟩
              have HB5 := Lib.hid (HB4.out.trans (hb5.mono HB4.out.size))
              clear hb5
              go_wp2_with fail
              refine (HD.out _).mono ?_
              rintro e w6 ⟨rfl, hb6⟩
              have HB6 := Lib.hid (HB5.out.trans (hb6.mono HB5.out.size))
              clear hb6
              have hq := HQ.out
              go_wp2_with fail
              refine (awake_any _ (HE.out.below HB6.out)).mono ?_
              rintro e w7 ⟨rfl, hb7⟩
              have HB7 := Lib.hid (HB6.out.trans (hb7.mono HB6.out.size))
              clear hb7
              go_wp2
              go_ret
              exact ⟨rfl, HB7.out⟩
            · have HD := Lib.hid (fun W => div_any W (rnd (a * b)) b)
              rw [(div_yes kp kb hz hd).1, (div_yes kp kb hz hd).2] at HD
              obtain ⟨a1, a2⟩ : -2147483648 ≤ a ∧ a ≤ 2147483647 := ⟨ka.1, ka.2⟩
              obtain ⟨b1, b2⟩ : -2147483648 ≤ b ∧ b ≤ 2147483647 := ⟨kb.1, kb.2⟩
              have hnr := dv_near (a := a) hz _ rfl
              rw [if_neg (by omega)] at hnr
              obtain ⟨m, hm⟩ : ∃ m, -b = m := ⟨_, rfl⟩
              have m0 : 0 < m := by omega
              have m1 : m ≤ 2147483648 := by have := kb.1; omega
              rw [hm] at hnr
              rw [hm] at HS
              obtain ⟨q, hq⟩ : ∃ q, 32768 / m = q := ⟨_, rfl⟩
              rw [hq] at hnr
              have q0 : 0 ≤ q := by rw [← hq]; exact Int.ediv_nonneg (by omega) (by omega)
              have q1 : q ≤ 32768 := by rw [← hq]; exact Int.ediv_le_self _ (by omega)
              obtain ⟨x1, x2⟩ : -2147483648 ≤ dv (rnd (a * b)) b ∧ dv (rnd (a * b)) b ≤ 2147483647 := ⟨hd.1, hd.2⟩
              obtain ⟨R, hR⟩ : ∃ R, rnd (a * b) = R := ⟨_, rfl⟩
              rw [hR] at HD hnr HMc HMd x1 x2
              obtain ⟨X, hX⟩ : ∃ X, dv R b = X := ⟨_, rfl⟩
              rw [hX] at HD hnr x1 x2
              have d1 : decide (X - a ≤ q + 1) = true := by simp; omega
              have d2 : decide (a - X ≤ q + 1) = true := by simp; omega
              clear ka kb kp hd hR hX hnr
              have HQ := Lib.hid hq
              clear hq
              go_enter Tryd.func7, Tryd.ntmps7
              go_wp2_with fail
              refine (HAc.out _).mono ?_
              rintro e w1 ⟨rfl, hb1⟩
              have HB1 := Lib.hid (HB0.out.trans (hb1.mono HB0.out.size))
              clear hb1
              go_wp2_with fail
              refine (HAd.out _).mono ?_
              rintro e w2 ⟨rfl, hb2⟩
              have HB2 := Lib.hid (HB1.out.trans (hb2.mono HB1.out.size))
              clear hb2
              go_wp2_with fail
              refine (HMc.out _).mono ?_
              rintro e w3 ⟨rfl, hb3⟩
              have HB3 := Lib.hid (HB2.out.trans (hb3.mono HB2.out.size))
              clear hb3
              go_wp2_with fail
              refine (HMd.out _).mono ?_
              rintro e w4 ⟨rfl, hb4⟩
              have HB4 := Lib.hid (HB3.out.trans (hb4.mono HB3.out.size))
              clear hb4
              go_wp2_with fail
              refine (HS.out _).mono ?_
              rintro e w5 ⟨rfl, hb5⟩
              have HB5 := Lib.hid (HB4.out.trans (hb5.mono HB4.out.size))
              clear hb5
              go_wp2_with fail
              refine (HD.out _).mono ?_
              rintro e w6 ⟨rfl, hb6⟩
              have HB6 := Lib.hid (HB5.out.trans (hb6.mono HB5.out.size))
              clear hb6
              have hq := HQ.out
              go_wp2_with fail
              refine (awake_any _ (HE.out.below HB6.out)).mono ?_
              rintro e w7 ⟨rfl, hb7⟩
              have HB7 := Lib.hid (HB6.out.trans (hb7.mono HB6.out.size))
              clear hb7
              go_wp2
              go_ret
              exact ⟨rfl, HB7.out⟩
          · have HD := Lib.hid (fun W => div_any W (rnd (a * b)) b)
            rw [div_over kp kb hz hd] at HD
            obtain ⟨X, hX⟩ : ∃ X, divR (rnd (a * b)) b = X := ⟨_, rfl⟩
            rw [hX] at HD
            obtain ⟨R, hR⟩ : ∃ R, rnd (a * b) = R := ⟨_, rfl⟩
            rw [hR] at HD HMc HMd
            clear ka kb kp hz hd hX hR
            go_enter Tryd.func7, Tryd.ntmps7
            go_wp2_with fail
            refine (HAc.out _).mono ?_
            rintro e w1 ⟨rfl, hb1⟩
            have HB1 := Lib.hid (HB0.out.trans (hb1.mono HB0.out.size))
            clear hb1
            go_wp2_with fail
            refine (HAd.out _).mono ?_
            rintro e w2 ⟨rfl, hb2⟩
            have HB2 := Lib.hid (HB1.out.trans (hb2.mono HB1.out.size))
            clear hb2
            go_wp2_with fail
            refine (HMc.out _).mono ?_
            rintro e w3 ⟨rfl, hb3⟩
            have HB3 := Lib.hid (HB2.out.trans (hb3.mono HB2.out.size))
            clear hb3
            go_wp2_with fail
            refine (HMd.out _).mono ?_
            rintro e w4 ⟨rfl, hb4⟩
            have HB4 := Lib.hid (HB3.out.trans (hb4.mono HB3.out.size))
            clear hb4
            go_wp2_with fail
            refine (HS.out _).mono ?_
            rintro e w5 ⟨rfl, hb5⟩
            have HB5 := Lib.hid (HB4.out.trans (hb5.mono HB4.out.size))
            clear hb5
            go_wp2_with fail
            refine (HD.out _).mono ?_
            rintro e w6 ⟨rfl, hb6⟩
            have HB6 := Lib.hid (HB5.out.trans (hb6.mono HB5.out.size))
            clear hb6
            go_wp2_with fail
            refine (awake_any _ (HE.out.below HB6.out)).mono ?_
            rintro e w7 ⟨rfl, hb7⟩
            have HB7 := Lib.hid (HB6.out.trans (hb7.mono HB6.out.size))
            clear hb7
            go_wp2
            go_ret
            exact ⟨rfl, HB7.out⟩
      · have dg : (G != 0) = true := by simpa using hg
        clear hg
        go_enter Tryd.func7, Tryd.ntmps7
        go_wp2_with fail
        refine (HAc.out _).mono ?_
        rintro e w1 ⟨rfl, hb1⟩
        have HB1 := Lib.hid (HB0.out.trans (hb1.mono HB0.out.size))
        clear hb1
        go_wp2_with fail
        refine (HAd.out _).mono ?_
        rintro e w2 ⟨rfl, hb2⟩
        have HB2 := Lib.hid (HB1.out.trans (hb2.mono HB1.out.size))
        clear hb2
        go_wp2_with fail
        refine (HMc.out _).mono ?_
        rintro e w3 ⟨rfl, hb3⟩
        have HB3 := Lib.hid (HB2.out.trans (hb3.mono HB2.out.size))
        clear hb3
        go_wp2_with fail
        refine (HMd.out _).mono ?_
        rintro e w4 ⟨rfl, hb4⟩
        have HB4 := Lib.hid (HB3.out.trans (hb4.mono HB3.out.size))
        clear hb4
        go_wp2_with fail
        refine (HS.out _).mono ?_
        rintro e w5 ⟨rfl, hb5⟩
        have HB5 := Lib.hid (HB4.out.trans (hb5.mono HB4.out.size))
        clear hb5
        go_wp2_with fail
        refine (awake_any _ (HE.out.below HB5.out)).mono ?_
        rintro e w6 ⟨rfl, hb6⟩
        have HB6 := Lib.hid (HB5.out.trans (hb6.mono HB5.out.size))
        clear hb6
        go_wp2
        go_ret
        exact ⟨rfl, HB6.out⟩
    · have db : (b != -2147483648) = true := by simpa using hm
      have HS := Lib.hid (fun W => add_any W (a + b) (-b))
      have hss := add_sub ja js (show isN (-b) by have := jb.1; have := jb.2; unfold isN; omega)
      rw [hss.1, hss.2] at HS
      clear hss ja jb js hm
      by_cases hg : G = 0
      · subst hg
        obtain ⟨ka, kb, kp, rfl⟩ := HMz.out rfl
        by_cases hz : b = 0
        · have dz : (b == 0) = true := by simpa using hz
          clear ka kb kp hz
          go_enter Tryd.func7, Tryd.ntmps7
          go_wp2_with fail
          refine (HAc.out _).mono ?_
          rintro e w1 ⟨rfl, hb1⟩
          have HB1 := Lib.hid (HB0.out.trans (hb1.mono HB0.out.size))
          clear hb1
          go_wp2_with fail
          refine (HAd.out _).mono ?_
          rintro e w2 ⟨rfl, hb2⟩
          have HB2 := Lib.hid (HB1.out.trans (hb2.mono HB1.out.size))
          clear hb2
          go_wp2_with fail
          refine (HMc.out _).mono ?_
          rintro e w3 ⟨rfl, hb3⟩
          have HB3 := Lib.hid (HB2.out.trans (hb3.mono HB2.out.size))
          clear hb3
          go_wp2_with fail
          refine (HMd.out _).mono ?_
          rintro e w4 ⟨rfl, hb4⟩
          have HB4 := Lib.hid (HB3.out.trans (hb4.mono HB3.out.size))
          clear hb4
          go_wp2_with fail
          refine (HS.out _).mono ?_
          rintro e w5 ⟨rfl, hb5⟩
          have HB5 := Lib.hid (HB4.out.trans (hb5.mono HB4.out.size))
          clear hb5
          go_wp2_with fail
          refine (awake_any _ (HE.out.below HB5.out)).mono ?_
          rintro e w6 ⟨rfl, hb6⟩
          have HB6 := Lib.hid (HB5.out.trans (hb6.mono HB5.out.size))
          clear hb6
          go_wp2
          go_ret
          exact ⟨rfl, HB6.out⟩
        · have dz : (b == 0) = false := by simpa using hz
          by_cases hd : isN (dv (rnd (a * b)) b)
          · by_cases hs : 0 < b
            · have HD := Lib.hid (fun W => div_any W (rnd (a * b)) b)
              rw [(div_yes kp kb hz hd).1, (div_yes kp kb hz hd).2] at HD
              obtain ⟨a1, a2⟩ : -2147483648 ≤ a ∧ a ≤ 2147483647 := ⟨ka.1, ka.2⟩
              obtain ⟨b1, b2⟩ : -2147483648 ≤ b ∧ b ≤ 2147483647 := ⟨kb.1, kb.2⟩
              have hnr := dv_near (a := a) hz _ rfl
              rw [if_pos (by omega)] at hnr
              obtain ⟨q, hq⟩ : ∃ q, 32768 / b = q := ⟨_, rfl⟩
              rw [hq] at hnr
              have q0 : 0 ≤ q := by rw [← hq]; exact Int.ediv_nonneg (by omega) (by omega)
              have q1 : q ≤ 32768 := by rw [← hq]; exact Int.ediv_le_self _ (by omega)
              obtain ⟨x1, x2⟩ : -2147483648 ≤ dv (rnd (a * b)) b ∧ dv (rnd (a * b)) b ≤ 2147483647 := ⟨hd.1, hd.2⟩
              obtain ⟨R, hR⟩ : ∃ R, rnd (a * b) = R := ⟨_, rfl⟩
              rw [hR] at HD hnr HMc HMd x1 x2
              obtain ⟨X, hX⟩ : ∃ X, dv R b = X := ⟨_, rfl⟩
              rw [hX] at HD hnr x1 x2
              have d1 : decide (X - a ≤ q + 1) = true := by simp; omega
              have d2 : decide (a - X ≤ q + 1) = true := by simp; omega
              clear ka kb kp hd hR hX hnr
              have HQ := Lib.hid hq
              clear hq
              go_enter Tryd.func7, Tryd.ntmps7
              go_wp2_with fail
              refine (HAc.out _).mono ?_
              rintro e w1 ⟨rfl, hb1⟩
              have HB1 := Lib.hid (HB0.out.trans (hb1.mono HB0.out.size))
              clear hb1
              go_wp2_with fail
              refine (HAd.out _).mono ?_
              rintro e w2 ⟨rfl, hb2⟩
              have HB2 := Lib.hid (HB1.out.trans (hb2.mono HB1.out.size))
              clear hb2
              go_wp2_with fail
              refine (HMc.out _).mono ?_
              rintro e w3 ⟨rfl, hb3⟩
              have HB3 := Lib.hid (HB2.out.trans (hb3.mono HB2.out.size))
              clear hb3
              go_wp2_with fail
              refine (HMd.out _).mono ?_
              rintro e w4 ⟨rfl, hb4⟩
              have HB4 := Lib.hid (HB3.out.trans (hb4.mono HB3.out.size))
              clear hb4
              go_wp2_with fail
              refine (HS.out _).mono ?_
              rintro e w5 ⟨rfl, hb5⟩
              have HB5 := Lib.hid (HB4.out.trans (hb5.mono HB4.out.size))
              clear hb5
              go_wp2_with fail
              refine (HD.out _).mono ?_
              rintro e w6 ⟨rfl, hb6⟩
              have HB6 := Lib.hid (HB5.out.trans (hb6.mono HB5.out.size))
              clear hb6
              have hq := HQ.out
              go_wp2_with fail
              refine (awake_any _ (HE.out.below HB6.out)).mono ?_
              rintro e w7 ⟨rfl, hb7⟩
              have HB7 := Lib.hid (HB6.out.trans (hb7.mono HB6.out.size))
              clear hb7
              go_wp2
              go_ret
              exact ⟨rfl, HB7.out⟩
            · have HD := Lib.hid (fun W => div_any W (rnd (a * b)) b)
              rw [(div_yes kp kb hz hd).1, (div_yes kp kb hz hd).2] at HD
              obtain ⟨a1, a2⟩ : -2147483648 ≤ a ∧ a ≤ 2147483647 := ⟨ka.1, ka.2⟩
              obtain ⟨b1, b2⟩ : -2147483648 ≤ b ∧ b ≤ 2147483647 := ⟨kb.1, kb.2⟩
              have hnr := dv_near (a := a) hz _ rfl
              rw [if_neg (by omega)] at hnr
              obtain ⟨m, hm⟩ : ∃ m, -b = m := ⟨_, rfl⟩
              have m0 : 0 < m := by omega
              have m1 : m ≤ 2147483648 := by have := kb.1; omega
              rw [hm] at hnr
              rw [hm] at HS
              obtain ⟨q, hq⟩ : ∃ q, 32768 / m = q := ⟨_, rfl⟩
              rw [hq] at hnr
              have q0 : 0 ≤ q := by rw [← hq]; exact Int.ediv_nonneg (by omega) (by omega)
              have q1 : q ≤ 32768 := by rw [← hq]; exact Int.ediv_le_self _ (by omega)
              obtain ⟨x1, x2⟩ : -2147483648 ≤ dv (rnd (a * b)) b ∧ dv (rnd (a * b)) b ≤ 2147483647 := ⟨hd.1, hd.2⟩
              obtain ⟨R, hR⟩ : ∃ R, rnd (a * b) = R := ⟨_, rfl⟩
              rw [hR] at HD hnr HMc HMd x1 x2
              obtain ⟨X, hX⟩ : ∃ X, dv R b = X := ⟨_, rfl⟩
              rw [hX] at HD hnr x1 x2
              have d1 : decide (X - a ≤ q + 1) = true := by simp; omega
              have d2 : decide (a - X ≤ q + 1) = true := by simp; omega
              clear ka kb kp hd hR hX hnr
              have HQ := Lib.hid hq
              clear hq
              go_enter Tryd.func7, Tryd.ntmps7
              go_wp2_with fail
              refine (HAc.out _).mono ?_
              rintro e w1 ⟨rfl, hb1⟩
              have HB1 := Lib.hid (HB0.out.trans (hb1.mono HB0.out.size))
              clear hb1
              go_wp2_with fail
              refine (HAd.out _).mono ?_
              rintro e w2 ⟨rfl, hb2⟩
              have HB2 := Lib.hid (HB1.out.trans (hb2.mono HB1.out.size))
              clear hb2
              go_wp2_with fail
              refine (HMc.out _).mono ?_
              rintro e w3 ⟨rfl, hb3⟩
              have HB3 := Lib.hid (HB2.out.trans (hb3.mono HB2.out.size))
              clear hb3
              go_wp2_with fail
              refine (HMd.out _).mono ?_
              rintro e w4 ⟨rfl, hb4⟩
              have HB4 := Lib.hid (HB3.out.trans (hb4.mono HB3.out.size))
              clear hb4
              go_wp2_with fail
              refine (HS.out _).mono ?_
              rintro e w5 ⟨rfl, hb5⟩
              have HB5 := Lib.hid (HB4.out.trans (hb5.mono HB4.out.size))
              clear hb5
              go_wp2_with fail
              refine (HD.out _).mono ?_
              rintro e w6 ⟨rfl, hb6⟩
              have HB6 := Lib.hid (HB5.out.trans (hb6.mono HB5.out.size))
              clear hb6
              have hq := HQ.out
              go_wp2_with fail
              refine (awake_any _ (HE.out.below HB6.out)).mono ?_
              rintro e w7 ⟨rfl, hb7⟩
              have HB7 := Lib.hid (HB6.out.trans (hb7.mono HB6.out.size))
              clear hb7
              go_wp2
              go_ret
              exact ⟨rfl, HB7.out⟩
          · have HD := Lib.hid (fun W => div_any W (rnd (a * b)) b)
            rw [div_over kp kb hz hd] at HD
            obtain ⟨X, hX⟩ : ∃ X, divR (rnd (a * b)) b = X := ⟨_, rfl⟩
            rw [hX] at HD
            obtain ⟨R, hR⟩ : ∃ R, rnd (a * b) = R := ⟨_, rfl⟩
            rw [hR] at HD HMc HMd
            clear ka kb kp hz hd hX hR
            go_enter Tryd.func7, Tryd.ntmps7
            go_wp2_with fail
            refine (HAc.out _).mono ?_
            rintro e w1 ⟨rfl, hb1⟩
            have HB1 := Lib.hid (HB0.out.trans (hb1.mono HB0.out.size))
            clear hb1
            go_wp2_with fail
            refine (HAd.out _).mono ?_
            rintro e w2 ⟨rfl, hb2⟩
            have HB2 := Lib.hid (HB1.out.trans (hb2.mono HB1.out.size))
            clear hb2
            go_wp2_with fail
            refine (HMc.out _).mono ?_
            rintro e w3 ⟨rfl, hb3⟩
            have HB3 := Lib.hid (HB2.out.trans (hb3.mono HB2.out.size))
            clear hb3
            go_wp2_with fail
            refine (HMd.out _).mono ?_
            rintro e w4 ⟨rfl, hb4⟩
            have HB4 := Lib.hid (HB3.out.trans (hb4.mono HB3.out.size))
            clear hb4
            go_wp2_with fail
            refine (HS.out _).mono ?_
            rintro e w5 ⟨rfl, hb5⟩
            have HB5 := Lib.hid (HB4.out.trans (hb5.mono HB4.out.size))
            clear hb5
            go_wp2_with fail
            refine (HD.out _).mono ?_
            rintro e w6 ⟨rfl, hb6⟩
            have HB6 := Lib.hid (HB5.out.trans (hb6.mono HB5.out.size))
            clear hb6
            go_wp2_with fail
            refine (awake_any _ (HE.out.below HB6.out)).mono ?_
            rintro e w7 ⟨rfl, hb7⟩
            have HB7 := Lib.hid (HB6.out.trans (hb7.mono HB6.out.size))
            clear hb7
            go_wp2
            go_ret
            exact ⟨rfl, HB7.out⟩
      · have dg : (G != 0) = true := by simpa using hg
        clear hg
        go_enter Tryd.func7, Tryd.ntmps7
        go_wp2_with fail
        refine (HAc.out _).mono ?_
        rintro e w1 ⟨rfl, hb1⟩
        have HB1 := Lib.hid (HB0.out.trans (hb1.mono HB0.out.size))
        clear hb1
        go_wp2_with fail
        refine (HAd.out _).mono ?_
        rintro e w2 ⟨rfl, hb2⟩
        have HB2 := Lib.hid (HB1.out.trans (hb2.mono HB1.out.size))
        clear hb2
        go_wp2_with fail
        refine (HMc.out _).mono ?_
        rintro e w3 ⟨rfl, hb3⟩
        have HB3 := Lib.hid (HB2.out.trans (hb3.mono HB2.out.size))
        clear hb3
        go_wp2_with fail
        refine (HMd.out _).mono ?_
        rintro e w4 ⟨rfl, hb4⟩
        have HB4 := Lib.hid (HB3.out.trans (hb4.mono HB3.out.size))
        clear hb4
        go_wp2_with fail
        refine (HS.out _).mono ?_
        rintro e w5 ⟨rfl, hb5⟩
        have HB5 := Lib.hid (HB4.out.trans (hb5.mono HB4.out.size))
        clear hb5
        go_wp2_with fail
        refine (awake_any _ (HE.out.below HB5.out)).mono ?_
        rintro e w6 ⟨rfl, hb6⟩
        have HB6 := Lib.hid (HB5.out.trans (hb6.mono HB5.out.size))
        clear hb6
        go_wp2
        go_ret
        exact ⟨rfl, HB6.out⟩
  · have de : (E == 0) = false := by simpa using he
    clear he
    by_cases hg : G = 0
    · subst hg
      obtain ⟨ka, kb, kp, rfl⟩ := HMz.out rfl
      by_cases hz : b = 0
      · have dz : (b == 0) = true := by simpa using hz
        clear ka kb kp hz
        go_enter Tryd.func7, Tryd.ntmps7
        go_wp2_with fail
        refine (HAc.out _).mono ?_
        rintro e w1 ⟨rfl, hb1⟩
        have HB1 := Lib.hid (HB0.out.trans (hb1.mono HB0.out.size))
        clear hb1
        go_wp2_with fail
        refine (HAd.out _).mono ?_
        rintro e w2 ⟨rfl, hb2⟩
        have HB2 := Lib.hid (HB1.out.trans (hb2.mono HB1.out.size))
        clear hb2
        go_wp2_with fail
        refine (HMc.out _).mono ?_
        rintro e w3 ⟨rfl, hb3⟩
        have HB3 := Lib.hid (HB2.out.trans (hb3.mono HB2.out.size))
        clear hb3
        go_wp2_with fail
        refine (HMd.out _).mono ?_
        rintro e w4 ⟨rfl, hb4⟩
        have HB4 := Lib.hid (HB3.out.trans (hb4.mono HB3.out.size))
        clear hb4
        go_wp2_with fail
        refine (awake_any _ (HE.out.below HB4.out)).mono ?_
        rintro e w5 ⟨rfl, hb5⟩
        have HB5 := Lib.hid (HB4.out.trans (hb5.mono HB4.out.size))
        clear hb5
        go_wp2
        go_ret
        exact ⟨rfl, HB5.out⟩
      · have dz : (b == 0) = false := by simpa using hz
        by_cases hd : isN (dv (rnd (a * b)) b)
        · by_cases hs : 0 < b
          · have HD := Lib.hid (fun W => div_any W (rnd (a * b)) b)
            rw [(div_yes kp kb hz hd).1, (div_yes kp kb hz hd).2] at HD
            obtain ⟨a1, a2⟩ : -2147483648 ≤ a ∧ a ≤ 2147483647 := ⟨ka.1, ka.2⟩
            obtain ⟨b1, b2⟩ : -2147483648 ≤ b ∧ b ≤ 2147483647 := ⟨kb.1, kb.2⟩
            have hnr := dv_near (a := a) hz _ rfl
            rw [if_pos (by omega)] at hnr
            obtain ⟨q, hq⟩ : ∃ q, 32768 / b = q := ⟨_, rfl⟩
            rw [hq] at hnr
            have q0 : 0 ≤ q := by rw [← hq]; exact Int.ediv_nonneg (by omega) (by omega)
            have q1 : q ≤ 32768 := by rw [← hq]; exact Int.ediv_le_self _ (by omega)
            obtain ⟨x1, x2⟩ : -2147483648 ≤ dv (rnd (a * b)) b ∧ dv (rnd (a * b)) b ≤ 2147483647 := ⟨hd.1, hd.2⟩
            obtain ⟨R, hR⟩ : ∃ R, rnd (a * b) = R := ⟨_, rfl⟩
            rw [hR] at HD hnr HMc HMd x1 x2
            obtain ⟨X, hX⟩ : ∃ X, dv R b = X := ⟨_, rfl⟩
            rw [hX] at HD hnr x1 x2
            have d1 : decide (X - a ≤ q + 1) = true := by simp; omega
            have d2 : decide (a - X ≤ q + 1) = true := by simp; omega
            clear ka kb kp hd hR hX hnr
            have HQ := Lib.hid hq
            clear hq
            go_enter Tryd.func7, Tryd.ntmps7
            go_wp2_with fail
            refine (HAc.out _).mono ?_
            rintro e w1 ⟨rfl, hb1⟩
            have HB1 := Lib.hid (HB0.out.trans (hb1.mono HB0.out.size))
            clear hb1
            go_wp2_with fail
            refine (HAd.out _).mono ?_
            rintro e w2 ⟨rfl, hb2⟩
            have HB2 := Lib.hid (HB1.out.trans (hb2.mono HB1.out.size))
            clear hb2
            go_wp2_with fail
            refine (HMc.out _).mono ?_
            rintro e w3 ⟨rfl, hb3⟩
            have HB3 := Lib.hid (HB2.out.trans (hb3.mono HB2.out.size))
            clear hb3
            go_wp2_with fail
            refine (HMd.out _).mono ?_
            rintro e w4 ⟨rfl, hb4⟩
            have HB4 := Lib.hid (HB3.out.trans (hb4.mono HB3.out.size))
            clear hb4
            go_wp2_with fail
            refine (HD.out _).mono ?_
            rintro e w5 ⟨rfl, hb5⟩
            have HB5 := Lib.hid (HB4.out.trans (hb5.mono HB4.out.size))
            clear hb5
            have hq := HQ.out
            go_wp2_with fail
            refine (awake_any _ (HE.out.below HB5.out)).mono ?_
            rintro e w6 ⟨rfl, hb6⟩
            have HB6 := Lib.hid (HB5.out.trans (hb6.mono HB5.out.size))
            clear hb6
            go_wp2
            go_ret
            exact ⟨rfl, HB6.out⟩
          · have HD := Lib.hid (fun W => div_any W (rnd (a * b)) b)
            rw [(div_yes kp kb hz hd).1, (div_yes kp kb hz hd).2] at HD
            obtain ⟨a1, a2⟩ : -2147483648 ≤ a ∧ a ≤ 2147483647 := ⟨ka.1, ka.2⟩
            obtain ⟨b1, b2⟩ : -2147483648 ≤ b ∧ b ≤ 2147483647 := ⟨kb.1, kb.2⟩
            have hnr := dv_near (a := a) hz _ rfl
            rw [if_neg (by omega)] at hnr
            obtain ⟨m, hm⟩ : ∃ m, -b = m := ⟨_, rfl⟩
            have m0 : 0 < m := by omega
            have m1 : m ≤ 2147483648 := by have := kb.1; omega
            rw [hm] at hnr
            obtain ⟨q, hq⟩ : ∃ q, 32768 / m = q := ⟨_, rfl⟩
            rw [hq] at hnr
            have q0 : 0 ≤ q := by rw [← hq]; exact Int.ediv_nonneg (by omega) (by omega)
            have q1 : q ≤ 32768 := by rw [← hq]; exact Int.ediv_le_self _ (by omega)
            obtain ⟨x1, x2⟩ : -2147483648 ≤ dv (rnd (a * b)) b ∧ dv (rnd (a * b)) b ≤ 2147483647 := ⟨hd.1, hd.2⟩
            obtain ⟨R, hR⟩ : ∃ R, rnd (a * b) = R := ⟨_, rfl⟩
            rw [hR] at HD hnr HMc HMd x1 x2
            obtain ⟨X, hX⟩ : ∃ X, dv R b = X := ⟨_, rfl⟩
            rw [hX] at HD hnr x1 x2
            have d1 : decide (X - a ≤ q + 1) = true := by simp; omega
            have d2 : decide (a - X ≤ q + 1) = true := by simp; omega
            clear ka kb kp hd hR hX hnr
            have HQ := Lib.hid hq
            clear hq
            go_enter Tryd.func7, Tryd.ntmps7
            go_wp2_with fail
            refine (HAc.out _).mono ?_
            rintro e w1 ⟨rfl, hb1⟩
            have HB1 := Lib.hid (HB0.out.trans (hb1.mono HB0.out.size))
            clear hb1
            go_wp2_with fail
            refine (HAd.out _).mono ?_
            rintro e w2 ⟨rfl, hb2⟩
            have HB2 := Lib.hid (HB1.out.trans (hb2.mono HB1.out.size))
            clear hb2
            go_wp2_with fail
            refine (HMc.out _).mono ?_
            rintro e w3 ⟨rfl, hb3⟩
            have HB3 := Lib.hid (HB2.out.trans (hb3.mono HB2.out.size))
            clear hb3
            go_wp2_with fail
            refine (HMd.out _).mono ?_
            rintro e w4 ⟨rfl, hb4⟩
            have HB4 := Lib.hid (HB3.out.trans (hb4.mono HB3.out.size))
            clear hb4
            go_wp2_with fail
            refine (HD.out _).mono ?_
            rintro e w5 ⟨rfl, hb5⟩
            have HB5 := Lib.hid (HB4.out.trans (hb5.mono HB4.out.size))
            clear hb5
            have hq := HQ.out
            go_wp2_with fail
            refine (awake_any _ (HE.out.below HB5.out)).mono ?_
            rintro e w6 ⟨rfl, hb6⟩
            have HB6 := Lib.hid (HB5.out.trans (hb6.mono HB5.out.size))
            clear hb6
            go_wp2
            go_ret
            exact ⟨rfl, HB6.out⟩
        · have HD := Lib.hid (fun W => div_any W (rnd (a * b)) b)
          rw [div_over kp kb hz hd] at HD
          obtain ⟨X, hX⟩ : ∃ X, divR (rnd (a * b)) b = X := ⟨_, rfl⟩
          rw [hX] at HD
          obtain ⟨R, hR⟩ : ∃ R, rnd (a * b) = R := ⟨_, rfl⟩
          rw [hR] at HD HMc HMd
          clear ka kb kp hz hd hX hR
          go_enter Tryd.func7, Tryd.ntmps7
          go_wp2_with fail
          refine (HAc.out _).mono ?_
          rintro e w1 ⟨rfl, hb1⟩
          have HB1 := Lib.hid (HB0.out.trans (hb1.mono HB0.out.size))
          clear hb1
          go_wp2_with fail
          refine (HAd.out _).mono ?_
          rintro e w2 ⟨rfl, hb2⟩
          have HB2 := Lib.hid (HB1.out.trans (hb2.mono HB1.out.size))
          clear hb2
          go_wp2_with fail
          refine (HMc.out _).mono ?_
          rintro e w3 ⟨rfl, hb3⟩
          have HB3 := Lib.hid (HB2.out.trans (hb3.mono HB2.out.size))
          clear hb3
          go_wp2_with fail
          refine (HMd.out _).mono ?_
          rintro e w4 ⟨rfl, hb4⟩
          have HB4 := Lib.hid (HB3.out.trans (hb4.mono HB3.out.size))
          clear hb4
          go_wp2_with fail
          refine (HD.out _).mono ?_
          rintro e w5 ⟨rfl, hb5⟩
          have HB5 := Lib.hid (HB4.out.trans (hb5.mono HB4.out.size))
          clear hb5
          go_wp2_with fail
          refine (awake_any _ (HE.out.below HB5.out)).mono ?_
          rintro e w6 ⟨rfl, hb6⟩
          have HB6 := Lib.hid (HB5.out.trans (hb6.mono HB5.out.size))
          clear hb6
          go_wp2
          go_ret
          exact ⟨rfl, HB6.out⟩
    · have dg : (G != 0) = true := by simpa using hg
      clear hg
      go_enter Tryd.func7, Tryd.ntmps7
      go_wp2_with fail
      refine (HAc.out _).mono ?_
      rintro e w1 ⟨rfl, hb1⟩
      have HB1 := Lib.hid (HB0.out.trans (hb1.mono HB0.out.size))
      clear hb1
      go_wp2_with fail
      refine (HAd.out _).mono ?_
      rintro e w2 ⟨rfl, hb2⟩
      have HB2 := Lib.hid (HB1.out.trans (hb2.mono HB1.out.size))
      clear hb2
      go_wp2_with fail
      refine (HMc.out _).mono ?_
      rintro e w3 ⟨rfl, hb3⟩
      have HB3 := Lib.hid (HB2.out.trans (hb3.mono HB2.out.size))
      clear hb3
      go_wp2_with fail
      refine (HMd.out _).mono ?_
      rintro e w4 ⟨rfl, hb4⟩
      have HB4 := Lib.hid (HB3.out.trans (hb4.mono HB3.out.size))
      clear hb4
      go_wp2_with fail
      refine (awake_any _ (HE.out.below HB4.out)).mono ?_
      rintro e w5 ⟨rfl, hb5⟩
      have HB5 := Lib.hid (HB4.out.trans (hb5.mono HB4.out.size))
      clear hb5
      go_wp2
      go_ret
      exact ⟨rfl, HB5.out⟩
end Go.Proofs.YtalmnmdileagbaaDoor.Fx
