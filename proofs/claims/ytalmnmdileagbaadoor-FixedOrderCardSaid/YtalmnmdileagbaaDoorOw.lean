import Derived.Test.YtalmnmdileagbaaDoorFg
namespace Go.Proofs.YtalmnmdileagbaaDoor.Fx
open Go.ChangeShapes Go.WideShapes Go.ChangeAt Go.RowKit

set_option maxRecDepth 100000 in
set_option maxHeartbeats 4000000 in
theorem order_walk (w : World) (a b c : Int) (he : Env w) : Calls Tryd.prog 9 #[.int .i64 a, .int .i64 b, .int .i64 c] w fun e w' => e = .returned (.bool true) ∧ Below w.heap.size w w' := by
  have HE := Lib.hid he
  clear he
  have HB0 := Lib.hid (Below.refl w.heap.size w)
  by_cases h : b < a
  · have d0 : decide (b < a) = true := by simpa using h
    go_enter Tryd.func9, Tryd.ntmps9
    go_wp2_with fail
    refine (awake_any _ (HE.out.below HB0.out)).mono ?_
    rintro e w1 ⟨rfl, hb1⟩
    have HB1 := Lib.hid (HB0.out.trans (hb1.mono HB0.out.size))
    clear hb1
    go_wp2
    go_ret
    exact ⟨rfl, HB1.out⟩
  · have hab : a ≤ b := by omega
    have d0 : decide (b < a) = false := by simpa using h
    have HAa := Lib.hid (fun W => add_any W a c)
    have HAb := Lib.hid (fun W => add_any W b c)
    have HMa := Lib.hid (fun W => mul_any W a c)
    have HMb := Lib.hid (fun W => mul_any W b c)
    have HDa := Lib.hid (fun W => div_any W a c)
    have HDb := Lib.hid (fun W => div_any W b c)
    have HRa := Lib.hid (fun W => root_any W a)
    have HRb := Lib.hid (fun W => root_any W b)
    have HAo := Lib.hid (add_mono (c := c) hab)
    have HMu := Lib.hid (mul_up (c := c) hab)
    have HMd := Lib.hid (mul_down (c := c) hab)
    have HDu := Lib.hid (div_up (c := c) hab)
    have HDd := Lib.hid (div_down (c := c) hab)
    have HRo := Lib.hid (root_mono hab)
    obtain ⟨Aa, h1⟩ : ∃ N, addR a c = N := ⟨_, rfl⟩
    obtain ⟨Aa', h2⟩ : ∃ N, addE a c = N := ⟨_, rfl⟩
    rw [h1, h2] at HAa HAo
    clear h1 h2
    obtain ⟨Ab, h1⟩ : ∃ N, addR b c = N := ⟨_, rfl⟩
    obtain ⟨Ab', h2⟩ : ∃ N, addE b c = N := ⟨_, rfl⟩
    rw [h1, h2] at HAb HAo
    clear h1 h2
    obtain ⟨Ma, h1⟩ : ∃ N, mulR a c = N := ⟨_, rfl⟩
    obtain ⟨Ma', h2⟩ : ∃ N, mulE a c = N := ⟨_, rfl⟩
    rw [h1, h2] at HMa HMu HMd
    clear h1 h2
    obtain ⟨Mb, h1⟩ : ∃ N, mulR b c = N := ⟨_, rfl⟩
    obtain ⟨Mb', h2⟩ : ∃ N, mulE b c = N := ⟨_, rfl⟩
    rw [h1, h2] at HMb HMu HMd
    clear h1 h2
    obtain ⟨Da, h1⟩ : ∃ N, divR a c = N := ⟨_, rfl⟩
    obtain ⟨Da', h2⟩ : ∃ N, divE a c = N := ⟨_, rfl⟩
    rw [h1, h2] at HDa HDu HDd
    clear h1 h2
    obtain ⟨Db, h1⟩ : ∃ N, divR b c = N := ⟨_, rfl⟩
    obtain ⟨Db', h2⟩ : ∃ N, divE b c = N := ⟨_, rfl⟩
    rw [h1, h2] at HDb HDu HDd
    clear h1 h2
    obtain ⟨Ra, h1⟩ : ∃ N, rootR a = N := ⟨_, rfl⟩
    obtain ⟨Ra', h2⟩ : ∃ N, rootE a = N := ⟨_, rfl⟩
    rw [h1, h2] at HRa HRo
    clear h1 h2
    obtain ⟨Rb, h1⟩ : ∃ N, rootR b = N := ⟨_, rfl⟩
    obtain ⟨Rb', h2⟩ : ∃ N, rootE b = N := ⟨_, rfl⟩
    rw [h1, h2] at HRb HRo
    clear h1 h2
    clear h hab
    go_enter Tryd.func9, Tryd.ntmps9
    go_wp2_with fail
    refine (HAa.out _).mono ?_
    rintro e w1 ⟨rfl, hb1⟩
    have HB1 := Lib.hid (HB0.out.trans (hb1.mono HB0.out.size))
    clear hb1
    go_wp2_with fail
    refine (HAb.out _).mono ?_
    rintro e w2 ⟨rfl, hb2⟩
    have HB2 := Lib.hid (HB1.out.trans (hb2.mono HB1.out.size))
    clear hb2
    go_upto_region 5 with fail
    go_cut [49] (fun s wx => s = .bool false ∧ wx = w2)
    case first =>
      by_cases k1 : Aa' = 0
      · have z1 : (Aa' == 0) = true := by simpa using k1
        by_cases k2 : Ab' = 0
        · have z2 : (Ab' == 0) = true := by simpa using k2
          have y1 : decide (Ab < Aa) = false := by have := HAo.out k1 k2; simp; omega
          clear k1 k2
          go_wp2
          go_meet
          exact ⟨rfl, rfl⟩
        · have z2 : (Ab' == 0) = false := by simpa using k2
          clear k1
          go_wp2
          go_meet
          exact ⟨rfl, rfl⟩
      · have z1 : (Aa' == 0) = false := by simpa using k1
        go_wp2
        go_meet
        exact ⟨rfl, rfl⟩
    obtain ⟨rfl, rfl⟩ := hcut
    go_wp2_with fail
    refine (HMa.out _).mono ?_
    rintro e w3 ⟨rfl, hb3⟩
    have HB3 := Lib.hid (HB2.out.trans (hb3.mono HB2.out.size))
    clear hb3
    go_wp2_with fail
    refine (HMb.out _).mono ?_
    rintro e w4 ⟨rfl, hb4⟩
    have HB4 := Lib.hid (HB3.out.trans (hb4.mono HB3.out.size))
    clear hb4
    go_upto_region 9 with fail
    go_cut [85] (fun s wx => s = .bool false ∧ wx = w4)
    case first =>
      by_cases k1 : Ma' = 0
      · have z1 : (Ma' == 0) = true := by simpa using k1
        by_cases k2 : Mb' = 0
        · have z2 : (Mb' == 0) = true := by simpa using k2
          by_cases k3 : 0 ≤ c
          · by_cases k4 : c = 0
            · have y0 : decide (0 ≤ c) = true := by simp; omega
              have y1 : decide (Mb < Ma) = false := by have := HMu.out (by omega) k1 k2; simp; omega
              have y2 : decide (c ≤ 0) = true := by simp; omega
              have y3 : decide (Ma < Mb) = false := by have := HMd.out (by omega) k1 k2; simp; omega
              clear k4
              clear k1 k2
              go_wp2
              go_meet
              exact ⟨rfl, rfl⟩
            · have y0 : decide (0 ≤ c) = true := by simp; omega
              have y1 : decide (Mb < Ma) = false := by have := HMu.out (by omega) k1 k2; simp; omega
              have y2 : decide (c ≤ 0) = false := by simp; omega
              clear k1 k2
              go_wp2
              go_meet
              exact ⟨rfl, rfl⟩
          · have y0 : decide (0 ≤ c) = false := by simp; omega
            have y2 : decide (c ≤ 0) = true := by simp; omega
            have y3 : decide (Ma < Mb) = false := by have := HMd.out (by omega) k1 k2; simp; omega
            clear k1 k2
            go_wp2
            go_meet
            exact ⟨rfl, rfl⟩
        · have z2 : (Mb' == 0) = false := by simpa using k2
          clear k1
          go_wp2
          go_meet
          exact ⟨rfl, rfl⟩
      · have z1 : (Ma' == 0) = false := by simpa using k1
        go_wp2
        go_meet
        exact ⟨rfl, rfl⟩
    obtain ⟨rfl, rfl⟩ := hcut
    go_wp2_with fail
    refine (HDa.out _).mono ?_
    rintro e w5 ⟨rfl, hb5⟩
    have HB5 := Lib.hid (HB4.out.trans (hb5.mono HB4.out.size))
    clear hb5
    go_wp2_with fail
    refine (HDb.out _).mono ?_
    rintro e w6 ⟨rfl, hb6⟩
    have HB6 := Lib.hid (HB5.out.trans (hb6.mono HB5.out.size))
    clear hb6
    go_upto_region 13 with fail
    go_cut [121] (fun s wx => s = .bool false ∧ wx = w6)
    case first =>
      by_cases k1 : Da' = 0
      · have z1 : (Da' == 0) = true := by simpa using k1
        by_cases k2 : Db' = 0
        · have z2 : (Db' == 0) = true := by simpa using k2
          by_cases k3 : 0 < c
          · have y0 : decide (0 < c) = true := by simpa using k3
            have y1 : decide (Db < Da) = false := by have := HDu.out k3 k1 k2; simp; omega
            have y2 : decide (c < 0) = false := by simp; omega
            clear k1 k2
            go_wp2
            go_meet
            exact ⟨rfl, rfl⟩
          · by_cases k4 : c < 0
            · have y0 : decide (0 < c) = false := by simp; omega
              have y2 : decide (c < 0) = true := by simpa using k4
              have y3 : decide (Da < Db) = false := by have := HDd.out k4 k1 k2; simp; omega
              clear k1 k2
              go_wp2
              go_meet
              exact ⟨rfl, rfl⟩
            · have y0 : decide (0 < c) = false := by simp; omega
              have y2 : decide (c < 0) = false := by simp; omega
              clear k1 k2
              go_wp2
              go_meet
              exact ⟨rfl, rfl⟩
        · have z2 : (Db' == 0) = false := by simpa using k2
          clear k1
          go_wp2
          go_meet
          exact ⟨rfl, rfl⟩
      · have z1 : (Da' == 0) = false := by simpa using k1
        go_wp2
        go_meet
        exact ⟨rfl, rfl⟩
    obtain ⟨rfl, rfl⟩ := hcut
    go_wp2_with fail
    refine (HRa.out _).mono ?_
    rintro e w7 ⟨rfl, hb7⟩
    have HB7 := Lib.hid (HB6.out.trans (hb7.mono HB6.out.size))
    clear hb7
    go_wp2_with fail
    refine (HRb.out _).mono ?_
    rintro e w8 ⟨rfl, hb8⟩
    have HB8 := Lib.hid (HB7.out.trans (hb8.mono HB7.out.size))
    clear hb8
    by_cases k1 : Ra' = 0
    · have z1 : (Ra' != 0) = false := by simpa using k1
      by_cases k2 : Rb' = 0
      · have z2 : (Rb' != 0) = false := by simpa using k2
        have y1 : decide (Ra ≤ Rb) = true := by have := HRo.out k1 k2; simpa using this
        clear k1 k2
        go_wp2_with fail
        refine (awake_any _ (HE.out.below HB8.out)).mono ?_
        rintro e w9 ⟨rfl, hb9⟩
        have HB9 := Lib.hid (HB8.out.trans (hb9.mono HB8.out.size))
        clear hb9
        go_wp2
        go_ret
        exact ⟨rfl, HB9.out⟩
      · have z2 : (Rb' != 0) = true := by simpa using k2
        clear k1 k2
        go_wp2_with fail
        refine (awake_any _ (HE.out.below HB8.out)).mono ?_
        rintro e w9 ⟨rfl, hb9⟩
        have HB9 := Lib.hid (HB8.out.trans (hb9.mono HB8.out.size))
        clear hb9
        go_wp2
        go_ret
        exact ⟨rfl, HB9.out⟩
    · have z1 : (Ra' != 0) = true := by simpa using k1
      clear k1
      go_wp2_with fail
      refine (awake_any _ (HE.out.below HB8.out)).mono ?_
      rintro e w9 ⟨rfl, hb9⟩
      have HB9 := Lib.hid (HB8.out.trans (hb9.mono HB8.out.size))
      clear hb9
      go_wp2
      go_ret
      exact ⟨rfl, HB9.out⟩
end Go.Proofs.YtalmnmdileagbaaDoor.Fx
