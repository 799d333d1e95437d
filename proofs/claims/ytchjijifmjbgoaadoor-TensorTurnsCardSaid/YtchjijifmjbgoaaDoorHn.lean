import Derived.Test.YtchjijifmjbgoaaDoorGv
import Derived.Test.YtchjijifmjbgoaaDoorGh
namespace Go.Proofs.YtchjijifmjbgoaaDoor.Tn
open Go.ChangeShapes Go.WideShapes Go.ChangeAt Go.RowKit Go.Proofs.YtchjijifmjbgoaaDoor.Fx Go.Proofs.YtchjijifmjbgoaaDoor.Rf

theorem rotE_eq {l : List Int} {n h : Nat} (h1 : l.length = 2 * h) (h2 : chkV l = 0) (h3 : n ≤ 1023) : rotE l (n : Int) = rotE7 l n h := by
  unfold rotE rotE7
  rw [if_neg (by omega), if_neg (by omega), if_neg (by omega), Int.toNat_natCast, show l.length / 2 = h by omega]
theorem rotV_eq {l : List Int} {n h : Nat} (h1 : l.length = 2 * h) (h2 : chkV l = 0) (h3 : n ≤ 1023) : rotV l (n : Int) = rotV7 l n h := by
  unfold rotV
  rw [rotE_eq h1 h2 h3, Int.toNat_natCast, show l.length / 2 = h by omega]
  unfold rotE7 rotV7
  by_cases ho : rotOk l n h
  · rw [if_pos ho, if_pos rfl, if_pos ho]
  · rw [if_neg ho, if_neg (by omega), if_neg ho]
theorem rotV_no {l : List Int} {a : Int} (h : rotE l a ≠ 0) : rotV l a = [] := by unfold rotV; rw [if_neg h]
set_option maxRecDepth 100000 in
set_option maxHeartbeats 4000000 in
theorem turns_walk {E : World → Prop} (T : TensorOK E) (w : World) (sp : Option Addr) (cap N : Nat) (l : List Int) (a : Int) (hN : l.length = N) (hl : Nums w sp cap l) (TR : RotOK E) (hA : AngTab w) (ha1 : -9223372036854775808 ≤ a) (ha2 : a ≤ 9223372036854775807) (he : E w) : Calls Tryd.prog 7 #[.slice sp N cap, .int .i64 a] w fun e w' => e = .returned (.bool true) ∧ Below w.heap.size w w' := by
  have HE := Lib.hid he
  have HT := Lib.hid T
  clear he T
  have HB0 := Lib.hid (Below.refl w.heap.size w)
  have hNm : N ≤ 9223372036854775807 := by rw [← hN]; exact hl.len
  have HRo := Lib.hid (fun W he hl (hb : Below w.heap.size w W) => TR W sp cap l a he (hA.below hb) hl ha1 ha2)
  have HCk := Lib.hid (fun W hl => rcheck_any W sp cap N l hN hl)
  rw [hN] at HRo
  have HL := Lib.hid hl
  have HNn := Lib.hid hN
  clear hl
  by_cases h1 : 64 < N ∧ N ≤ 512
  · have d1 : decide ((64 : Int) < (N : Int)) = true := by simp; omega
    have d2 : decide ((N : Int) ≤ 512) = true := by simp; omega
    clear h1
    clear hN
    go_enter Tryd.func7, Tryd.ntmps7
    go_wp2_with fail
    refine (awake_any HT.out _ (HT.out.env _ _ HE.out HB0.out)).mono ?_
    rintro e w1 ⟨rfl, hb1⟩
    have HB1 := Lib.hid (HB0.out.trans (hb1.mono HB0.out.size))
    clear hb1
    go_wp2
    go_ret
    exact ⟨rfl, HB1.out⟩
  · by_cases h2 : 600 < N
    · have d1 : decide ((64 : Int) < (N : Int)) = true := by simp; omega
      have d2 : decide ((N : Int) ≤ 512) = false := by simp; omega
      have d3 : decide ((600 : Int) < (N : Int)) = true := by simp; omega
      clear h1 h2
      clear hN
      go_enter Tryd.func7, Tryd.ntmps7
      go_wp2_with fail
      refine (awake_any HT.out _ (HT.out.env _ _ HE.out HB0.out)).mono ?_
      rintro e w1 ⟨rfl, hb1⟩
      have HB1 := Lib.hid (HB0.out.trans (hb1.mono HB0.out.size))
      clear hb1
      go_wp2
      go_ret
      exact ⟨rfl, HB1.out⟩
    · by_cases h3 : N ≤ 64
      · have d1 : decide ((64 : Int) < (N : Int)) = false := by simp; omega
        have d3 : decide ((600 : Int) < (N : Int)) = false := by simp; omega
        clear h1 h2
        by_cases hp : N % 2 = 0
        · have hm : (N : Int).tmod 2 = 0 := by rw [Int.tmod_eq_emod_of_nonneg (by omega)]; omega
          by_cases hc : chkV l = 0
          · by_cases hr : a < 0 ∨ 1023 < a
            · have hE : rotE l a = 10 := by unfold rotE; rw [if_neg (by omega), if_neg (by omega), if_pos hr]
              have hV := rotV_no (l := l) (a := a) (by omega)
              rw [hE, hV] at HRo
              rw [hc] at HCk
              clear hE hV hc hN
              by_cases hr0 : a < 0
              · have d5 : decide (a < 0) = true := by simp; omega
                clear hr
                go_enter Tryd.func7, Tryd.ntmps7
                go_wp2_with fail
                refine (HRo.out _ (HT.out.env _ _ HE.out HB0.out) (HL.out.below HB0.out) HB0.out).mono ?_
                rintro e w1 ⟨s1, c1, rfl, hn1, hb1⟩
                have HB1 := Lib.hid (HB0.out.trans (hb1.mono HB0.out.size))
                have HN1 := Lib.hid hn1
                clear hb1 hn1
                rw [show ([] : List Int).length = 0 from rfl]
                go_wp2_with fail
                refine (HCk.out _ (HL.out.below HB1.out)).mono ?_
                rintro e w' ⟨rfl, rfl⟩
                go_wp2_with fail
                refine (awake_any HT.out _ (HT.out.env _ _ HE.out HB1.out)).mono ?_
                rintro e w2 ⟨rfl, hb2⟩
                have HB2 := Lib.hid (HB1.out.trans (hb2.mono HB1.out.size))
                clear hb2
                go_wp2
                go_ret
                exact ⟨rfl, HB2.out⟩
              · have d5 : decide (a < 0) = false := by simp; omega
                have d6 : decide (1023 < a) = true := by simp; omega
                clear hr
                go_enter Tryd.func7, Tryd.ntmps7
                go_wp2_with fail
                refine (HRo.out _ (HT.out.env _ _ HE.out HB0.out) (HL.out.below HB0.out) HB0.out).mono ?_
                rintro e w1 ⟨s1, c1, rfl, hn1, hb1⟩
                have HB1 := Lib.hid (HB0.out.trans (hb1.mono HB0.out.size))
                have HN1 := Lib.hid hn1
                clear hb1 hn1
                rw [show ([] : List Int).length = 0 from rfl]
                go_wp2_with fail
                refine (HCk.out _ (HL.out.below HB1.out)).mono ?_
                rintro e w' ⟨rfl, rfl⟩
                go_wp2_with fail
                refine (awake_any HT.out _ (HT.out.env _ _ HE.out HB1.out)).mono ?_
                rintro e w2 ⟨rfl, hb2⟩
                have HB2 := Lib.hid (HB1.out.trans (hb2.mono HB1.out.size))
                clear hb2
                go_wp2
                go_ret
                exact ⟨rfl, HB2.out⟩
            · obtain ⟨h, hh⟩ : ∃ h, N = 2 * h := ⟨N / 2, by omega⟩
              obtain ⟨n, rfl⟩ : ∃ n : Nat, a = (n : Int) := ⟨a.toNat, by omega⟩
              have hn : n ≤ 1023 := by omega
              have d5 : decide ((n : Int) < 0) = false := by simp
              have d6 : decide (1023 < (n : Int)) = false := by simp; omega
              have d5b : decide (n < 0) = false := by simp
              have h5 : N ≤ 512 := by
                have h := hc
                unfold chkV at h
                rw [hN] at h
                by_cases hh : N < 1 ∨ 512 < N
                · rw [if_pos hh] at h; omega
                · omega
              have hall : ∀ x ∈ l, isN x := by
                have h := hc
                unfold chkV at h
                rw [hN] at h
                by_cases hh : N < 1 ∨ 512 < N
                · rw [if_pos hh] at h; omega
                · rw [if_neg hh] at h
                  refine Classical.byContradiction fun hn => ?_
                  rw [if_neg hn] at h
                  omega
              have HRr := Lib.hid (fun W hl => rrot_any W sp cap N h n l hN hl hh h5 hall hn)
              rw [rotE_eq (n := n) (h := h) (by omega) hc hn, rotV_eq (n := n) (h := h) (by omega) hc hn] at HRo
              rw [hc] at HCk
              obtain ⟨e7, he7⟩ : ∃ x, rotE7 l n h = x := ⟨_, rfl⟩
              rw [he7] at HRo HRr
              obtain ⟨B, hB⟩ : ∃ x, (rotV7 l n h).length = x := ⟨_, rfl⟩
              have HBl := Lib.hid hB
              clear hh hall hc hN hr hB he7
              go_enter Tryd.func7, Tryd.ntmps7
              go_wp2_with fail
              refine (HRo.out _ (HT.out.env _ _ HE.out HB0.out) (HL.out.below HB0.out) HB0.out).mono ?_
              rintro e w1 ⟨s1, c1, rfl, hn1, hb1⟩
              rw [HBl.out]
              have HB1 := Lib.hid (HB0.out.trans (hb1.mono HB0.out.size))
              have HN1 := Lib.hid hn1
              clear hb1 hn1
              go_wp2_with fail
              refine (HCk.out _ (HL.out.below HB1.out)).mono ?_
              rintro e w' ⟨rfl, rfl⟩
              go_wp2_with fail
              refine (HRr.out _ (HL.out.below HB1.out)).mono ?_
              rintro e w2 ⟨s2, c2, rfl, hn2, hb2⟩
              rw [HBl.out]
              have HB2 := Lib.hid (HB1.out.trans (hb2.mono HB1.out.size))
              have HN1b := Lib.hid (HN1.out.below hb2)
              have HN2 := Lib.hid hn2
              clear hb2 hn2
              go_wp2_with fail
              refine (same_any _ _ _ _ _ B (rotV7 l n h) e7 HBl.out HN1b.out HN2.out).mono ?_
              rintro e w3 ⟨rfl, hb3⟩
              have HB3 := Lib.hid (HB2.out.trans (hb3.mono HB2.out.size))
              clear hb3
              go_wp2_with fail
              refine (awake_any HT.out _ (HT.out.env _ _ HE.out HB3.out)).mono ?_
              rintro e w4 ⟨rfl, hb4⟩
              have HB4 := Lib.hid (HB3.out.trans (hb4.mono HB3.out.size))
              clear hb4
              go_wp2
              go_ret
              exact ⟨rfl, HB4.out⟩
          · have hE : rotE l a = chkV l := by unfold rotE; rw [if_neg (by omega), if_pos hc]
            have hV := rotV_no (l := l) (a := a) (by omega)
            rw [hE, hV] at HRo
            obtain ⟨y, hy⟩ : ∃ x, chkV l = x := ⟨_, rfl⟩
            rw [hy] at HRo HCk hc
            have e1 : (y != 0) = true := by simpa using hc
            have e2 : (y == 0) = false := by simpa using hc
            have e3 : (y == y) = true := by simp
            clear hE hV hc hN hy
            go_enter Tryd.func7, Tryd.ntmps7
            go_wp2_with fail
            refine (HRo.out _ (HT.out.env _ _ HE.out HB0.out) (HL.out.below HB0.out) HB0.out).mono ?_
            rintro e w1 ⟨s1, c1, rfl, hn1, hb1⟩
            have HB1 := Lib.hid (HB0.out.trans (hb1.mono HB0.out.size))
            have HN1 := Lib.hid hn1
            clear hb1 hn1
            rw [show ([] : List Int).length = 0 from rfl]
            go_wp2_with fail
            refine (HCk.out _ (HL.out.below HB1.out)).mono ?_
            rintro e w' ⟨rfl, rfl⟩
            go_wp2_with fail
            refine (awake_any HT.out _ (HT.out.env _ _ HE.out HB1.out)).mono ?_
            rintro e w2 ⟨rfl, hb2⟩
            have HB2 := Lib.hid (HB1.out.trans (hb2.mono HB1.out.size))
            clear hb2
            go_wp2
            go_ret
            exact ⟨rfl, HB2.out⟩
        · have hm : (N : Int).tmod 2 = 1 := by rw [Int.tmod_eq_emod_of_nonneg (by omega)]; omega
          have hE : rotE l a = 13 := by unfold rotE; rw [if_pos (by omega)]
          have hV := rotV_no (l := l) (a := a) (by omega)
          rw [hE, hV] at HRo
          clear hE hV hN
          go_enter Tryd.func7, Tryd.ntmps7
          go_wp2_with fail
          refine (HRo.out _ (HT.out.env _ _ HE.out HB0.out) (HL.out.below HB0.out) HB0.out).mono ?_
          rintro e w1 ⟨s1, c1, rfl, hn1, hb1⟩
          have HB1 := Lib.hid (HB0.out.trans (hb1.mono HB0.out.size))
          have HN1 := Lib.hid hn1
          clear hb1 hn1
          rw [show ([] : List Int).length = 0 from rfl]
          go_wp2_with fail
          refine (HCk.out _ (HL.out.below HB1.out)).mono ?_
          rintro e w' ⟨rfl, rfl⟩
          go_wp2_with fail
          refine (awake_any HT.out _ (HT.out.env _ _ HE.out HB1.out)).mono ?_
          rintro e w2 ⟨rfl, hb2⟩
          have HB2 := Lib.hid (HB1.out.trans (hb2.mono HB1.out.size))
          clear hb2
          go_wp2
          go_ret
          exact ⟨rfl, HB2.out⟩
      · have d1 : decide ((64 : Int) < (N : Int)) = true := by simp; omega
        have d2 : decide ((N : Int) ≤ 512) = false := by simp; omega
        have d3 : decide ((600 : Int) < (N : Int)) = false := by simp; omega
        clear h2
        by_cases hp : N % 2 = 0
        · have hm : (N : Int).tmod 2 = 0 := by rw [Int.tmod_eq_emod_of_nonneg (by omega)]; omega
          by_cases hc : chkV l = 0
          · by_cases hr : a < 0 ∨ 1023 < a
            · have hE : rotE l a = 10 := by unfold rotE; rw [if_neg (by omega), if_neg (by omega), if_pos hr]
              have hV := rotV_no (l := l) (a := a) (by omega)
              rw [hE, hV] at HRo
              rw [hc] at HCk
              clear hE hV hc hN
              by_cases hr0 : a < 0
              · have d5 : decide (a < 0) = true := by simp; omega
                clear hr
                go_enter Tryd.func7, Tryd.ntmps7
                go_wp2_with fail
                refine (HRo.out _ (HT.out.env _ _ HE.out HB0.out) (HL.out.below HB0.out) HB0.out).mono ?_
                rintro e w1 ⟨s1, c1, rfl, hn1, hb1⟩
                have HB1 := Lib.hid (HB0.out.trans (hb1.mono HB0.out.size))
                have HN1 := Lib.hid hn1
                clear hb1 hn1
                rw [show ([] : List Int).length = 0 from rfl]
                go_wp2_with fail
                refine (HCk.out _ (HL.out.below HB1.out)).mono ?_
                rintro e w' ⟨rfl, rfl⟩
                go_wp2_with fail
                refine (awake_any HT.out _ (HT.out.env _ _ HE.out HB1.out)).mono ?_
                rintro e w2 ⟨rfl, hb2⟩
                have HB2 := Lib.hid (HB1.out.trans (hb2.mono HB1.out.size))
                clear hb2
                go_wp2
                go_ret
                exact ⟨rfl, HB2.out⟩
              · have d5 : decide (a < 0) = false := by simp; omega
                have d6 : decide (1023 < a) = true := by simp; omega
                clear hr
                go_enter Tryd.func7, Tryd.ntmps7
                go_wp2_with fail
                refine (HRo.out _ (HT.out.env _ _ HE.out HB0.out) (HL.out.below HB0.out) HB0.out).mono ?_
                rintro e w1 ⟨s1, c1, rfl, hn1, hb1⟩
                have HB1 := Lib.hid (HB0.out.trans (hb1.mono HB0.out.size))
                have HN1 := Lib.hid hn1
                clear hb1 hn1
                rw [show ([] : List Int).length = 0 from rfl]
                go_wp2_with fail
                refine (HCk.out _ (HL.out.below HB1.out)).mono ?_
                rintro e w' ⟨rfl, rfl⟩
                go_wp2_with fail
                refine (awake_any HT.out _ (HT.out.env _ _ HE.out HB1.out)).mono ?_
                rintro e w2 ⟨rfl, hb2⟩
                have HB2 := Lib.hid (HB1.out.trans (hb2.mono HB1.out.size))
                clear hb2
                go_wp2
                go_ret
                exact ⟨rfl, HB2.out⟩
            · obtain ⟨h, hh⟩ : ∃ h, N = 2 * h := ⟨N / 2, by omega⟩
              obtain ⟨n, rfl⟩ : ∃ n : Nat, a = (n : Int) := ⟨a.toNat, by omega⟩
              have hn : n ≤ 1023 := by omega
              have d5 : decide ((n : Int) < 0) = false := by simp
              have d6 : decide (1023 < (n : Int)) = false := by simp; omega
              have d5b : decide (n < 0) = false := by simp
              have h5 : N ≤ 512 := by
                have h := hc
                unfold chkV at h
                rw [hN] at h
                by_cases hh : N < 1 ∨ 512 < N
                · rw [if_pos hh] at h; omega
                · omega
              have hall : ∀ x ∈ l, isN x := by
                have h := hc
                unfold chkV at h
                rw [hN] at h
                by_cases hh : N < 1 ∨ 512 < N
                · rw [if_pos hh] at h; omega
                · rw [if_neg hh] at h
                  refine Classical.byContradiction fun hn => ?_
                  rw [if_neg hn] at h
                  omega
              have HRr := Lib.hid (fun W hl => rrot_any W sp cap N h n l hN hl hh h5 hall hn)
              rw [rotE_eq (n := n) (h := h) (by omega) hc hn, rotV_eq (n := n) (h := h) (by omega) hc hn] at HRo
              rw [hc] at HCk
              obtain ⟨e7, he7⟩ : ∃ x, rotE7 l n h = x := ⟨_, rfl⟩
              rw [he7] at HRo HRr
              obtain ⟨B, hB⟩ : ∃ x, (rotV7 l n h).length = x := ⟨_, rfl⟩
              have HBl := Lib.hid hB
              clear hh hall hc hN hr hB he7
              go_enter Tryd.func7, Tryd.ntmps7
              go_wp2_with fail
              refine (HRo.out _ (HT.out.env _ _ HE.out HB0.out) (HL.out.below HB0.out) HB0.out).mono ?_
              rintro e w1 ⟨s1, c1, rfl, hn1, hb1⟩
              rw [HBl.out]
              have HB1 := Lib.hid (HB0.out.trans (hb1.mono HB0.out.size))
              have HN1 := Lib.hid hn1
              clear hb1 hn1
              go_wp2_with fail
              refine (HCk.out _ (HL.out.below HB1.out)).mono ?_
              rintro e w' ⟨rfl, rfl⟩
              go_wp2_with fail
              refine (HRr.out _ (HL.out.below HB1.out)).mono ?_
              rintro e w2 ⟨s2, c2, rfl, hn2, hb2⟩
              rw [HBl.out]
              have HB2 := Lib.hid (HB1.out.trans (hb2.mono HB1.out.size))
              have HN1b := Lib.hid (HN1.out.below hb2)
              have HN2 := Lib.hid hn2
              clear hb2 hn2
              go_wp2_with fail
              refine (same_any _ _ _ _ _ B (rotV7 l n h) e7 HBl.out HN1b.out HN2.out).mono ?_
              rintro e w3 ⟨rfl, hb3⟩
              have HB3 := Lib.hid (HB2.out.trans (hb3.mono HB2.out.size))
              clear hb3
              go_wp2_with fail
              refine (awake_any HT.out _ (HT.out.env _ _ HE.out HB3.out)).mono ?_
              rintro e w4 ⟨rfl, hb4⟩
              have HB4 := Lib.hid (HB3.out.trans (hb4.mono HB3.out.size))
              clear hb4
              go_wp2
              go_ret
              exact ⟨rfl, HB4.out⟩
          · have hE : rotE l a = chkV l := by unfold rotE; rw [if_neg (by omega), if_pos hc]
            have hV := rotV_no (l := l) (a := a) (by omega)
            rw [hE, hV] at HRo
            obtain ⟨y, hy⟩ : ∃ x, chkV l = x := ⟨_, rfl⟩
            rw [hy] at HRo HCk hc
            have e1 : (y != 0) = true := by simpa using hc
            have e2 : (y == 0) = false := by simpa using hc
            have e3 : (y == y) = true := by simp
            clear hE hV hc hN hy
            go_enter Tryd.func7, Tryd.ntmps7
            go_wp2_with fail
            refine (HRo.out _ (HT.out.env _ _ HE.out HB0.out) (HL.out.below HB0.out) HB0.out).mono ?_
            rintro e w1 ⟨s1, c1, rfl, hn1, hb1⟩
            have HB1 := Lib.hid (HB0.out.trans (hb1.mono HB0.out.size))
            have HN1 := Lib.hid hn1
            clear hb1 hn1
            rw [show ([] : List Int).length = 0 from rfl]
            go_wp2_with fail
            refine (HCk.out _ (HL.out.below HB1.out)).mono ?_
            rintro e w' ⟨rfl, rfl⟩
            go_wp2_with fail
            refine (awake_any HT.out _ (HT.out.env _ _ HE.out HB1.out)).mono ?_
            rintro e w2 ⟨rfl, hb2⟩
            have HB2 := Lib.hid (HB1.out.trans (hb2.mono HB1.out.size))
            clear hb2
            go_wp2
            go_ret
            exact ⟨rfl, HB2.out⟩
        · have hm : (N : Int).tmod 2 = 1 := by rw [Int.tmod_eq_emod_of_nonneg (by omega)]; omega
          have hE : rotE l a = 13 := by unfold rotE; rw [if_pos (by omega)]
          have hV := rotV_no (l := l) (a := a) (by omega)
          rw [hE, hV] at HRo
          clear hE hV hN
          go_enter Tryd.func7, Tryd.ntmps7
          go_wp2_with fail
          refine (HRo.out _ (HT.out.env _ _ HE.out HB0.out) (HL.out.below HB0.out) HB0.out).mono ?_
          rintro e w1 ⟨s1, c1, rfl, hn1, hb1⟩
          have HB1 := Lib.hid (HB0.out.trans (hb1.mono HB0.out.size))
          have HN1 := Lib.hid hn1
          clear hb1 hn1
          rw [show ([] : List Int).length = 0 from rfl]
          go_wp2_with fail
          refine (HCk.out _ (HL.out.below HB1.out)).mono ?_
          rintro e w' ⟨rfl, rfl⟩
          go_wp2_with fail
          refine (awake_any HT.out _ (HT.out.env _ _ HE.out HB1.out)).mono ?_
          rintro e w2 ⟨rfl, hb2⟩
          have HB2 := Lib.hid (HB1.out.trans (hb2.mono HB1.out.size))
          clear hb2
          go_wp2
          go_ret
          exact ⟨rfl, HB2.out⟩
end Go.Proofs.YtchjijifmjbgoaaDoor.Tn
