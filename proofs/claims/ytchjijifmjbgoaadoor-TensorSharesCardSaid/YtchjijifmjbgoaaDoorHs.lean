import Derived.Test.YtchjijifmjbgoaaDoorGv
namespace Go.Proofs.YtchjijifmjbgoaaDoor.Tn
open Go.ChangeShapes Go.WideShapes Go.ChangeAt Go.RowKit Go.Proofs.YtchjijifmjbgoaaDoor.Fx Go.Proofs.YtchjijifmjbgoaaDoor.Rf

def fewB (ls : List (List Int)) : Bool := decide ((∀ l ∈ ls, l.length ≤ 600) ∧ ls.length ≤ 70)
set_option maxRecDepth 100000 in
set_option maxHeartbeats 4000000 in
theorem few_any (w : World) (sp : Option Addr) (cap M : Nat) (ls : List (List Int)) (hM : ls.length = M) (hv : Vecs w sp cap ls) :
    Calls Tryd.prog 22 #[.slice sp M cap] w fun e w' => e = .returned (.bool (fewB ls)) ∧ w = w' := by
  have hMm : M ≤ 9223372036854775807 := by rw [← hM]; exact hv.len
  have HV := Lib.hid hv
  have HM := Lib.hid hM
  by_cases ha : ∀ i, i < M → (ls.getD i []).length ≤ 600
  · have hb : fewB ls = decide (ls.length ≤ 70) := by
      have h1 : ∀ l ∈ ls, l.length ≤ 600 := mem_getD (P := fun l => l.length ≤ 600) (fun i hi => ha i (by omega))
      unfold fewB
      by_cases h2 : ls.length ≤ 70
      · rw [decide_eq_true (show _ ∧ _ from ⟨h1, h2⟩), decide_eq_true h2]
      · rw [decide_eq_false (fun h => h2 h.2), decide_eq_false h2]
    rw [hb, hM]
    have HA := Lib.hid ha
    have hR : decide ((M : Int) ≤ 70) = decide (M ≤ 70) := by rw [Bool.eq_iff_iff]; simp; omega
    obtain ⟨B, hB⟩ : ∃ B, decide (M ≤ 70) = B := ⟨_, rfl⟩
    rw [hB] at hR ⊢
    clear hv hM ha hb hB
    go_enter Tryd.func22, Tryd.ntmps22
    go_wp2
    go_loop [3] (fun i => ∃ k : Nat, k ≤ M ∧ i = .int .i64 k) (fun i => M - (intOf i).toNat)
    case atStart => exact ⟨0, by omega, rfl⟩
    case round =>
      obtain ⟨k, hk, rfl⟩ := hrel
      by_cases hlt : k < M
      · have hdt : decide (k < M) = true := by simp; omega
        obtain ⟨g, o, s2, c2, rfl, hc, _⟩ := HV.out.at_ k (by rw [HM.out]; exact hlt)
        have h6 := HA.out k hlt
        obtain ⟨L, hL⟩ : ∃ L, (ls.getD k []).length = L := ⟨_, rfl⟩
        rw [hL] at hc h6
        have d6 : decide ((600 : Int) < (L : Int)) = false := by simp; omega
        clear hL
        go_wp2
        go_round
        case rel => exact ⟨k + 1, by omega, by go_num⟩
        case measure => simp [intOf]; omega
      · obtain rfl : k = M := by omega
        have hdf : decide (k < k) = false := by simp
        go_wp2
        go_ret
        exact ⟨rfl, rfl⟩
  · obtain ⟨j, hj, hb, hg⟩ := first_not (P := fun i => (ls.getD i []).length ≤ 600) M ha
    have hf : fewB ls = false := by
      unfold fewB
      rw [decide_eq_false]
      exact fun h => hb (h.1 _ (getD_mem j (by omega)))
    rw [hf]
    have HB := Lib.hid hb
    have HG := Lib.hid hg
    clear hv hM ha hb hg hf
    go_enter Tryd.func22, Tryd.ntmps22
    go_wp2
    go_loop [3] (fun i => ∃ k : Nat, k ≤ j ∧ i = .int .i64 k) (fun i => M - (intOf i).toNat)
    case atStart => exact ⟨0, by omega, rfl⟩
    case round =>
      obtain ⟨k, hk, rfl⟩ := hrel
      have hlt : k < M := by omega
      have hdt : decide (k < M) = true := by simp; omega
      obtain ⟨g, o, s2, c2, rfl, hc, hnn⟩ := HV.out.at_ k (by rw [HM.out]; exact hlt)
      have hnl := hnn.len
      clear hnn
      by_cases hkj : k = j
      · subst hkj
        have h6 := HB.out
        obtain ⟨L, hL⟩ : ∃ L, (ls.getD k []).length = L := ⟨_, rfl⟩
        rw [hL] at hc h6 hnl
        have d6 : decide ((600 : Int) < (L : Int)) = true := by simp; omega
        clear hL h6
        go_wp2
        go_ret
        exact ⟨rfl, rfl⟩
      · have hk2 : k < j := by omega
        have h6 := HG.out k hk2
        obtain ⟨L, hL⟩ : ∃ L, (ls.getD k []).length = L := ⟨_, rfl⟩
        rw [hL] at hc h6 hnl
        have d6 : decide ((600 : Int) < (L : Int)) = false := by simp; omega
        clear hL hkj
        go_wp2
        go_round
        case rel => exact ⟨k + 1, by omega, by go_num⟩
        case measure => simp [intOf]; omega
set_option maxRecDepth 100000 in
set_option maxHeartbeats 4000000 in
theorem shares_walk {E : World → Prop} (T : TensorOK E) (w : World) (sp sq sr : Option Addr) (cap caq car N M K : Nat) (l ss : List Int) (ls : List (List Int)) (hN : l.length = N) (hM : ss.length = M) (hK : ls.length = K) (hl : Nums w sp cap l) (hs : Nums w sq caq ss) (hv : Vecs w sr car ls) (he : E w) : Calls Tryd.prog 6 #[.slice sp N cap, .slice sq M caq, .slice sr K car] w fun e w' => e = .returned (.bool true) ∧ Below w.heap.size w w' := by
  have HE := Lib.hid he
  have HT := Lib.hid T
  clear he T
  have HB0 := Lib.hid (Below.refl w.heap.size w)
  have hNm : N ≤ 9223372036854775807 := by rw [← hN]; exact hl.len
  have hMm : M ≤ 9223372036854775807 := by rw [← hM]; exact hs.len
  have hKm : K ≤ 9223372036854775807 := by rw [← hK]; exact hv.len
  have HSm := Lib.hid (fun W he hl => HT.out.softmax W sp cap l he hl)
  have HCk := Lib.hid (fun W hl => rcheck_any W sp cap N l hN hl)
  have HMx := Lib.hid (fun W he hs hv => HT.out.mix W sq sr caq car ss ls he hs hv)
  have HRx := Lib.hid (fun W hs hv => rmix_any W sq sr caq car M K ss ls hM hK hs hv)
  have HFw := Lib.hid (fun W hv => few_any W sr car K ls hK hv)
  rw [hN] at HSm
  rw [hM, hK] at HMx
  have HL := Lib.hid hl
  have HS := Lib.hid hs
  have HV := Lib.hid hv
  have HNn := Lib.hid hN
  obtain ⟨me, hme⟩ : ∃ x, mixE ss ls = x := ⟨_, rfl⟩
  rw [hme] at HMx HRx
  clear hl hs hv hM hK hme
  by_cases h1 : 600 < N
  · have d1 : decide ((600 : Int) < (N : Int)) = true := by simp; omega
    clear hN
    go_enter Tryd.func6, Tryd.ntmps6
    go_wp2_with fail
    refine (awake_any HT.out _ (HT.out.env _ _ HE.out HB0.out)).mono ?_
    rintro e w1 ⟨rfl, hb1⟩
    have HB1 := Lib.hid (HB0.out.trans (hb1.mono HB0.out.size))
    clear hb1
    go_wp2
    go_ret
    exact ⟨rfl, HB1.out⟩
  · have d1 : decide ((600 : Int) < (N : Int)) = false := by simp; omega
    by_cases h2 : 70 < M
    · have d2 : decide ((70 : Int) < (M : Int)) = true := by simp; omega
      clear hN
      go_enter Tryd.func6, Tryd.ntmps6
      go_wp2_with fail
      refine (awake_any HT.out _ (HT.out.env _ _ HE.out HB0.out)).mono ?_
      rintro e w1 ⟨rfl, hb1⟩
      have HB1 := Lib.hid (HB0.out.trans (hb1.mono HB0.out.size))
      clear hb1
      go_wp2
      go_ret
      exact ⟨rfl, HB1.out⟩
    · have d2 : decide ((70 : Int) < (M : Int)) = false := by simp; omega
      by_cases h3 : fewB ls = true
      · rw [h3] at HFw
        clear h1 h2 h3
        by_cases hc : chkV l = 0
        · have hsz : 1 ≤ N ∧ N ≤ 512 := by
            have h := hc
            unfold chkV at h
            rw [hN] at h
            by_cases hh : N < 1 ∨ 512 < N
            · rw [if_pos hh] at h; omega
            · omega
          obtain ⟨z1, z2⟩ := hsz
          have hall : ∀ x ∈ l, isN x := by
            have h := hc
            unfold chkV at h
            rw [hN, if_neg (by omega)] at h
            refine Classical.byContradiction fun hn => ?_
            rw [if_neg hn] at h
            omega
          have HRs := Lib.hid (fun W hl => rsoftmax_any W sp cap N l hN hl z1 z2 hall)
          have hsv : smV l = smx l := by unfold smV; rw [if_pos hc]
          rw [hsv, hc] at HSm
          rw [hc] at HCk
          have HSl : Hid ((smx l).length = N) := Lib.hid (by rw [smx_length]; exact hN)
          clear hsv hall hc hN
          go_enter Tryd.func6, Tryd.ntmps6
          go_wp2_with fail
          refine (HFw.out _ (HV.out.below HB0.out)).mono ?_
          rintro e w' ⟨rfl, rfl⟩
          go_wp2_with fail
          refine (HSm.out _ (HT.out.env _ _ HE.out HB0.out) (HL.out.below HB0.out)).mono ?_
          rintro e w1 ⟨s1, c1, rfl, hn1, hb1⟩
          rw [HSl.out]
          have HB1 := Lib.hid (HB0.out.trans (hb1.mono HB0.out.size))
          have HN1 := Lib.hid hn1
          clear hb1 hn1
          go_wp2_with fail
          refine (HCk.out _ (HL.out.below HB1.out)).mono ?_
          rintro e w' ⟨rfl, rfl⟩
          go_wp2_with fail
          refine (HRs.out _ (HL.out.below HB1.out)).mono ?_
          rintro e w2 ⟨s2, c2, rfl, hn2, hb2⟩
          rw [HSl.out]
          have HB2 := Lib.hid (HB1.out.trans (hb2.mono HB1.out.size))
          have HN1b := Lib.hid (HN1.out.below hb2)
          have HN2 := Lib.hid hn2
          clear hb2 hn2
          go_wp2_with fail
          refine (ints_same _ _ _ _ _ N (smx l) HSl.out HN1b.out HN2.out).mono ?_
          rintro e w3 ⟨rfl, hb3⟩
          have HB3 := Lib.hid (HB2.out.trans (hb3.mono HB2.out.size))
          clear hb3
          go_wp2_with fail
          refine (HMx.out _ (HT.out.env _ _ HE.out HB3.out) (HS.out.below HB3.out) (HV.out.below HB3.out)).mono ?_
          rintro e w4 ⟨s4, c4, rfl, hn4, hb4⟩
          have HB4 := Lib.hid (HB3.out.trans (hb4.mono HB3.out.size))
          have HN4 := Lib.hid hn4
          clear hb4 hn4
          obtain ⟨B, hB⟩ : ∃ x, (mixV ss ls).length = x := ⟨_, rfl⟩
          rw [hB]
          have HBl := Lib.hid hB
          clear hB
          go_wp2_with fail
          refine (HRx.out _ (HS.out.below HB4.out) (HV.out.below HB4.out)).mono ?_
          rintro e w5 ⟨s5, c5, rfl, hn5, hb5⟩
          rw [HBl.out]
          have HB5 := Lib.hid (HB4.out.trans (hb5.mono HB4.out.size))
          have HN4b := Lib.hid (HN4.out.below hb5)
          have HN5 := Lib.hid hn5
          clear hb5 hn5
          go_wp2_with fail
          refine (same_any _ _ _ _ _ B (mixV ss ls) me HBl.out HN4b.out HN5.out).mono ?_
          rintro e w6 ⟨rfl, hb6⟩
          have HB6 := Lib.hid (HB5.out.trans (hb6.mono HB5.out.size))
          clear hb6
          go_wp2_with fail
          refine (awake_any HT.out _ (HT.out.env _ _ HE.out HB6.out)).mono ?_
          rintro e w7 ⟨rfl, hb7⟩
          have HB7 := Lib.hid (HB6.out.trans (hb7.mono HB6.out.size))
          clear hb7
          go_wp2
          go_ret
          exact ⟨rfl, HB7.out⟩
        · have hsv : smV l = [] := by unfold smV; rw [if_neg hc]
          rw [hsv] at HSm
          obtain ⟨y, hy⟩ : ∃ x, chkV l = x := ⟨_, rfl⟩
          rw [hy] at HSm HCk hc
          have e1 : (y != 0) = true := by simpa using hc
          have e2 : (y == 0) = false := by simpa using hc
          have e3 : (y != y) = false := by simp
          clear hsv hc hN hy
          go_enter Tryd.func6, Tryd.ntmps6
          go_wp2_with fail
          refine (HFw.out _ (HV.out.below HB0.out)).mono ?_
          rintro e w' ⟨rfl, rfl⟩
          go_wp2_with fail
          refine (HSm.out _ (HT.out.env _ _ HE.out HB0.out) (HL.out.below HB0.out)).mono ?_
          rintro e w1 ⟨s1, c1, rfl, hn1, hb1⟩
          have HB1 := Lib.hid (HB0.out.trans (hb1.mono HB0.out.size))
          have HN1 := Lib.hid hn1
          clear hb1 hn1
          rw [show ([] : List Int).length = 0 from rfl]
          go_wp2_with fail
          refine (HCk.out _ (HL.out.below HB1.out)).mono ?_
          rintro e w' ⟨rfl, rfl⟩
          go_wp2_with fail
          refine (HMx.out _ (HT.out.env _ _ HE.out HB1.out) (HS.out.below HB1.out) (HV.out.below HB1.out)).mono ?_
          rintro e w2 ⟨s2, c2, rfl, hn2, hb2⟩
          have HB2 := Lib.hid (HB1.out.trans (hb2.mono HB1.out.size))
          have HN2 := Lib.hid hn2
          clear hb2 hn2
          obtain ⟨B, hB⟩ : ∃ x, (mixV ss ls).length = x := ⟨_, rfl⟩
          rw [hB]
          have HBl := Lib.hid hB
          clear hB
          go_wp2_with fail
          refine (HRx.out _ (HS.out.below HB2.out) (HV.out.below HB2.out)).mono ?_
          rintro e w3 ⟨s3, c3, rfl, hn3, hb3⟩
          rw [HBl.out]
          have HB3 := Lib.hid (HB2.out.trans (hb3.mono HB2.out.size))
          have HN2b := Lib.hid (HN2.out.below hb3)
          have HN3 := Lib.hid hn3
          clear hb3 hn3
          go_wp2_with fail
          refine (same_any _ _ _ _ _ B (mixV ss ls) me HBl.out HN2b.out HN3.out).mono ?_
          rintro e w4 ⟨rfl, hb4⟩
          have HB4 := Lib.hid (HB3.out.trans (hb4.mono HB3.out.size))
          clear hb4
          go_wp2_with fail
          refine (awake_any HT.out _ (HT.out.env _ _ HE.out HB4.out)).mono ?_
          rintro e w5 ⟨rfl, hb5⟩
          have HB5 := Lib.hid (HB4.out.trans (hb5.mono HB4.out.size))
          clear hb5
          go_wp2
          go_ret
          exact ⟨rfl, HB5.out⟩
      · have h4 : fewB ls = false := by simpa using h3
        rw [h4] at HFw
        clear h1 h2 h3 h4 hN
        go_enter Tryd.func6, Tryd.ntmps6
        go_wp2_with fail
        refine (HFw.out _ (HV.out.below HB0.out)).mono ?_
        rintro e w' ⟨rfl, rfl⟩
        go_wp2_with fail
        refine (awake_any HT.out _ (HT.out.env _ _ HE.out HB0.out)).mono ?_
        rintro e w1 ⟨rfl, hb1⟩
        have HB1 := Lib.hid (HB0.out.trans (hb1.mono HB0.out.size))
        clear hb1
        go_wp2
        go_ret
        exact ⟨rfl, HB1.out⟩
end Go.Proofs.YtchjijifmjbgoaaDoor.Tn
