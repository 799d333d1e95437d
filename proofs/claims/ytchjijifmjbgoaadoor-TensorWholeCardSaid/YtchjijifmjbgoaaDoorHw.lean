import Derived.Test.YtchjijifmjbgoaaDoorGv
namespace Go.Proofs.YtchjijifmjbgoaaDoor.Tn
open Go.ChangeShapes Go.WideShapes Go.ChangeAt Go.RowKit Go.Proofs.YtchjijifmjbgoaaDoor.Fx Go.Proofs.YtchjijifmjbgoaaDoor.Rf

theorem smx_mem {l : List Int} (h0 : 0 < l.length) (h : l.length ≤ 512) : ∀ e ∈ smx l, 0 ≤ e ∧ e ≤ 65536 := of_get (p := fun e => 0 ≤ e ∧ e ≤ 65536) (fun i hi => smx_in h0 h i (by rw [smx_length] at hi; exact hi))
theorem chkV_okW {l : List Int} {N : Nat} (hN : l.length = N) (hc : chkV l = 0) : 1 ≤ N ∧ N ≤ 512 ∧ ∀ x ∈ l, isN x := by
  unfold chkV at hc
  rw [hN] at hc
  by_cases hh : N < 1 ∨ 512 < N
  · rw [if_pos hh] at hc; omega
  · rw [if_neg hh] at hc
    refine ⟨by omega, by omega, Classical.byContradiction fun hn => ?_⟩
    rw [if_neg hn] at hc
    omega
theorem shift_take (l : List Int) (d : Int) (k : Nat) (h : k < l.length) : (l.map (· + d)).take (k + 1) = (l.map (· + d)).take k ++ [l.getD k 0 + d] := by
  rw [take_snoc _ k (by simpa using h)]
  congr 2
  simp [h]
structure ShS (w W : World) (l : List Int) (d : Int) (k : Nat) (v : Value) (wr : World) : Prop where
  below : Below W.heap.size W wr
  own : wr.ownsRow W.heap.size 3 1 v k (((l.map (· + d)).take k).map (Value.int .i64))
set_option maxRecDepth 100000 in
set_option maxHeartbeats 4000000 in
theorem whole_walk {E : World → Prop} (T : TensorOK E) (w : World) (sp : Option Addr) (cap N : Nat) (l : List Int) (d : Int) (hN : l.length = N) (hl : Nums w sp cap l) (he : E w) : Calls Tryd.prog 9 #[.slice sp N cap, .int .i64 d] w fun e w' => e = .returned (.bool true) ∧ Below w.heap.size w w' := by
  have HE := Lib.hid he
  have HT := Lib.hid T
  clear he T
  have HB0 := Lib.hid (Below.refl w.heap.size w)
  have hNm : N ≤ 9223372036854775807 := by rw [← hN]; exact hl.len
  have HSm := Lib.hid (fun W he hl => HT.out.softmax W sp cap l he hl)
  have HMo := Lib.hid (fun W he hl => HT.out.most W sp cap l he hl)
  rw [hN] at HSm HMo
  have HL := Lib.hid hl
  have HNn := Lib.hid hN
  clear hl
  by_cases h1 : 600 < N
  · have d1 : decide ((600 : Int) < (N : Int)) = true := by simp; omega
    clear hN
    go_enter Tryd.func9, Tryd.ntmps9
    go_wp2_with fail
    refine (awake_any HT.out _ (HT.out.env _ _ HE.out HB0.out)).mono ?_
    rintro e w1 ⟨rfl, hb1⟩
    have HB1 := Lib.hid (HB0.out.trans (hb1.mono HB0.out.size))
    clear hb1
    go_wp2
    go_ret
    exact ⟨rfl, HB1.out⟩
  · have d1 : decide ((600 : Int) < (N : Int)) = false := by simp; omega
    by_cases hc : chkV l = 0
    · obtain ⟨z1, z2, hall⟩ := chkV_okW hN hc
      have hsv : smV l = smx l := by unfold smV; rw [if_pos hc]
      have hmr : mostR l = (nextT l [] : Int) := by unfold mostR; rw [if_pos hc]
      rw [hsv, hc] at HSm
      rw [hmr, hc] at HMo
      have HSl : Hid ((smx l).length = N) := Lib.hid (by rw [smx_length]; exact hN)
      obtain ⟨hm1, hm2⟩ := top_one (l := l) (by omega)
      rw [hN] at hm2
      have HSe := Lib.hid (fun i (hi : i < N) => smx_in (l := l) (by omega) (by omega) i (by omega))
      have HSt := Lib.hid (fun k => sum_take_in (l := smx l) (smx_mem (by omega) (by omega)) (by rw [smx_length]; omega) k)
      have hss := smx_sum (l := l) (by omega) (by omega)
      rw [hN] at hss
      have HSs := Lib.hid hss
      have HMs := Lib.hid (fun i (hi : i < N) => smx_most (l := l) (by omega) (by omega) (nextT l []) i (by omega) hm1 (by omega))
      have HAl := Lib.hid (fun i (hi : i < N) => in_of (p := isN) hall i (by omega))
      have HSh := Lib.hid (smx_shift l d (by omega))
      obtain ⟨P, hP⟩ : ∃ P, nextT l [] = P := ⟨_, rfl⟩
      rw [hP] at HMo hm2 HMs
      clear hsv hmr hm1 hP hss hall hc hN
      go_enter Tryd.func9, Tryd.ntmps9
      go_wp2_with fail
      refine (HSm.out _ (HT.out.env _ _ HE.out HB0.out) (HL.out.below HB0.out)).mono ?_
      rintro e w1 ⟨s1, c1, rfl, hn1, hb1⟩
      rw [HSl.out]
      have HB1 := Lib.hid (HB0.out.trans (hb1.mono HB0.out.size))
      have HN1 := Lib.hid hn1
      clear hb1 hn1
      go_wp2
      go_loop [7, 8] (fun s i => ∃ k : Nat, k ≤ N ∧ i = .int .i64 k ∧ s = .int .i64 ((smx l).take k).sum) (fun _ i => N - (intOf i).toNat)
      case atStart => exact ⟨0, by omega, rfl, rfl⟩
      case round =>
        obtain ⟨k, hk, rfl, rfl⟩ := hrel
        have hst := HSt.out k
        by_cases hlt : k < N
        · have hdt : decide (k < N) = true := by simp; omega
          obtain ⟨g, o, rfl, hc⟩ := HN1.out.at_ k (by rw [HSl.out]; exact hlt)
          have hst2 := HSt.out (k + 1)
          have hsk := sum_take (smx l) k (by rw [HSl.out]; exact hlt)
          have hxe := HSe.out k hlt
          rw [hsk] at hst2
          have HSk := Lib.hid hsk
          obtain ⟨x, hx⟩ : ∃ x, (smx l).getD k 0 = x := ⟨_, rfl⟩
          obtain ⟨S, hS⟩ : ∃ x, ((smx l).take k).sum = x := ⟨_, rfl⟩
          rw [hx] at hc hst2 HSk hxe
          rw [hS] at hst hst2 HSk ⊢
          obtain ⟨a1, a2⟩ := hst
          obtain ⟨b1, b2⟩ := hst2
          have e1 : decide (x < 0) = false := by simp; omega
          have e2 : decide (65536 < x) = false := by simp; omega
          clear hx hS hsk hxe
          go_wp2
          go_round
          case rel => exact ⟨k + 1, by omega, by go_num, by rw [HSk.out]⟩
          case measure => simp [intOf]; omega
        · obtain rfl : k = N := by omega
          have hdf : decide (k < k) = false := by simp
          have hta : (smx l).take k = smx l := List.take_of_length_le (by rw [HSl.out]; omega)
          have hss := HSs.out
          rw [hta] at hst ⊢
          obtain ⟨S, hS⟩ : ∃ x, (smx l).sum = x := ⟨_, rfl⟩
          rw [hS] at hst hss ⊢
          obtain ⟨a1, a2⟩ := hst
          obtain ⟨b1, b2⟩ := hss
          have e1 : decide (65536 < S) = false := by simp; omega
          have e2 : decide (S ≤ 65536 - (k : Int)) = false := by simp; omega
          have e3 : (k != k) = false := by simp
          have e4 : ((k : Int) != (k : Int)) = false := by simp
          clear hta hS hlt hk
          go_wp2_with fail
          refine (HMo.out _ (HT.out.env _ _ HE.out HB1.out) (HL.out.below HB1.out)).mono ?_
          rintro e w2 ⟨rfl, hb2⟩
          have HB2 := Lib.hid (HB1.out.trans (hb2.mono HB1.out.size))
          have H12 := Lib.hid hb2
          clear hb2
          have HN1b := Lib.hid (HN1.out.below H12.out)
          clear b1 b2 a1 a2 e1 e2
          go_wp2
          go_loopw [11] (fun i wr => ∃ q m : Nat, q ≤ k ∧ i = .int .i64 q ∧ wr = w2.drewN m) (fun i _ => k - (intOf i).toNat)
          case atStart => exact ⟨0, 0, by omega, rfl, rfl⟩
          case round =>
            obtain ⟨q, m, hq, rfl, rfl⟩ := hrel
            by_cases hlt : q < k
            · have hdt : decide (q < k) = true := by simp; omega
              obtain ⟨g, o, e, hc1⟩ := HN1b.out.at_ q (by rw [HSl.out]; exact hlt)
              obtain ⟨g1, o1, e1, hc2⟩ := HN1b.out.at_ P (by rw [HSl.out]; exact hm2)
              subst e
              cases e1
              obtain ⟨g2, o2, e, hc3⟩ := HL.out.at_ q (by rw [HNn.out]; exact hlt)
              obtain ⟨g3, o3, e1, hc4⟩ := HL.out.at_ P (by rw [HNn.out]; exact hm2)
              subst e
              cases e1
              have hc3r : w2.cell? _ = _ := (HB2.out.cell (block_lt_of_cell hc3)).trans hc3
              have hc4r : w2.cell? _ = _ := (HB2.out.cell (block_lt_of_cell hc4)).trans hc4
              have hms := HMs.out q hlt
              obtain ⟨x, hx⟩ : ∃ x, (smx l).getD q 0 = x := ⟨_, rfl⟩
              obtain ⟨y, hy⟩ : ∃ x, (smx l).getD P 0 = x := ⟨_, rfl⟩
              obtain ⟨u, hu⟩ : ∃ x, l.getD q 0 = x := ⟨_, rfl⟩
              obtain ⟨v, hv⟩ : ∃ x, l.getD P 0 = x := ⟨_, rfl⟩
              rw [hx] at hc1 hms
              rw [hy] at hc2 hms
              rw [hu] at hc3r hms
              rw [hv] at hc4r hms
              have f1 : decide (y < x) = false := by have := hms.1; simp; omega
              clear hx hy hu hv hc3 hc4
              by_cases huv : u = v
              · have hxy := hms.2 huv
                subst huv
                subst hxy
                have f2 : (u == u) = true := by simp
                have f3 : (x != x) = false := by simp
                clear hms
                go_wp2
                go_quiet (fail)
                go_wp2
                go_roundw
                case rel => exact ⟨q + 1, _, by omega, by go_num, rfl⟩
                case measure => simp [intOf]; omega
              · have f2 : (u == v) = false := by simpa using huv
                clear hms huv
                go_wp2
                go_quiet (fail)
                go_wp2
                go_roundw
                case rel => exact ⟨q + 1, _, by omega, by go_num, rfl⟩
                case measure => simp [intOf]; omega
            · obtain rfl : q = k := by omega
              have hdf : decide (q < q) = false := by simp
              have HB3 := Lib.hid (below_drewN HB2.out m)
              have HN1c := Lib.hid (Sl.drewN HN1b.out m)
              clear hlt hq
              by_cases k1 : d < -4294967296
              · have f1 : decide (d < -4294967296) = true := by simpa using k1
                go_wp2_with fail
                refine (awake_any HT.out _ (HT.out.env _ _ HE.out HB3.out)).mono ?_
                rintro e w4 ⟨rfl, hb4⟩
                have HB4 := Lib.hid (HB3.out.trans (hb4.mono HB3.out.size))
                clear hb4
                go_wp2
                go_ret
                exact ⟨rfl, HB4.out⟩
              · have f1 : decide (d < -4294967296) = false := by simpa using k1
                by_cases k2 : 4294967296 < d
                · have f2 : decide (4294967296 < d) = true := by simpa using k2
                  go_wp2_with fail
                  refine (awake_any HT.out _ (HT.out.env _ _ HE.out HB3.out)).mono ?_
                  rintro e w4 ⟨rfl, hb4⟩
                  have HB4 := Lib.hid (HB3.out.trans (hb4.mono HB3.out.size))
                  clear hb4
                  go_wp2
                  go_ret
                  exact ⟨rfl, HB4.out⟩
                · have f2 : decide (4294967296 < d) = false := by simpa using k2
                  go_wp2
                  refine gen_world (Q := fun w => Code.wp _ _ _ _ w) _ (fun W => Below w.heap.size w W ∧ Nums W s1 c1 (smx l)) ⟨HB3.out, HN1c.out⟩ ?_
                  rintro W ⟨hbW, hnW⟩
                  have HBW := Lib.hid hbW
                  have HNW := Lib.hid hnW
                  have HLW := Lib.hid (HL.out.below hbW)
                  clear hbW hnW
                  go_loopw [12, 13] (fun v i wr => ∃ r : Nat, r ≤ q ∧ i = .int .i64 r ∧ ShS w W l d r v wr) (fun _ i _ => q - (intOf i).toNat)
                  case atStart => exact ⟨0, by omega, rfl, Below.refl _ _, World.ownsRow_nil _ _ _ _⟩
                  case round =>
                    obtain ⟨r, hr, rfl, hS⟩ := hrel
                    obtain ⟨sv, cv, rfl, _, _, _⟩ := Sl.all1 hS.own
                    have HS := Lib.hid hS
                    clear hS
                    by_cases hlt : r < q
                    · have hdt : decide (r < q) = true := by simp; omega
                      obtain ⟨g, o, rfl, hc⟩ := HLW.out.at_ r (by rw [HNn.out]; exact hlt)
                      have hcr : wr.cell? _ = _ := (HS.out.below.cell (block_lt_of_cell hc)).trans hc
                      have hx2 := HAl.out r hlt
                      have HQ := Lib.hid (shift_take l d r (by rw [HNn.out]; exact hlt))
                      obtain ⟨x, hx⟩ : ∃ x, l.getD r 0 = x := ⟨_, rfl⟩
                      rw [hx] at hcr hx2 HQ
                      obtain ⟨x1, x2⟩ : -2147483648 ≤ x ∧ x ≤ 2147483647 := ⟨hx2.1, hx2.2⟩
                      have hsz := HS.out.below.size
                      clear hx hx2 hc
                      go_wp2_with (refine wpList_push rfl (.tmp 130) (.tmp 137) rfl W.heap.size (.slice sv r cv) r ((l.map (· + d)).take r) (x + d) rfl HS.out.own rfl (by omega) hsz ?_; intro v2 w2 hown2 hb2; have HO2 := Lib.hid hown2; have HB2 := Lib.hid (HS.out.below.trans hb2); clear hown2 hb2)
                      go_roundw
                      case rel => exact ⟨r + 1, by omega, by go_num, HB2.out, by rw [HQ.out]; exact HO2.out⟩
                      case measure => simp [intOf]; omega
                    · obtain rfl : r = q := by omega
                      have hdf : decide (r < r) = false := by simp
                      have hown := HS.out.own
                      rw [List.take_of_length_le (by simp [HNn.out])] at hown
                      obtain ⟨sw, cw, e, hlen, hnm⟩ := own_nums hown
                      cases e
                      have HNm := Lib.hid hnm
                      have HBr := Lib.hid (HBW.out.trans (HS.out.below.mono HBW.out.size))
                      have HNr := Lib.hid (HNW.out.below HS.out.below)
                      have HS2 := Lib.hid (HT.out.softmax wr sv cv (l.map (· + d)) (HT.out.env _ _ HE.out HBr.out) hnm)
                      rw [hlen] at HS2
                      clear hown hnm hlt hr
                      by_cases hc2 : chkV (l.map (· + d)) = 0
                      · have hsv : smV (l.map (· + d)) = smx l := by unfold smV; rw [if_pos hc2, HSh.out]
                        rw [hsv, hc2] at HS2
                        clear hsv hc2 hlen
                        go_wp2_with fail
                        refine (HS2.out).mono ?_
                        rintro e w4 ⟨s4, c4, rfl, hn4, hb4⟩
                        rw [HSl.out]
                        have HB4 := Lib.hid (HBr.out.trans (hb4.mono HBr.out.size))
                        have HNs := Lib.hid (HNr.out.below hb4)
                        have HN4 := Lib.hid hn4
                        clear hb4 hn4
                        go_wp2_with fail
                        refine (ints_same _ _ _ _ _ r (smx l) HSl.out HNs.out HN4.out).mono ?_
                        rintro e w5 ⟨rfl, hb5⟩
                        have HB5 := Lib.hid (HB4.out.trans (hb5.mono HB4.out.size))
                        clear hb5
                        go_wp2_with fail
                        refine (awake_any HT.out _ (HT.out.env _ _ HE.out HB5.out)).mono ?_
                        rintro e w6 ⟨rfl, hb6⟩
                        have HB6 := Lib.hid (HB5.out.trans (hb6.mono HB5.out.size))
                        clear hb6
                        go_wp2
                        go_ret
                        exact ⟨rfl, HB6.out⟩
                      · have hsv : smV (l.map (· + d)) = [] := by unfold smV; rw [if_neg hc2]
                        rw [hsv] at HS2
                        obtain ⟨y, hy⟩ : ∃ x, chkV (l.map (· + d)) = x := ⟨_, rfl⟩
                        rw [hy] at HS2 hc2
                        have f3 : (y != 0) = true := by simpa using hc2
                        clear hsv hc2 hy hlen
                        go_wp2_with fail
                        refine (HS2.out).mono ?_
                        rintro e w4 ⟨s4, c4, rfl, hn4, hb4⟩
                        rw [show ([] : List Int).length = 0 from rfl]
                        have HB4 := Lib.hid (HBr.out.trans (hb4.mono HBr.out.size))
                        clear hb4 hn4
                        go_wp2_with fail
                        refine (awake_any HT.out _ (HT.out.env _ _ HE.out HB4.out)).mono ?_
                        rintro e w5 ⟨rfl, hb5⟩
                        have HB5 := Lib.hid (HB4.out.trans (hb5.mono HB4.out.size))
                        clear hb5
                        go_wp2
                        go_ret
                        exact ⟨rfl, HB5.out⟩
    · have hsv : smV l = [] := by unfold smV; rw [if_neg hc]
      rw [hsv] at HSm
      obtain ⟨y, hy⟩ : ∃ x, chkV l = x := ⟨_, rfl⟩
      rw [hy] at HSm hc
      have e1 : (y != 0) = true := by simpa using hc
      clear hsv hc hN hy
      go_enter Tryd.func9, Tryd.ntmps9
      go_wp2_with fail
      refine (HSm.out _ (HT.out.env _ _ HE.out HB0.out) (HL.out.below HB0.out)).mono ?_
      rintro e w1 ⟨s1, c1, rfl, hn1, hb1⟩
      have HB1 := Lib.hid (HB0.out.trans (hb1.mono HB0.out.size))
      have HN1 := Lib.hid hn1
      clear hb1 hn1
      rw [show ([] : List Int).length = 0 from rfl]
      go_wp2_with fail
      refine (awake_any HT.out _ (HT.out.env _ _ HE.out HB1.out)).mono ?_
      rintro e w2 ⟨rfl, hb2⟩
      have HB2 := Lib.hid (HB1.out.trans (hb2.mono HB1.out.size))
      clear hb2
      go_wp2
      go_ret
      exact ⟨rfl, HB2.out⟩
end Go.Proofs.YtchjijifmjbgoaaDoor.Tn
