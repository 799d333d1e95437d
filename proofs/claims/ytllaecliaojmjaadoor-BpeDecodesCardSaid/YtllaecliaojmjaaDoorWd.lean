import Derived.Test.YtllaecliaojmjaaDoorWx
namespace Go.Proofs.YtllaecliaojmjaaDoor.Bp
set_option maxRecDepth 100000
open Go.ChangeShapes Go.WideShapes Go.ChangeAt Go.RowKit Go.Proofs.YtllaecliaojmjaaDoor.Tn

/-! ### the walk of BpeDecodes -/
set_option maxHeartbeats 8000000 in
theorem decodes_walk (w : World) (s1 s2 : Option Addr) (n P c1 cq : Nat) (al : List Int) (ps : List (Int × Int)) (lp : Option Addr) (cl N : Nat) (l : List Int) (ha : Byts w s1 c1 al) (hn : al.length = n) (hps : Prs w s2 cq ps) (hP : ps.length = P) (hl : Nums w lp cl l) (hN : l.length = N) :
    Calls Tryd.prog 3 #[.agg #[.slice s1 n c1, .slice s2 P cq], .slice lp N cl] w fun e w' => e = .returned (.bool true) ∧ Below w.heap.size w w' := by
  have HA := Lib.hid ha
  have HPs := Lib.hid hps
  have HNu := Lib.hid hl
  have Hn := Lib.hid hn
  have HP := Lib.hid hP
  have HN := Lib.hid hN
  have hnm : n ≤ maxLen := by have h1 := ha.sl.le; have h2 := ha.sl.max; rw [List.length_map] at h1; omega
  have hPm : P ≤ maxLen := by have h1 := hps.le; have h2 := hps.max; omega
  have hNm : N ≤ 9223372036854775807 := by rw [← hN]; exact hl.len
  have Hnm := Lib.hid hnm
  have HPm := Lib.hid hPm
  have HX0 := Lib.hid (Bx.made (s1 := s1) (n := n) (c1 := c1) (s2 := s2) (P := P) (cq := cq) w)
  clear ha hps hn hP hnm hPm hl hN
  go_enter Tryd.func3, Tryd.ntmps3
  go_upto_region 1 with fail
  refine gen_w (Q := fun w => Code.wp _ _ _ _ w) _ (Bx w.heap.size s1 n c1 s2 P cq w) HX0.out ?_
  clear HX0
  intro w1 hx1
  have HX1 := Lib.hid hx1
  obtain ⟨q0, q1⟩ := hx1.cells
  clear hx1
  go_wp2_with fail
  refine (few_any w1 s1 s2 n P c1 cq Hnm.out HPm.out).mono ?_
  rintro e w2 ⟨rfl, hb2⟩
  have HX2 := Lib.hid (HX1.out.later hb2)
  clear hb2 q0 q1 HX1
  by_cases hfew : (n ≤ 600 ∧ P ≤ 60) ∧ N ≤ 60
  · have hf : (decide (n ≤ 600) && decide (P ≤ 60)) = true := by simp [hfew.1.1, hfew.1.2]
    rw [hf]
    have HFew := Lib.hid hfew
    obtain ⟨q0, q1⟩ := HX2.out.cells
    have hab := HX2.out.below
    have HA2 := Lib.hid (HA.out.below hab)
    have HPs2 := Lib.hid (HPs.out.below hab)
    have d5 : decide (60 < N) = false := by have := hfew.2; simp; omega
    have d6 : decide ((60 : Int) < (N : Int)) = false := by have := hfew.2; simp; omega
    clear hf hfew hab
    go_wp2_with fail
    refine (new_any w2 s1 s2 c1 cq n P al ps HA2.out Hn.out HPs2.out HP.out (by have := HFew.out; omega) (by have := HFew.out; omega)).mono ?_
    rintro e w3 ⟨hb3, ⟨hE, rfl⟩ | ⟨hE, g, rfl, hg, hc⟩⟩
    · have HX3 := Lib.hid (HX2.out.later hb3)
      have HE := Lib.hid hE
      have HA3 := Lib.hid (HA.out.below HX3.out.below)
      have HPs3 := Lib.hid (HPs.out.below HX3.out.below)
      obtain ⟨r0, r1⟩ := HX3.out.cells
      clear hb3 q0 q1 hE
      go_wp2_with fail
      refine (plain_any w3 s1 s2 n P c1 cq al ps HA3.out Hn.out HPs3.out HP.out (by have := HFew.out; omega) (by have := HFew.out; omega)).mono ?_
      rintro e w4 ⟨cv, rfl, hb4, ⟨_, rfl⟩ | ⟨h0, _⟩⟩
      · have HX4 := Lib.hid (HX3.out.later hb4)
        obtain ⟨E, hE⟩ : ∃ E, (newD al ps).1 = E := ⟨_, rfl⟩
        rw [hE] at HE ⊢
        have hE0 : (E == 0) = false := by have := HE.out; simpa using this
        have hE1 : (E != 0) = true := by have := HE.out; simpa using this
        have hEE := same_beq E
        have hba : Below w4.heap.size w4 (w4.alloc (.cells #[.slice none 0 0, .slice none 0 0, .int .i64 0] 36)) := (Below.refl _ _).alloc (Nat.le_refl _) _
        have HX5 := Lib.hid (HX4.out.later hba)
        unfold noC
        clear hb4 hE hba r0 r1
        go_wp2_with fail
        refine (awake_any _).mono ?_
        rintro e w6 ⟨rfl, hbw6⟩
        have HX6 := Lib.hid (HX5.out.later hbw6)
        clear hbw6
        go_wp2
        go_ret
        exact ⟨rfl, HX6.out.below⟩
      · exact absurd h0 HE.out
    · have HX3 := Lib.hid (HX2.out.later hb3)
      have HA3 := Lib.hid (HA.out.below HX3.out.below)
      have HPs3 := Lib.hid (HPs.out.below HX3.out.below)
      have HE := Lib.hid hE
      obtain ⟨hy1, hy2, _, hy4, _⟩ := newD_yes hE
      have hG := good_newD ps (fun x hx => HA.out.rng x hx)
      obtain ⟨T, hT⟩ : ∃ T, (newD al ps).2 = T := ⟨_, rfl⟩
      rw [hT] at hy4 hc hG
      have HT := Lib.hid hT
      have HG := Lib.hid hG
      have HC3 := Lib.hid hc
      have HMl : Hid (T.length ≤ 512) := Lib.hid (by have := hy4.len; omega)
      have HN60 : Hid (N ≤ 60) := Lib.hid HFew.out.2
      obtain ⟨r0, r1⟩ := HX3.out.cells
      clear hb3 q0 q1 hE hg hc hy1 hy2 hy4 hG hT
      go_wp2_with fail
      refine (plain_any w3 s1 s2 n P c1 cq al ps HA3.out Hn.out HPs3.out HP.out (by have := HFew.out; omega) (by have := HFew.out; omega)).mono ?_
      rintro e w4 ⟨cv, rfl, hb4, ⟨h0, _⟩ | ⟨_, st, ct, sq, cq2, rfl, hst, _⟩⟩
      · exact absurd HE.out h0
      · have HX4 := Lib.hid (HX3.out.later hb4)
        have HC4 := Lib.hid (HC3.out.later hb4)
        rw [HE.out]
        rw [HT.out] at hst ⊢
        have HS4 := Lib.hid hst
        rw [Hn.out, HP.out]
        clear hb4 hst r0 r1
        go_upto_region 5 with fail
        have hba : Below w4.heap.size w4 (w4.alloc (.cells #[.slice st T.length ct, .slice sq P cq2, .int .i64 (n : Int)] 36)) := (Below.refl _ _).alloc (Nat.le_refl _) _
        refine gen_w (Q := fun w => Code.wp _ _ _ _ w) _ (fun W => Bx w.heap.size s1 n c1 s2 P cq w W ∧ Cd g al ps T W ∧ Strs W st ct T ∧ W.heap[w4.heap.size]? = some (.cells #[.slice st T.length ct, .slice sq P cq2, .int .i64 (n : Int)] 36 (0, 0))) ⟨HX4.out.later hba, HC4.out.later hba, HS4.out.below hba, heap_alloc_new _ _⟩ ?_
        obtain ⟨R, hR⟩ : ∃ R, w4.heap.size = R := ⟨_, rfl⟩
        rw [hR]
        clear hba hR HX4 HC4 HS4
        rintro w5 ⟨hx5, hc5, hs5, hr5⟩
        have HX5 : Hid (Wk w s1 n c1 s2 P cq g al ps T st ct R sq cq2 w5) := Lib.hid ⟨hx5, hc5, hs5, hr5⟩
        have HL5 := Lib.hid (Tn.Nums.below HNu.out hx5.below)
        clear hx5 hc5 hs5 hr5
        go_wp2_with fail
        refine (decode_any w5 g lp cl N al ps T l HX5.out.cd HG.out HMl.out HL5.out HN.out (by have := HN60.out; omega)).mono ?_
        obtain ⟨⟨gl, er⟩, hr⟩ : ∃ r, decD T l = r := ⟨_, rfl⟩
        rw [hr]
        have HR := Lib.hid hr
        rintro e w6 ⟨hb6, sp6, cap6, rfl, hby6⟩
        dsimp only at hby6 ⊢
        obtain ⟨gn, hgn⟩ : ∃ gn, gl.length = gn := ⟨_, rfl⟩
        rw [hgn]
        have HGn := Lib.hid hgn
        have HX6 := Lib.hid (HX5.out.later hb6)
        have HL6 := Lib.hid (Tn.Nums.below HL5.out hb6)
        have HB6 := Lib.hid hby6
        clear hr hb6 hby6 hgn
        go_wp2
        go_loopw [11, 12] (fun v i wr => ∃ k : Nat, k ≤ N ∧ i = .int .i64 k ∧ v = .string (strOfNums (dec T (l.take k))) ∧ (∀ x ∈ l.take k, 0 ≤ x ∧ x < T.length) ∧ Wk w s1 n c1 s2 P cq g al ps T st ct R sq cq2 wr ∧ Nums wr lp cl l ∧ Byts wr sp6 cap6 gl) (fun _ i _ => N - (intOf i).toNat)
        case atStart => exact ⟨0, by omega, rfl, by rw [List.take_zero]; rfl, (by rw [List.take_zero]; intro x hx; cases hx), HX6.out, HL6.out, HB6.out⟩
        case round =>
          clear HX6 HL6 HB6
          obtain ⟨k, hk, rfl, rfl, hall, hw, hlw, hbw⟩ := hrel
          have HW := Lib.hid hw
          have HL := Lib.hid hlw
          have HB := Lib.hid hbw
          have HAll := Lib.hid hall
          have t0 := hw.t0
          clear hw hlw hbw hall
          by_cases hil : k < N
          · have hd1 : decide (k < N) = true := by simpa using hil
            have hd2 : decide ((k : Int) < (N : Int)) = true := by simp; omega
            obtain ⟨c, o, e, h9⟩ := HL.out.at_ k (by rw [HN.out]; omega)
            clear h9
            subst e
            have u1 := Nums.cell HL.out k (by rw [HN.out]; omega)
            obtain ⟨x, hx⟩ : ∃ x, l.getD k 0 = x := ⟨_, rfl⟩
            rw [hx] at u1
            have HXx := Lib.hid hx
            clear hx
            by_cases hxr : 0 ≤ x ∧ x < T.length
            · obtain ⟨t, rfl⟩ : ∃ t : Nat, x = (t : Int) := ⟨x.toNat, by omega⟩
              have htl : t < T.length := by omega
              have g1 : decide ((t : Int) < 0) = false := by simp
              have g2 : decide ((T.length : Int) ≤ (t : Int)) = false := by simp; omega
              have g3 : decide (T.length ≤ t) = false := by simp; omega
              have HXr := Lib.hid hxr
              clear hxr
              obtain ⟨X, hX⟩ : ∃ X, strOfNums (dec T (l.take k)) = X := ⟨_, rfl⟩
              rw [hX]
              have HXX := Lib.hid hX
              clear hX
              go_wp2
              go_quiet (fail)
              have HW7 := Lib.hid (HW.out.later (drawn_below nq))
              have HL7 := Lib.hid (Tn.Nums.below HL.out (drawn_below nq))
              have HB7 := Lib.hid (HB.out.below (drawn_below nq))
              generalize wr.drewN nq = w7 at HW7 HL7 HB7
              clear t0 u1 g2 g3 g1
              have t0 := HW7.out.t0
              have u1 := Nums.cell HL7.out k (by rw [HN.out]; omega)
              rw [HXx.out] at u1
              obtain ⟨d2, o2, e, t1⟩ := HW7.out.strs.at_ t htl
              obtain ⟨u, hu⟩ : ∃ u, T.getD t [] = u := ⟨_, rfl⟩
              rw [hu] at t1
              unfold strV at t1
              subst e
              obtain ⟨Y, hY⟩ : ∃ Y, strOfNums u = Y := ⟨_, rfl⟩
              rw [hY] at t1
              obtain ⟨Z, hZ⟩ : ∃ Z, X ++ Y = Z := ⟨_, rfl⟩
              have htk : l.take (k + 1) = l.take k ++ [(t : Int)] := by
                rw [← HXx.out, List.getD_eq_getElem?_getD, List.getElem?_eq_getElem (by rw [HN.out]; exact hil), Option.getD_some]
                exact List.take_succ_eq_append_getElem (by rw [HN.out]; exact hil)
              have HTk := Lib.hid htk
              have HZ : Hid (Z = strOfNums (dec T (l.take (k + 1)))) := Lib.hid (by
                rw [htk, dec_snoc, Int.toNat_natCast, hu, ← str_append, HXX.out, hY, hZ])
              have hsz : X.size + Y.size ≤ 2000 := by
                rw [← HXX.out, ← hY, str_size, str_size]
                have h1 := dec_short HG.out (l.take k)
                have h2 := (HG.out.at_ t).2
                rw [hu] at h2
                rw [List.length_take, HN.out] at h1
                have := HN60.out
                omega
              have hbig : (X.size + Y.size > 9223372036854775807) = False := by
                apply eq_false
                omega
              clear hu hY htk hsz
              go_wp2
              go_quiet (fail)
              have HW8 := Lib.hid (HW7.out.later (drawn_below nq))
              have HL8 := Lib.hid (Tn.Nums.below HL7.out (drawn_below nq))
              have HB8 := Lib.hid (HB7.out.below (drawn_below nq))
              generalize w7.drewN nq = w8 at HW8 HL8 HB8
              clear t0 u1 t1 hbig
              try rw [hZ]
              clear hZ
              go_wp2
              go_roundw
              case rel => exact ⟨k + 1, by omega, by go_num, by rw [HZ.out], fun y hy => by
                rw [HTk.out] at hy
                rcases List.mem_append.1 hy with h1 | h1
                · exact HAll.out y h1
                · obtain rfl : y = (t : Int) := by simpa using h1
                  exact HXr.out, HW8.out, HL8.out, HB8.out⟩
              case measure => simp [intOf]; omega
            · have h9 := HR.out
              unfold decD at h9
              rw [if_neg (fun h => hxr (h x (by rw [← HXx.out]; exact getD_mem (by rw [HN.out]; exact hil))))] at h9
              obtain ⟨rfl, rfl⟩ := Prod.mk.inj h9
              obtain rfl : 0 = gn := HGn.out
              obtain ⟨X, hX⟩ : ∃ X, strOfNums (dec T (l.take k)) = X := ⟨_, rfl⟩
              rw [hX]
              clear h9 hX
              have hg : decide (x < 0) = true ∨ (decide (x < 0) = false ∧ decide ((T.length : Int) ≤ x) = true) := by
                by_cases h0 : x < 0
                · exact Or.inl (by simpa using h0)
                · refine Or.inr ⟨by simpa using h0, ?_⟩
                  have : ¬ x < T.length := fun h => hxr ⟨by omega, h⟩
                  simp
                  omega
              clear hxr
              have e10 := same_beq (10 : Int)
              rcases hg with g1 | ⟨g1, g2⟩
              · go_wp2
                go_quiet (fail)
                have HX7 := Lib.hid (HW.out.later (drawn_below nq))
                generalize wr.drewN nq = w7 at HX7
                clear t0 u1
                go_wp2_with fail
                refine (awake_any _).mono ?_
                rintro e w8 ⟨rfl, hbw8⟩
                have HX8 := Lib.hid (HX7.out.later hbw8)
                clear hbw8
                go_wp2
                go_ret
                exact ⟨rfl, HX8.out.bx.below⟩
              · go_wp2
                go_quiet (fail)
                have HX7 := Lib.hid (HW.out.later (drawn_below nq))
                generalize wr.drewN nq = w7 at HX7
                clear t0 u1
                go_wp2_with fail
                refine (awake_any _).mono ?_
                rintro e w8 ⟨rfl, hbw8⟩
                have HX8 := Lib.hid (HX7.out.later hbw8)
                clear hbw8
                go_wp2
                go_ret
                exact ⟨rfl, HX8.out.bx.below⟩
          · obtain rfl : k = N := by omega
            have hdf : decide (k < k) = false := by simp
            have hdf2 : decide ((k : Int) < (k : Int)) = false := by simp
            have e9 : l.take k = l := List.take_of_length_le (by rw [HN.out]; exact Nat.le_refl _)
            have h9 := HR.out
            unfold decD at h9
            rw [if_pos (fun x hx => HAll.out x (by rw [e9]; exact hx))] at h9
            obtain ⟨rfl, rfl⟩ := Prod.mk.inj h9
            rw [e9]
            have hcv := conv_any HB.out
            rw [HGn.out] at hcv
            obtain ⟨Z, hZ⟩ : ∃ Z, strOfNums (dec T l) = Z := ⟨_, rfl⟩
            rw [hZ] at hcv ⊢
            have hzz : (Z.toList == Z.toList) = true := by simp
            have e0 := same_beq (0 : Int)
            clear h9 e9 hZ hil
            go_wp2_with fail
            refine (awake_any _).mono ?_
            rintro e w8 ⟨rfl, hb8⟩
            have HX8 := Lib.hid (HW.out.later hb8)
            clear hb8 t0 hcv
            go_wp2
            go_ret
            exact ⟨rfl, HX8.out.bx.below⟩
  · have hX : (decide (n ≤ 600) && decide (P ≤ 60)) = false ∨ ((decide (n ≤ 600) && decide (P ≤ 60)) = true ∧ decide (60 < N) = true ∧ decide ((60 : Int) < (N : Int)) = true) := by
      by_cases h1 : n ≤ 600 ∧ P ≤ 60
      · have h3 : 60 < N := by
          have h9 : ¬ N ≤ 60 := fun h => hfew ⟨h1, h⟩
          omega
        exact Or.inr ⟨by simp [h1.1, h1.2], by simpa using h3, by simp; omega⟩
      · left
        rw [← Bool.not_eq_true]
        intro h
        simp at h
        exact h1 h
    clear hfew
    rcases hX with hf | ⟨hf, k2, k3⟩
    · rw [hf]
      clear hf
      go_wp2_with fail
      refine (awake_any _).mono ?_
      rintro e w3 ⟨rfl, hbw3⟩
      have HX3 := Lib.hid (HX2.out.later hbw3)
      clear hbw3
      go_wp2
      go_ret
      exact ⟨rfl, HX3.out.below⟩
    · rw [hf]
      clear hf
      go_wp2_with fail
      refine (awake_any _).mono ?_
      rintro e w3 ⟨rfl, hbw3⟩
      have HX3 := Lib.hid (HX2.out.later hbw3)
      clear hbw3
      go_wp2
      go_ret
      exact ⟨rfl, HX3.out.below⟩
end Go.Proofs.YtllaecliaojmjaaDoor.Bp
