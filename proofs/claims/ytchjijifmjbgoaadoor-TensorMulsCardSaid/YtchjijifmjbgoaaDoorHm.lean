import Derived.Test.YtchjijifmjbgoaaDoorGw
namespace Go.Proofs.YtchjijifmjbgoaaDoor.Tn
open Go.ChangeShapes Go.WideShapes Go.ChangeAt Go.RowKit Go.Proofs.YtchjijifmjbgoaaDoor.Fx Go.Proofs.YtchjijifmjbgoaaDoor.Rf

/-- while the rows are gone through: nothing is wrong so far, or something is -/
structure MuA (w : World) (R C : Int) (sp : Option Addr) (N cap : Nat) (sq : Option Addr) (caq : Nat) (l v G : List Int) (sg : Option Addr) (cg : Nat) (W : World) : Prop where
  m : MatAt w R C sp N cap W
  l : Nums W sp cap l
  v : Nums W sq caq v
  g : Nums W sg cg G
theorem MuA.later {w W W' : World} {R C : Int} {sp sq sg : Option Addr} {N cap caq cg : Nat} {l v G : List Int} (h : MuA w R C sp N cap sq caq l v G sg cg W) (hb : Below W.heap.size W W') : MuA w R C sp N cap sq caq l v G sg cg W' :=
  ⟨h.m.later hb, h.l.below hb, h.v.below hb, h.g.below hb⟩
def MuG (w : World) (R C : Int) (sp : Option Addr) (N cap : Nat) (sq : Option Addr) (caq : Nat) (l v G : List Int) (sg : Option Addr) (cg : Nat) (W : World) (Cn Rn : Nat) (want out i : Value) (wr : World) : Prop :=
  ∃ k : Nat, k ≤ Rn ∧ i = .int .i64 k ∧ MuA w R C sp N cap sq caq l v G sg cg wr ∧ Below W.heap.size W wr ∧
    ((want = .int .i64 0 ∧ (∀ q, q < k → dotE (rowL l Cn q) v = 0) ∧ wr.ownsRow W.heap.size 3 1 out k ((dotsR l Cn v k).map (Value.int .i64))) ∨
     (∃ y : Int, y ≠ 0 ∧ mulE R C l v = y ∧ want = .int .i64 y))
set_option maxRecDepth 100000 in
set_option maxHeartbeats 4000000 in
theorem muls_walk {E : World → Prop} (T : TensorOK E) (w : World) (r c : Int) (sp sq : Option Addr) (cap caq N M : Nat) (l v : List Int) (hN : l.length = N) (hM : v.length = M) (hl : Nums w sp cap l) (hv : Nums w sq caq v) (he : E w) : Calls Tryd.prog 5 #[matV r c sp N cap, .slice sq M caq] w fun e w' => e = .returned (.bool true) ∧ Below w.heap.size w w' := by
  have HE := Lib.hid he
  have HT := Lib.hid T
  clear he T
  have HB0 := Lib.hid (Below.refl w.heap.size w)
  have hNm : N ≤ 9223372036854775807 := by rw [← hN]; exact hl.len
  have hMm : M ≤ 9223372036854775807 := by rw [← hM]; exact hv.len
  have hNc : N ≤ cap := by rw [← hN]; exact hl.cap.1
  have HMu := Lib.hid (fun W he hl hv => HT.out.mul W r c sp sq cap caq l v he hl hv)
  have HRm := Lib.hid (fun W hl => rmatrix_any W r c sp cap N l hN hl)
  rw [hN, hM] at HMu
  have HL := Lib.hid hl
  have HV := Lib.hid hv
  unfold matV at HMu ⊢
  clear hl hv
  by_cases h1 : 600 < N
  · have d1 : decide ((600 : Int) < (N : Int)) = true := by simp; omega
    clear hN hM
    go_enter Tryd.func5, Tryd.ntmps5
    go_upto_region 1 with fail
    refine gen_world (Q := fun w => Code.wp _ _ _ _ w) _ (MatAt w r c sp N cap) (MatAt.made w r c sp N cap _ rfl) ?_
    intro W0 hW
    have HW := Lib.hid hW
    have HB0 := Lib.hid hW.below
    have c0 := hW.c0
    have c1 := hW.c1
    have c2 := hW.c2
    clear hW
    go_wp2_with fail
    refine (awake_any HT.out _ (HT.out.env _ _ HE.out HB0.out)).mono ?_
    rintro e w1 ⟨rfl, hb1⟩
    have HB1 := Lib.hid (HB0.out.trans (hb1.mono HB0.out.size))
    clear hb1
    go_wp2
    go_ret
    exact ⟨rfl, HB1.out⟩
  · have d1 : decide ((600 : Int) < (N : Int)) = false := by simp; omega
    by_cases h2 : 100 < M
    · have d2 : decide ((100 : Int) < (M : Int)) = true := by simp; omega
      clear hN hM
      go_enter Tryd.func5, Tryd.ntmps5
      go_upto_region 1 with fail
      refine gen_world (Q := fun w => Code.wp _ _ _ _ w) _ (MatAt w r c sp N cap) (MatAt.made w r c sp N cap _ rfl) ?_
      intro W0 hW
      have HW := Lib.hid hW
      have HB0 := Lib.hid hW.below
      have c0 := hW.c0
      have c1 := hW.c1
      have c2 := hW.c2
      clear hW
      go_wp2_with fail
      refine (awake_any HT.out _ (HT.out.env _ _ HE.out HB0.out)).mono ?_
      rintro e w1 ⟨rfl, hb1⟩
      have HB1 := Lib.hid (HB0.out.trans (hb1.mono HB0.out.size))
      clear hb1
      go_wp2
      go_ret
      exact ⟨rfl, HB1.out⟩
    · have d2 : decide ((100 : Int) < (M : Int)) = false := by simp; omega
      clear h2
      by_cases hk : chkM r c l = 0
      · obtain ⟨R, C, rfl, rfl, r1, r2, k1, k2, hRC, hw⟩ := chkM_ok hN hk
        have HK := Lib.hid hk
        rw [hk] at HRm
        by_cases hmc : M = C
        · subst hmc
          have f1 : (M != M) = false := by simp
          have f2 : ((M : Int) != (M : Int)) = false := by simp
          obtain ⟨B, hB⟩ : ∃ x, (mulV (R : Int) (M : Int) l v).length = x := ⟨_, rfl⟩
          have HBl := Lib.hid hB
          obtain ⟨me, hme⟩ : ∃ x, mulE (R : Int) (M : Int) l v = x := ⟨_, rfl⟩
          rw [hme] at HMu
          have HMe := Lib.hid hme
          have HNl : Hid (l.length = R * M) := Lib.hid (hN.trans hRC)
          have hRM : R * M = N := hRC.symm
          have HRM := Lib.hid hRM
          have hN6 : N ≤ 600 := by omega
          have HVm := Lib.hid hM
          clear hk hw hN hRC hB hme hRM hM
          go_enter Tryd.func5, Tryd.ntmps5
          go_upto_region 1 with fail
          refine gen_world (Q := fun w => Code.wp _ _ _ _ w) _ (MatAt w (R : Int) (M : Int) sp N cap) (MatAt.made w (R : Int) (M : Int) sp N cap _ rfl) ?_
          intro W0 hW
          have HW := Lib.hid hW
          have HB0 := Lib.hid hW.below
          have c0 := hW.c0
          have c1 := hW.c1
          have c2 := hW.c2
          clear hW
          go_wp2_with (refine wpList_load_row rfl 24 (.tmp 2) rfl w.heap.size rfl 24 (matC (R : Int) (M : Int) sp N cap) (0, 0) _ HW.out.row Tryd.underlying24 rfl size_mat ?_)
          refine (HMu.out _ (HT.out.env _ _ HE.out HB0.out) (HL.out.below HB0.out) (HV.out.below HB0.out)).mono ?_
          rintro e w1 ⟨s1, e1, rfl, hn1, hb1⟩
          rw [HBl.out]
          have HW1 := Lib.hid (HW.out.later hb1)
          have c0 := HW1.out.c0
          have c1 := HW1.out.c1
          have c2 := HW1.out.c2
          have HB1 := Lib.hid HW1.out.below
          have HN1 := Lib.hid hn1
          clear hb1 hn1
          go_wp2_with fail
          refine (HRm.out _ (HL.out.below HB1.out)).mono ?_
          rintro e w' ⟨rfl, rfl⟩
          go_wp2
          refine gen_world (Q := fun w => Code.wp _ _ _ _ w) _ (MuA w (R : Int) (M : Int) sp N cap sq caq l v (mulV (R : Int) (M : Int) l v) s1 e1) ⟨HW1.out, HL.out.below HB1.out, HV.out.below HB1.out, HN1.out⟩ ?_
          intro W hA
          have HA0 := Lib.hid hA
          have HA := Lib.hid hA
          clear hA c0 c1 c2
          go_loopw [7, 8, 9] (fun want out i wr => MuG w (R : Int) (M : Int) sp N cap sq caq l v (mulV (R : Int) (M : Int) l v) s1 e1 W M R want out i wr) (fun want _ i _ => 2 * (R - (intOf i).toNat) + (1 - (intOf want).natAbs))
          case atStart => exact ⟨0, by omega, rfl, HA.out, Below.refl _ _, Or.inl ⟨rfl, fun q hq => absurd hq (by omega), World.ownsRow_nil _ _ _ _⟩⟩
          case round =>
            obtain ⟨k, hk, rfl, hA, hbW, hst⟩ := hrel
            have HA := Lib.hid hA
            have HBw := Lib.hid hbW
            have c0 := hA.m.c0
            have c1 := hA.m.c1
            have c2 := hA.m.c2
            clear hA hbW
            rcases hst with ⟨rfl, hz, hown⟩ | ⟨y, hy, hme, rfl⟩
            · have HZ := Lib.hid hz
              obtain ⟨sv, cv, rfl, _, _, _⟩ := Sl.all1 hown
              have HO := Lib.hid hown
              clear hz hown
              by_cases hlt : k < R
              · have hdt : decide (k < R) = true := by simp; omega
                have hdi : decide ((k : Int) < (R : Int)) = true := by simp; omega
                have HRl := Lib.hid (rowL_length HNl.out hlt)
                have hin := row_in (C := M) hlt
                rw [HRM.out] at hin
                have HRn := Lib.hid (row_nums HA.out.l M k (by rw [HNl.out, HRM.out]; omega))
                obtain ⟨z, hz⟩ : ∃ z, k * M = z := ⟨_, rfl⟩
                rw [hz] at hin HRn
                have kC := run_mid sp N cap z (z + M) (by omega) (by omega) wr
                rw [show z + M - z = M by omega] at kC
                have hqc : (k : Int) * (M : Int) = (z : Int) := by rw [← hz, Int.natCast_mul]
                have hzc : ((z + M : Nat) : Int) = (z : Int) + (M : Int) := by omega
                rw [hzc] at kC
                have HDt := Lib.hid (rdot_any wr (cutA sp cap z) sq (cap - z) caq M M (rowL l M k) v HRl.out HVm.out HRn.out HA.out.v)
                have HQ := Lib.hid (dotsR_succ l M v k)
                obtain ⟨x, hx⟩ : ∃ x, dotR (rowL l M k) v = x := ⟨_, rfl⟩
                rw [hx] at HDt HQ
                clear hz hx hzc
                by_cases hy : dotE (rowL l M k) v = 0
                · rw [hy] at HDt
                  have HZ2 : Hid (∀ q, q < k + 1 → dotE (rowL l M q) v = 0) := Lib.hid (fun q hq => by
                    by_cases e : q = k
                    · rw [e]; exact hy
                    · exact HZ.out q (by omega))
                  clear hy
                  go_wp2_with fail
                  refine HDt.out.mono ?_
                  rintro e w3 ⟨rfl, hb3⟩
                  have HA3 := Lib.hid (HA.out.later hb3)
                  have HB3 := Lib.hid (HBw.out.trans (hb3.mono HBw.out.size))
                  have HO3 := Lib.hid (owns_below HO.out hb3)
                  have hsz := HB3.out.size
                  clear hb3 c0 c1 c2 kC hqc
                  have c0 := HA3.out.m.c0
                  have c1 := HA3.out.m.c1
                  have c2 := HA3.out.m.c2
                  go_wp2_with (refine wpList_push rfl (.tmp 74) (.tmp 76) rfl W.heap.size (.slice sv k cv) k (dotsR l M v k) x rfl HO3.out rfl (by omega) hsz ?_; intro v2 w4 hown4 hb4; have HO4 := Lib.hid hown4; have HB4 := Lib.hid (HB3.out.trans hb4); have HA4 : Hid (MuA w (R : Int) (M : Int) sp N cap sq caq l v (mulV (R : Int) (M : Int) l v) s1 e1 w4) := Lib.hid (HA0.out.later (HB3.out.trans hb4)); clear hown4 hb4 c0 c1 c2)
                  go_roundw
                  case rel => exact ⟨k + 1, by omega, by go_num, HA4.out, HB4.out, Or.inl ⟨rfl, HZ2.out, by rw [HQ.out]; exact HO4.out⟩⟩
                  case measure => simp [intOf]; omega
                · have hmf := (mulE_first HK.out HVm.out hlt HZ.out hy).1
                  obtain ⟨y, hyy⟩ : ∃ x, dotE (rowL l M k) v = x := ⟨_, rfl⟩
                  rw [hyy] at HDt hy hmf
                  have HMf := Lib.hid hmf
                  have HY := Lib.hid hy
                  clear hyy hmf hy
                  go_wp2_with fail
                  refine HDt.out.mono ?_
                  rintro e w3 ⟨rfl, hb3⟩
                  have HA3 := Lib.hid (HA.out.later hb3)
                  have HB3 := Lib.hid (HBw.out.trans (hb3.mono HBw.out.size))
                  have HO3 := Lib.hid (owns_below HO.out hb3)
                  have hsz := HB3.out.size
                  clear hb3 c0 c1 c2 kC hqc
                  have c0 := HA3.out.m.c0
                  have c1 := HA3.out.m.c1
                  have c2 := HA3.out.m.c2
                  go_wp2_with (refine wpList_push rfl (.tmp 74) (.tmp 76) rfl W.heap.size (.slice sv k cv) k (dotsR l M v k) x rfl HO3.out rfl (by omega) hsz ?_; intro v2 w4 hown4 hb4; have HO4 := Lib.hid hown4; have HB4 := Lib.hid (HB3.out.trans hb4); have HA4 : Hid (MuA w (R : Int) (M : Int) sp N cap sq caq l v (mulV (R : Int) (M : Int) l v) s1 e1 w4) := Lib.hid (HA0.out.later (HB3.out.trans hb4)); clear hown4 hb4 c0 c1 c2)
                  go_roundw
                  case rel => exact ⟨k + 1, by omega, by go_num, HA4.out, HB4.out, Or.inr ⟨y, HY.out, HMf.out, rfl⟩⟩
                  case measure => simp [intOf]; have := HY.out; omega
              · obtain rfl : k = R := by omega
                have hdf : decide (k < k) = false := by simp
                have hdi : decide ((k : Int) < (k : Int)) = false := by simp
                obtain ⟨ha1, ha2⟩ := mulE_all HK.out HVm.out HZ.out
                have hme0 : me = 0 := HMe.out.symm.trans ha1
                subst hme0
                have hown := HO.out
                have hg := HA.out.g
                rw [ha2] at hg
                obtain ⟨so, co, e, hlen, hnm⟩ := own_nums hown
                cases e
                have hBk : B = k := by rw [← HBl.out, ha2, dotsR_length]
                subst hBk
                have HG := Lib.hid hg
                have HNm := Lib.hid hnm
                have HLn := Lib.hid hlen
                have HBz := Lib.hid HA.out.m.below
                clear ha1 ha2 hown hg hnm hlen hlt hk
                go_wp2_with fail
                refine (ints_same _ _ _ _ _ B (dotsR l M v B) HLn.out HG.out HNm.out).mono ?_
                rintro e w5 ⟨rfl, hb5⟩
                have HB5 := Lib.hid (HBz.out.trans (hb5.mono HBz.out.size))
                clear hb5
                go_wp2_with fail
                refine (awake_any HT.out _ (HT.out.env _ _ HE.out HB5.out)).mono ?_
                rintro e w6 ⟨rfl, hb6⟩
                have HB6 := Lib.hid (HB5.out.trans (hb6.mono HB5.out.size))
                clear hb6
                go_wp2
                go_ret
                exact ⟨rfl, HB6.out⟩
            · have hyme : y = me := hme.symm.trans HMe.out
              subst hyme
              have f3 : (y == 0) = false := by simpa using hy
              have f4 : (y != 0) = true := by simpa using hy
              have hmv : mulV (R : Int) (M : Int) l v = [] := by unfold mulV; rw [if_neg (by rw [hme]; exact hy)]
              have hB0 : B = 0 := by rw [← HBl.out, hmv]; rfl
              subst hB0
              have HB5 := Lib.hid HA.out.m.below
              clear hmv hme hy
              by_cases hlt : k < R
              · have hdt : decide (k < R) = true := by simp; omega
                have hdi : decide ((k : Int) < (R : Int)) = true := by simp; omega
                go_wp2_with fail
                refine (awake_any HT.out _ (HT.out.env _ _ HE.out HB5.out)).mono ?_
                rintro e w6 ⟨rfl, hb6⟩
                have HB6 := Lib.hid (HB5.out.trans (hb6.mono HB5.out.size))
                clear hb6
                go_wp2
                go_ret
                exact ⟨rfl, HB6.out⟩
              · have hdt : decide (k < R) = false := by simp; omega
                have hdi : decide ((k : Int) < (R : Int)) = false := by simp; omega
                go_wp2_with fail
                refine (awake_any HT.out _ (HT.out.env _ _ HE.out HB5.out)).mono ?_
                rintro e w6 ⟨rfl, hb6⟩
                have HB6 := Lib.hid (HB5.out.trans (hb6.mono HB5.out.size))
                clear hb6
                go_wp2
                go_ret
                exact ⟨rfl, HB6.out⟩
        · have hX : mulE (R : Int) (C : Int) l v = 13 := by unfold mulE; rw [if_neg (fun h => h hk), if_pos (by omega)]
          have hY : mulV (R : Int) (C : Int) l v = [] := by unfold mulV; rw [if_neg (by omega)]
          rw [hX, hY] at HMu
          have f1 : (M != C) = true := by simpa using hmc
          have f2 : ((M : Int) != (C : Int)) = true := by simp; omega
          have g1 : decide ((0 : Int) < (R : Int)) = true := by simp; omega
          have g2 : decide (0 < R) = true := by simp; omega
          clear hX hY hk hw hN hRC hM hmc
          go_enter Tryd.func5, Tryd.ntmps5
          go_upto_region 1 with fail
          refine gen_world (Q := fun w => Code.wp _ _ _ _ w) _ (MatAt w (R : Int) (C : Int) sp N cap) (MatAt.made w (R : Int) (C : Int) sp N cap _ rfl) ?_
          intro W0 hW
          have HW := Lib.hid hW
          have HB0 := Lib.hid hW.below
          have c0 := hW.c0
          have c1 := hW.c1
          have c2 := hW.c2
          clear hW
          go_wp2_with (refine wpList_load_row rfl 24 (.tmp 2) rfl w.heap.size rfl 24 (matC (R : Int) (C : Int) sp N cap) (0, 0) _ HW.out.row Tryd.underlying24 rfl size_mat ?_)
          refine (HMu.out _ (HT.out.env _ _ HE.out HB0.out) (HL.out.below HB0.out) (HV.out.below HB0.out)).mono ?_
          rintro e w1 ⟨s1, e1, rfl, hn1, hb1⟩
          rw [show ([] : List Int).length = 0 from rfl]
          have HW1 := Lib.hid (HW.out.later hb1)
          have c0 := HW1.out.c0
          have c1 := HW1.out.c1
          have c2 := HW1.out.c2
          have HB1 := Lib.hid HW1.out.below
          have HN1 := Lib.hid hn1
          clear hb1 hn1
          go_wp2_with fail
          refine (HRm.out _ (HL.out.below HB1.out)).mono ?_
          rintro e w' ⟨rfl, rfl⟩
          go_wp2
          go_loop [7, 8, 9] (fun want out i => want = .int .i64 13 ∧ out = .slice none 0 0 ∧ i = .int .i64 0) (fun _ _ _ => 0)
          case atStart => exact ⟨rfl, rfl, rfl⟩
          case round =>
            obtain ⟨rfl, rfl, rfl⟩ := hrel
            go_wp2_with fail
            refine (awake_any HT.out _ (HT.out.env _ _ HE.out HB1.out)).mono ?_
            rintro e w2 ⟨rfl, hb2⟩
            have HB2 := Lib.hid (HB1.out.trans (hb2.mono HB1.out.size))
            clear hb2
            go_wp2
            go_ret
            exact ⟨rfl, HB2.out⟩
      · have hX : mulE r c l v = chkM r c l := by unfold mulE; rw [if_pos hk]
        have hY : mulV r c l v = [] := by unfold mulV; rw [if_neg (by rw [hX]; exact hk)]
        rw [hX, hY] at HMu
        obtain ⟨y, hy⟩ : ∃ x, chkM r c l = x := ⟨_, rfl⟩
        rw [hy] at HMu HRm hk
        have f1 : (y != 0) = true := by simpa using hk
        have f2 : (y == 0) = false := by simpa using hk
        clear hX hY hk hN hM hy
        go_enter Tryd.func5, Tryd.ntmps5
        go_upto_region 1 with fail
        refine gen_world (Q := fun w => Code.wp _ _ _ _ w) _ (MatAt w r c sp N cap) (MatAt.made w r c sp N cap _ rfl) ?_
        intro W0 hW
        have HW := Lib.hid hW
        have HB0 := Lib.hid hW.below
        have c0 := hW.c0
        have c1 := hW.c1
        have c2 := hW.c2
        clear hW
        go_wp2_with (refine wpList_load_row rfl 24 (.tmp 2) rfl w.heap.size rfl 24 (matC r c sp N cap) (0, 0) _ HW.out.row Tryd.underlying24 rfl size_mat ?_)
        refine (HMu.out _ (HT.out.env _ _ HE.out HB0.out) (HL.out.below HB0.out) (HV.out.below HB0.out)).mono ?_
        rintro e w1 ⟨s1, e1, rfl, hn1, hb1⟩
        rw [show ([] : List Int).length = 0 from rfl]
        have HW1 := Lib.hid (HW.out.later hb1)
        have c0 := HW1.out.c0
        have c1 := HW1.out.c1
        have c2 := HW1.out.c2
        have HB1 := Lib.hid HW1.out.below
        have HN1 := Lib.hid hn1
        clear hb1 hn1
        go_wp2_with fail
        refine (HRm.out _ (HL.out.below HB1.out)).mono ?_
        rintro e w' ⟨rfl, rfl⟩
        go_wp2
        go_loop [7, 8, 9] (fun want out i => want = .int .i64 y ∧ out = .slice none 0 0 ∧ i = .int .i64 0) (fun _ _ _ => 0)
        case atStart => exact ⟨rfl, rfl, rfl⟩
        case round =>
          obtain ⟨rfl, rfl, rfl⟩ := hrel
          by_cases g0 : 0 < r
          · have g1 : decide (0 < r) = true := by simpa using g0
            go_wp2_with fail
            refine (awake_any HT.out _ (HT.out.env _ _ HE.out HB1.out)).mono ?_
            rintro e w2 ⟨rfl, hb2⟩
            have HB2 := Lib.hid (HB1.out.trans (hb2.mono HB1.out.size))
            clear hb2
            go_wp2
            go_ret
            exact ⟨rfl, HB2.out⟩
          · have g1 : decide (0 < r) = false := by simpa using g0
            go_wp2_with fail
            refine (awake_any HT.out _ (HT.out.env _ _ HE.out HB1.out)).mono ?_
            rintro e w2 ⟨rfl, hb2⟩
            have HB2 := Lib.hid (HB1.out.trans (hb2.mono HB1.out.size))
            clear hb2
            go_wp2
            go_ret
            exact ⟨rfl, HB2.out⟩
end Go.Proofs.YtchjijifmjbgoaaDoor.Tn
