/- Pools of rows in pages: the laws' does: both answer alike, and hold the same then. -/
import Derived.Test.YtcfhchdkohjbfaaRp
import Derived.Test.YtcfhchdkohjbfaaRq
namespace Go.Proofs.Ytcfhchdkohjbfaa.Kv
set_option maxRecDepth 100000
open Go.ChangeShapes Go.WideShapes Go.ChangeAt Go.RowKit Go.Proofs.Ytcfhchdkohjbfaa.Tn
theorem mine_theirs : ∀ t : Tag, t.theirs = true → t.mine = false := fun t ht => by cases t <;> simp_all [Tag.mine, Tag.theirs]
theorem Ref.fits {w : World} {τ : Tags} {r : Nat} {D : Doc Int} (h : Ref w τ r D) : Fits τ w := by
  obtain ⟨ly, h⟩ := h
  exact h.fits
theorem Ref.lt {w : World} {τ : Tags} {r : Nat} {D : Doc Int} (h : Ref w τ r D) : r < w.heap.size := by
  obtain ⟨ly, h⟩ := h
  exact (Array.getElem?_eq_some_iff.1 h.hd).1
/-- both have done a call, and answered alike -/
def BothDo (τ : Tags) (w : World) (g r : Nat) (D' : Doc Int) (e : Ending) (w' : World) : Prop := ∃ τ', e = .returned (.bool true) ∧ Pool I.kind w' τ' g D' ∧ Ref w' τ' r D' ∧ Step both τ τ' w w'
set_option maxHeartbeats 8000000 in
theorem does_ref {w : World} {τ : Tags} {g r : Nat} {D : Doc Int} (h : Pool I.kind w τ g D) (hr : Ref w τ r D) (hn : D.rows.length ≤ 1023) (a i m : Int) :
    Calls Try.prog 10 #[.pointer (some ⟨g, 0, none⟩), .pointer (some ⟨r, 0, none⟩), .agg #[.int .i64 a, .int .i64 i, .int .i64 m]] w fun e w' => BothDo τ w g r (opD D a i m) e w' := by
  have hb : Below w.heap.size w (w.alloc (.cells #[.int .i64 a, .int .i64 i, .int .i64 m] 35)) := (Below.refl _ _).alloc (Nat.le_refl _) _
  have H := Lib.hid (h.below hb)
  have HF : Hid (Ref (w.alloc (.cells #[.int .i64 a, .int .i64 i, .int .i64 m] 35)) τ r D) := Lib.hid (hr.below hb)
  have HFi := Lib.hid h.fine
  have HNr := Lib.hid hn
  have HS : Hid (Step both τ τ w (w.alloc (.cells #[.int .i64 a, .int .i64 i, .int .i64 m] 35))) := Lib.hid (Step.below hb)
  have HO : Hid (OpBox (w.alloc (.cells #[.int .i64 a, .int .i64 i, .int .i64 m] 35)) w.heap.size a i m) := Lib.hid (alloc_new _ _)
  have HQ : Hid (τ w.heap.size = none) := Lib.hid (by
    cases e : τ w.heap.size with
    | none => rfl
    | some t => exact absurd (h.fits _ t e) (Nat.lt_irrefl _))
  clear h hr hn hb
  obtain ⟨q, hq⟩ : ∃ q, w.heap.size = q := ⟨_, rfl⟩
  rw [hq] at HO HQ
  have HQq := Lib.hid hq
  clear hq
  go_enter Try.func10, Try.ntmps10
  go_upto_region 1 with fail
  rw [HQq.out]
  refine I.gen_w (Q := fun w => Code.wp _ _ _ _ w) _ (fun W => Pool I.kind W τ g D ∧ Ref W τ r D ∧ Step both τ τ w W ∧ OpBox W q a i m) ⟨H.out, HF.out, HS.out, HO.out⟩ ?_
  clear H HF HS HO
  rintro w1 ⟨k1, k2, k3, k4⟩
  have H := Lib.hid k1
  have HF := Lib.hid k2
  have HS := Lib.hid k3
  have HO := Lib.hid k4
  obtain ⟨q0, q1, q2⟩ := k4.cells
  clear k1 k2 k3 k4
  by_cases a0 : a = 0
  · have e0 : (a == 0) = true := by simpa using a0
    have HD : Hid (opD D a i m = (openD D).2) := Lib.hid (by unfold opD; rw [if_pos a0])
    have HA := Lib.hid (I.openD_any H.out)
    clear a0
    go_wp2_with fail
    refine HA.out.mono ?_
    rintro e w2 ⟨rfl, τ2, k1, k2⟩
    have R2 := Lib.hid (HF.out.step k2 mine_theirs k1.fits)
    have H2 := Lib.hid k1
    have S2 := Lib.hid (HS.out.trans (mine_both k2))
    clear k1 k2 q0 q1 q2
    go_wp2_with fail
    refine (open_ref R2.out HNr.out).mono ?_
    rintro e w3 ⟨rfl, τ3, k1, k2⟩
    have H3 := Lib.hid (H2.out.step k2 theirs_mine k1.fits)
    have R3 := Lib.hid k1
    have S3 := Lib.hid (S2.out.trans (theirs_both k2))
    clear k1 k2
    obtain ⟨o1, ho1⟩ : ∃ o, (openD D).1.1 = o := ⟨_, rfl⟩
    obtain ⟨o2, ho2⟩ : ∃ o, (openD D).1.2 = o := ⟨_, rfl⟩
    rw [ho1, ho2]
    clear ho1 ho2
    have d1 : (o1 == o1) = true := by simp
    have d2 : (o2 == o2) = true := by simp
    go_wp2
    go_ret
    rw [HD.out]
    exact ⟨τ3, rfl, H3.out, R3.out, S3.out⟩
  · have e0 : (a == 0) = false := by simpa using a0
    by_cases a1 : a = 1
    · have e1 : (a == 1) = true := by simpa using a1
      have HD : Hid (opD D a i m = (appendD D i m).2) := Lib.hid (by unfold opD; rw [if_neg a0, if_pos a1])
      have hdr : Below w1.heap.size w1 w1.drew := ⟨rfl, rfl, rfl, Nat.le_refl _, fun _ _ => rfl⟩
      have Hd := Lib.hid (H.out.below hdr)
      have HFd := Lib.hid (HF.out.below hdr)
      have HSd := Lib.hid (HS.out.trans (Step.below (M := both) (τ := τ) hdr))
      have HOd : Hid (OpBox w1.drew q a i m) := Lib.hid HO.out
      clear hdr
      have HA := Lib.hid (I.append_any Hd.out i m)
      obtain ⟨o1, ho1⟩ : ∃ o, (appendD D i m).1 = o := ⟨_, rfl⟩
      rw [ho1] at HA
      have HR := Lib.hid fun (W : World) (τ' : Tags) (hR : Ref W τ' r D) => append_ref hR HFi.out i m
      rw [ho1] at HR
      clear a0 a1 ho1
      go_upto_region 7 with fail
      go_region_held3 (fun W => W.cell? ⟨q, 1, none⟩ = some (.int .i64 i) ∧ W.cell? ⟨q, 2, none⟩ = some (.int .i64 m)) (first | go_keep | exact ⟨HK.out.1, HK.out.2⟩)
        ((first | (go_at_call 14; refine HA.out.mono ?_; rintro e w2 ⟨rfl, τ2, k1, k2⟩; have R2 := Lib.hid (HFd.out.step k2 mine_theirs k1.fits); have H2 := Lib.hid k1; have S2 := Lib.hid (HSd.out.trans (mine_both k2)); have O2 := Lib.hid (HOd.out.step HQ.out k2); have Q2 : Hid (τ2 q = none) := Lib.hid ((k2.tags q (Array.getElem?_eq_some_iff.1 HOd.out).1).trans HQ.out); have HK := Lib.hid O2.out.cells.2; clear k1 k2) | (go_at_call 35; refine (HR.out _ _ R2.out).mono ?_; rintro e w3 ⟨rfl, τ3, k1, k2⟩; have H3 := Lib.hid (H2.out.step k2 theirs_mine k1.fits); have R3 := Lib.hid k1; have S3 := Lib.hid (S2.out.trans (theirs_both k2)); have O3 := Lib.hid (O2.out.step Q2.out k2); have HK := Lib.hid O3.out.cells.2; clear k1 k2)))
      clear q0 q1 q2
      have d1 : (o1 == o1) = true := by simp
      go_wp2
      go_ret
      rw [HD.out]
      exact ⟨τ3, rfl, H3.out, R3.out, S3.out⟩
    · have e1 : (a == 1) = false := by simpa using a1
      by_cases a2 : a = 2
      · have e2 : (a == 2) = true := by simpa using a2
        have HD : Hid (opD D a i m = (shareD D i m).2) := Lib.hid (by unfold opD; rw [if_neg a0, if_neg a1, if_pos a2])
        have HA := Lib.hid (I.shareD_any H.out i m)
        clear a0 a1 a2
        go_wp2_with fail
        refine HA.out.mono ?_
        rintro e w2 ⟨rfl, τ2, k1, k2⟩
        have R2 := Lib.hid (HF.out.step k2 mine_theirs k1.fits)
        have H2 := Lib.hid k1
        have S2 := Lib.hid (HS.out.trans (mine_both k2))
        have O2 := Lib.hid (HO.out.step HQ.out k2)
        clear k1 k2 q0 q1 q2
        obtain ⟨q0, q1, q2⟩ := O2.out.cells
        go_wp2_with fail
        refine (share_ref R2.out HFi.out HNr.out i m).mono ?_
        rintro e w3 ⟨rfl, τ3, k1, k2⟩
        have H3 := Lib.hid (H2.out.step k2 theirs_mine k1.fits)
        have R3 := Lib.hid k1
        have S3 := Lib.hid (S2.out.trans (theirs_both k2))
        clear k1 k2
        obtain ⟨o1, ho1⟩ : ∃ o, (shareD D i m).1.1 = o := ⟨_, rfl⟩
        obtain ⟨o2, ho2⟩ : ∃ o, (shareD D i m).1.2 = o := ⟨_, rfl⟩
        rw [ho1, ho2]
        clear ho1 ho2 q0 q1 q2
        have d1 : (o1 == o1) = true := by simp
        have d2 : (o2 == o2) = true := by simp
        go_wp2
        go_ret
        rw [HD.out]
        exact ⟨τ3, rfl, H3.out, R3.out, S3.out⟩
      · have e2 : (a == 2) = false := by simpa using a2
        by_cases a3 : a = 3
        · have e3 : (a == 3) = true := by simpa using a3
          have HD : Hid (opD D a i m = (closeD D i).2) := Lib.hid (by unfold opD; rw [if_neg a0, if_neg a1, if_neg a2, if_pos a3])
          have hdr : Below w1.heap.size w1 w1.drew := ⟨rfl, rfl, rfl, Nat.le_refl _, fun _ _ => rfl⟩
          have Hd := Lib.hid (H.out.below hdr)
          have HFd := Lib.hid (HF.out.below hdr)
          have HSd := Lib.hid (HS.out.trans (Step.below (M := both) (τ := τ) hdr))
          have HOd : Hid (OpBox w1.drew q a i m) := Lib.hid HO.out
          clear hdr
          have HA := Lib.hid (I.closeD_any Hd.out i)
          obtain ⟨o1, ho1⟩ : ∃ o, (closeD D i).1 = o := ⟨_, rfl⟩
          rw [ho1] at HA
          have HR := Lib.hid fun (W : World) (τ' : Tags) (hR : Ref W τ' r D) => close_ref hR HFi.out.low.1 i
          rw [ho1] at HR
          clear a0 a1 a2 a3 ho1
          go_upto_region 13 with fail
          go_region_held3 (fun W => W.cell? ⟨q, 1, none⟩ = some (.int .i64 i)) (first | go_keep | exact HK.out)
            ((first | (go_at_call 19; refine HA.out.mono ?_; rintro e w2 ⟨rfl, τ2, k1, k2⟩; have R2 := Lib.hid (HFd.out.step k2 mine_theirs k1.fits); have H2 := Lib.hid k1; have S2 := Lib.hid (HSd.out.trans (mine_both k2)); have O2 := Lib.hid (HOd.out.step HQ.out k2); have Q2 : Hid (τ2 q = none) := Lib.hid ((k2.tags q (Array.getElem?_eq_some_iff.1 HOd.out).1).trans HQ.out); have HK := Lib.hid O2.out.cells.2.1; clear k1 k2) | (go_at_call 37; refine (HR.out _ _ R2.out).mono ?_; rintro e w3 ⟨rfl, τ3, k1, k2⟩; have H3 := Lib.hid (H2.out.step k2 theirs_mine k1.fits); have R3 := Lib.hid k1; have S3 := Lib.hid (S2.out.trans (theirs_both k2)); have O3 := Lib.hid (O2.out.step Q2.out k2); have HK := Lib.hid O3.out.cells.2.1; clear k1 k2)))
          clear q0 q1 q2
          have d1 : (o1 == o1) = true := by simp
          go_wp2
          go_ret
          rw [HD.out]
          exact ⟨τ3, rfl, H3.out, R3.out, S3.out⟩
        · have e3 : (a == 3) = false := by simpa using a3
          have HD : Hid (opD D a i m = D) := Lib.hid (by unfold opD; rw [if_neg a0, if_neg a1, if_neg a2, if_neg a3])
          have HA := Lib.hid (I.getD_any H.out i m)
          clear a0 a1 a2 a3
          cases hrow : rowAt D i with
          | none =>
            have hg : I.getD D i m = (0, 14) := by unfold I.getD; rw [hrow]
            rw [hg] at HA
            have HRt := Lib.hid fun (W : World) (hR : Ref W τ r D) => right_ref hR HFi.out.low.1 i
            rw [show rightD D i = false by unfold rightD; rw [hrow]; rfl] at HRt
            clear hrow hg
            go_wp2_with fail
            refine HA.out.mono ?_
            rintro e w2 ⟨rfl, nq, rfl⟩
            have hdr := set_drewN w1 nq
            have H2 := Lib.hid (H.out.below hdr)
            have R2 := Lib.hid (HF.out.below hdr)
            have S2 := Lib.hid (HS.out.trans (Step.below (M := both) (τ := τ) hdr))
            clear hdr
            go_wp2_with fail
            refine (HRt.out _ R2.out).mono ?_
            rintro e w3 ⟨rfl, rfl⟩
            go_wp2
            go_ret
            rw [HD.out]
            exact ⟨τ, rfl, H2.out, R2.out, S2.out⟩
          | some rw0 =>
            obtain ⟨L, P⟩ := rw0
            obtain ⟨k, rfl, hk⟩ := rowAt_yes hrow
            have hg : I.getD D (k : Int) m = if m < 0 ∨ (L.length : Int) ≤ m then (0, 10) else (L.getD m.toNat 0, 0) := by unfold I.getD; rw [hrow]
            have HRt := Lib.hid fun (W : World) (hR : Ref W τ r D) => right_ref hR HFi.out.low.1 (k : Int)
            rw [show rightD D (k : Int) = true by unfold rightD; rw [hrow]; rfl] at HRt
            have HCl : Hid (∀ W, Ref W τ r D → ∃ b N cp sp n cap, L.length = n ∧ k < N ∧ n ≤ 16384 ∧ N ≤ 1023 ∧ W.cell? ⟨r, 0, none⟩ = some (.slice (some ⟨b, 0, none⟩) N cp) ∧ W.cell? ⟨b, k * 3, none⟩ = some (.slice sp n cap) ∧ ∀ (j : Nat) (x : Int), L[j]? = some x → ∃ c, sp = some ⟨c, 0, none⟩ ∧ W.cell? ⟨c, j, none⟩ = some (.int .i64 x)) := Lib.hid (fun W hR => by
              obtain ⟨ly, hA⟩ := hR
              obtain ⟨c0, _, _⟩ := hA.cells
              obtain ⟨sr, cp, hv, _, _, hro⟩ := hA.slice
              obtain ⟨rfl, u0, _, _⟩ := hro k _ hk
              obtain ⟨r1, _, _, _⟩ := hA.row k L P hk
              obtain ⟨sp, cap, hlv, _, _, hat⟩ := r1.slice
              rw [hv] at c0
              simp only [Option.isSome_some, if_true] at u0
              rw [hlv, List.length_map] at u0
              exact ⟨_, _, cp, sp, _, cap, rfl, (List.getElem?_eq_some_iff.1 hk).1, (HFi.out.low.2 k L P hk).2, HNr.out, c0, u0, fun j x hx => by
                obtain ⟨c, e1, _, e2⟩ := hat j (.int .i64 x) (by rw [List.getElem?_map, hx]; rfl)
                exact ⟨c, e1, e2⟩⟩)
            clear hrow hk
            have hdr0 := fun nq => set_drewN w1 nq
            have Hdr := Lib.hid hdr0
            clear hdr0
            have hb0 : (0 : Int) ≤ (k : Int) := by omega
            by_cases hm0 : m < 0
            · rw [if_pos (Or.inl hm0)] at hg
              rw [hg] at HA
              have d0 : decide (m < 0) = true := by simpa using hm0
              clear hg
              go_wp2_with fail
              refine HA.out.mono ?_
              rintro e w2 ⟨rfl, na, rfl⟩
              have H2 := Lib.hid (H.out.below (Hdr.out na))
              have R2 := Lib.hid (HF.out.below (Hdr.out na))
              have S2 := Lib.hid (HS.out.trans (Step.below (M := both) (τ := τ) (Hdr.out na)))
              obtain ⟨b, N, cp, sp, n, cap, hn, hkN, hn1, hN1, c0, u0, hat⟩ := HCl.out _ HF.out
              have b2 : (k : Int) < (N : Int) := by omega
              clear hat hn hm0
              go_wp2_with fail
              refine (HRt.out _ R2.out).mono ?_
              rintro e w3 ⟨rfl, rfl⟩
              go_upto_region 17 with fail
              go_quiet (fail)
              go_wp2
              go_ret
              have hz := set_drewN w1 (na + nq)
              rw [HD.out]
              exact ⟨τ, rfl, H.out.below hz, HF.out.below hz, HS.out.trans (Step.below hz)⟩
            · by_cases hm1 : (L.length : Int) ≤ m
              · rw [if_pos (Or.inr hm1)] at hg
                rw [hg] at HA
                have d0 : decide (m < 0) = false := by simpa using hm0
                obtain ⟨j, hj⟩ : ∃ j : Nat, m = (j : Int) := ⟨m.toNat, by omega⟩
                subst hj
                clear hg
                go_wp2_with fail
                refine HA.out.mono ?_
                rintro e w2 ⟨rfl, na, rfl⟩
                have H2 := Lib.hid (H.out.below (Hdr.out na))
                have R2 := Lib.hid (HF.out.below (Hdr.out na))
                have S2 := Lib.hid (HS.out.trans (Step.below (M := both) (τ := τ) (Hdr.out na)))
                obtain ⟨b, N, cp, sp, n, cap, hn, hkN, hn1, hN1, c0, u0, hat⟩ := HCl.out _ HF.out
                have b2 : (k : Int) < (N : Int) := by omega
                rw [hn] at hm1
                have f1 : decide (n ≤ j) = true := by simp; omega
                have f2 : decide ((n : Int) ≤ (j : Int)) = true := by simp; omega
                clear hm0 hm1 hat hn
                go_wp2_with fail
                refine (HRt.out _ R2.out).mono ?_
                rintro e w3 ⟨rfl, rfl⟩
                go_upto_region 17 with fail
                go_quiet (fail)
                go_wp2
                go_ret
                have hz := set_drewN w1 (na + nq)
                rw [HD.out]
                exact ⟨τ, rfl, H.out.below hz, HF.out.below hz, HS.out.trans (Step.below hz)⟩
              · rw [if_neg (fun h => h.elim hm0 hm1)] at hg
                obtain ⟨j, hj⟩ : ∃ j : Nat, m = (j : Int) := ⟨m.toNat, by omega⟩
                subst hj
                have hjl : j < L.length := by omega
                obtain ⟨x, hx⟩ : ∃ x, L[j]? = some x := ⟨_, List.getElem?_eq_getElem hjl⟩
                have hx2 : L.getD (j : Int).toNat 0 = x := by rw [show ((j : Int)).toNat = j from rfl, List.getD_eq_getElem?_getD, hx]; rfl
                rw [hx2] at hg
                rw [hg] at HA
                have d0 : decide ((j : Int) < 0) = false := by simp
                clear hg hx2
                go_wp2_with fail
                refine HA.out.mono ?_
                rintro e w2 ⟨rfl, na, rfl⟩
                have H2 := Lib.hid (H.out.below (Hdr.out na))
                have R2 := Lib.hid (HF.out.below (Hdr.out na))
                have S2 := Lib.hid (HS.out.trans (Step.below (M := both) (τ := τ) (Hdr.out na)))
                obtain ⟨b, N, cp, sp, n, cap, hn, hkN, hn1, hN1, c0, u0, hat⟩ := HCl.out _ HF.out
                have b2 : (k : Int) < (N : Int) := by omega
                rw [hn] at hjl
                obtain ⟨c, rfl, hcx⟩ := hat j x hx
                have f1 : decide (n ≤ j) = false := by simp; omega
                have f2 : decide ((n : Int) ≤ (j : Int)) = false := by simp; omega
                have f3 : (j : Int) < (n : Int) := by omega
                have f4 : (0 : Int) ≤ (j : Int) := by omega
                have f5 : (x == x) = true := by simp
                clear hm0 hm1 hat hx hn
                go_wp2_with fail
                refine (HRt.out _ R2.out).mono ?_
                rintro e w3 ⟨rfl, rfl⟩
                go_upto_region 17 with fail
                go_quiet (fail)
                go_wp2
                go_ret
                have hz := set_drewN w1 (na + nq)
                rw [HD.out]
                exact ⟨τ, rfl, H.out.below hz, HF.out.below hz, HS.out.trans (Step.below hz)⟩
end Go.Proofs.Ytcfhchdkohjbfaa.Kv
