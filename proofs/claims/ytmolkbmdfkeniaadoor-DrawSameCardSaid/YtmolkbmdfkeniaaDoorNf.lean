import Derived.Test.YtmolkbmdfkeniaaDoorNe
namespace Go.Proofs.YtmolkbmdfkeniaaDoor.Dr
set_option maxRecDepth 100000
open Go.ChangeShapes Go.WideShapes Go.ChangeAt Go.RowKit Go.Proofs.YtmolkbmdfkeniaaDoor.Tn

theorem two_snd (x e : Int) : two x e = .tuple #[.int .i64 x, .int .i64 e] := rfl
set_option maxHeartbeats 4000000 in
theorem below_any (w : World) (g : Nat) (s : List Int) (c n : Int) (he : E8 w) (h : St8 w g s c) (n1 : -9223372036854775808 ≤ n) (n2 : n ≤ 9223372036854775807) :
    Calls Tryd.prog 29 #[ptV g, .int .i64 n] w (BelowA w g s c (belowD (numV s) c n)) := by
  have HS := Lib.hid h
  have HE := Lib.hid he
  unfold ptV
  by_cases hn : n < 1
  · have hD : belowD (numV s) c n = (0, 0, 10) := by unfold belowD; rw [if_pos hn]
    rw [hD]
    have d1 : decide (n < 1) = true := by simpa using hn
    clear h he hD
    go_enter Tryd.func29, Tryd.ntmps29
    go_wp2
    go_step3
    go_wp2
    go_ret2
    exact ⟨rfl, c, HS.out, fun h => by simp at h, grown_of (Below.refl _ _)⟩
  · have hD : belowD (numV s) c n = belowT (numV s) c n 64 0 := by unfold belowD; rw [if_neg hn]
    rw [hD]
    have d1 : decide (n < 1) = false := by simpa using hn
    have hn1 : 1 ≤ n := by omega
    have HM := Lib.hid (fun W => lastM_any W n hn1 n2)
    obtain ⟨R, hR⟩ : ∃ R, belowT (numV s) c n 64 0 = R := ⟨_, rfl⟩
    rw [hR]
    have HR : Hid (belowT (numV s) c n (64 - 0) 0 = R) := Lib.hid hR
    have hEn : 0 ≤ endM n ∧ endM n ≤ 9223372036854775808 := by
      unfold endM
      have h3 := Int.emod_nonneg 9223372036854775808 (show n ≠ 0 by omega)
      have h4 := Int.emod_lt_of_pos 9223372036854775808 (show 0 < n by omega)
      have h6 : 0 ≤ n * (9223372036854775808 / n) := Int.mul_nonneg (by omega) (Int.ediv_nonneg (by omega) (by omega))
      have h7 := Int.mul_ediv_add_emod 9223372036854775808 n
      omega
    have HEo := Lib.hid (fun x => endM_ok (x := x) hn1)
    obtain ⟨E, hE⟩ : ∃ E, endM n = E := ⟨_, rfl⟩
    rw [hE] at HM hEn HEo
    have hnz : (n == 0) = false := by simp; omega
    clear h he hD hR hE hn
    go_enter Tryd.func29, Tryd.ntmps29
    go_wp2_with fail
    go_step3
    go_wp2_with fail
    refine (HM.out _).mono ?_
    rintro e w' ⟨rfl, rfl⟩
    go_wp2
    go_step3
    go_wp2
    go_loopw [7, 8, 15] (fun l e i wr => ∃ k : Nat, k ≤ 64 ∧ l = .int .i64 0 ∧ e = .int .i64 14 ∧ i = .int .i64 k ∧ St8 wr g s (c + k) ∧ w.grownBy wr (some g) ∧ belowT (numV s) c n (64 - k) k = R) (fun _ _ i _ => 64 - (intOf i).toNat)
    case atStart => exact ⟨0, by omega, rfl, rfl, rfl, by simpa using HS.out, grown_of (Below.refl _ _), HR.out⟩
    case round =>
      clear HR
      obtain ⟨k, hk, rfl, rfl, rfl, hS, hG, hR⟩ := hrel
      have HSk := Lib.hid hS
      have HGk := Lib.hid hG
      have HRk := Lib.hid hR
      have HEk := Lib.hid (HE.out.grown hG hS.far)
      clear hS hG hR
      by_cases hlt : k < 64
      · have hdt : decide ((k : Int) < 64) = true := by simp; omega
        have HNx := Lib.hid (dnext_any wr g s (c + k) HEk.out HSk.out)
        have HGo := Lib.hid ((belowT_go (numV s) c n k hlt).symm.trans HRk.out)
        clear HRk
        have HCk := Lib.hid HSk.out.rng
        obtain ⟨ck, hck⟩ : ∃ ck, c + (k : Int) = ck := ⟨_, rfl⟩
        have HCe := Lib.hid hck
        rw [hck] at HNx HGo HCk HSk
        clear hck
        by_cases hm : ck = mostC
        · have HN2 := HNx.out
          rw [if_pos hm, if_pos hm, if_pos hm] at HN2
          have hRv := HGo.out
          rw [if_pos (by omega)] at hRv
          subst hRv
          have HN3 := Lib.hid HN2
          clear HNx HGo HN2
          go_wp2_with fail
          refine HN3.out.mono ?_
          rintro e w3 ⟨rfl, hs3, hg3⟩
          have HS3 := Lib.hid hs3
          have HG3 := Lib.hid (grown_trans HGk.out hg3)
          clear hs3 hg3
          unfold two
          go_wp2
          (try rw [Exit.noGoto_ret])
          go_ret2
          exact ⟨rfl, _, HS3.out, fun h => by simp at h, HG3.out⟩
        · have HN2 := HNx.out
          rw [if_neg hm, if_neg hm, if_neg hm] at HN2
          have hRv := HGo.out
          have hcm := HCk.out.2
          rw [if_neg (by omega)] at hRv
          have HXi := Lib.hid (numV_in s ck)
          have HNum : Hid (numV s ck = numV s ck) := Lib.hid rfl
          obtain ⟨x, hx⟩ : ∃ x, numV s ck = x := ⟨_, rfl⟩
          rw [hx] at HN2 hRv HXi
          have HN3 := Lib.hid HN2
          have HR3 := Lib.hid hRv
          obtain ⟨x1, x2⟩ := HXi.out
          have hux : IntKind.u64.wrap x = x := by
            have : x % 18446744073709551616 = x := by omega
            simpa [IntKind.wrap, IntKind.bits, IntKind.signed] using this
          clear HNx HGo HN2 hRv hx HNum
          by_cases hb : x < E
          · have d2 : decide (x < E) = true := by simpa using hb
            have hRv := HR3.out
            rw [if_pos ((HEo.out x).1 hb)] at hRv
            subst hRv
            have htm : x.tmod n = x % n := Int.tmod_eq_emod_of_nonneg x1
            have hr0 := Int.emod_nonneg x (show n ≠ 0 by omega)
            have hr1 := Int.emod_lt_of_pos x (show 0 < n by omega)
            obtain ⟨r, hr⟩ : ∃ r, x % n = r := ⟨_, rfl⟩
            rw [hr] at htm hr0 hr1
            have HRr := Lib.hid hr
            have hwr : IntKind.i64.wrap r = r := IntWalk.i64_in _ (by omega)
            clear hr HR3 hb
            go_wp2_with fail
            refine HN3.out.mono ?_
            rintro e w3 ⟨rfl, hs3, hg3⟩
            have HS3 := Lib.hid hs3
            have HG3 := Lib.hid (grown_trans HGk.out hg3)
            clear hs3 hg3
            unfold two
            go_wp2
            (try rw [Exit.noGoto_ret])
            go_ret2
            exact ⟨(show _ = Ending.returned (two (x % n) 0) from (by rw [HRr.out]; rfl)), _, HS3.out, fun _ => by have := HCe.out; simp; omega, HG3.out⟩
          · have d2 : decide (x < E) = false := by simpa using hb
            have hRv := HR3.out
            rw [if_neg (fun h => hb ((HEo.out x).2 h))] at hRv
            have HRn := Lib.hid hRv
            clear HR3 hb hRv
            go_wp2_with fail
            refine HN3.out.mono ?_
            rintro e w3 ⟨rfl, hs3, hg3⟩
            have HS3 := Lib.hid hs3
            have HG3 := Lib.hid (grown_trans HGk.out hg3)
            clear hs3 hg3
            unfold two
            go_wp2
            go_roundw
            case rel => exact ⟨k + 1, by omega, rfl, rfl, by go_num, by rw [show c + ((k + 1 : Nat) : Int) = ck + 1 by have := HCe.out; omega]; exact HS3.out, HG3.out, HRn.out⟩
            case measure => simp [intOf]; omega
      · obtain rfl : k = 64 := by omega
        have hdt : decide (((64 : Nat) : Int) < 64) = false := by decide
        have hRv := HRk.out
        rw [show 64 - 64 = 0 from rfl, belowT] at hRv
        subst hRv
        clear hlt hk HRk
        go_wp2
        (try rw [Exit.noGoto_ret])
        go_ret2
        exact ⟨rfl, _, HSk.out, fun h => by simp at h, HGk.out⟩
end Go.Proofs.YtmolkbmdfkeniaaDoor.Dr
