import Derived.Test.YtchjijifmjbgoaaDoorGc
namespace Go.Proofs.YtchjijifmjbgoaaDoor.Tn
open Go.ChangeShapes Go.WideShapes Go.ChangeAt Go.RowKit Go.Proofs.YtchjijifmjbgoaaDoor.Fx Go.Proofs.YtchjijifmjbgoaaDoor.Rf

theorem mul_rc {r c : Int} (hr : 1 ≤ r ∧ r ≤ 512) (hc : 1 ≤ c ∧ c ≤ 64) : 1 ≤ r * c ∧ r * c ≤ 32768 := by
  have h1 : r * c ≤ 512 * 64 := Int.mul_le_mul hr.2 hc.2 (by omega) (by omega)
  have h2 : 1 * 1 ≤ r * c := Int.mul_le_mul hr.1 hc.1 (by omega) (by omega)
  omega
set_option maxRecDepth 100000 in
set_option maxHeartbeats 4000000 in
theorem rmatrix_any (w : World) (r c : Int) (sp : Option Addr) (cap N : Nat) (l : List Int) (hN : l.length = N) (hl : Nums w sp cap l) :
    Calls Tryd.prog 13 #[.int .i64 r, .int .i64 c, .slice sp N cap] w fun e w' => e = .returned (.int .i64 (chkM r c l)) ∧ w = w' := by
  have hNm : N ≤ 9223372036854775807 := by rw [← hN]; exact hl.len
  have HL := Lib.hid hl
  have HN := Lib.hid hN
  unfold chkM
  rw [hN]
  by_cases hs : sizeM r c N
  · rw [if_neg (fun h => h hs)]
    obtain ⟨r1, r2, c1, c2, hm⟩ := hs
    have hrc := mul_rc ⟨r1, r2⟩ ⟨c1, c2⟩
    have e1 : decide (r < 1) = false := by simp; omega
    have e2 : decide (512 < r) = false := by simp; omega
    have e3 : decide (c < 1) = false := by simp; omega
    have e4 : decide (64 < c) = false := by simp; omega
    have e5 : ((N : Int) != r * c) = false := by simp [hm]
    obtain ⟨hrc1, hrc2⟩ := hrc
    have hN3 : (N : Int) ≤ 32768 := by omega
    by_cases ha : ∀ x ∈ l, isW x
    · rw [if_pos ha]
      have HA := Lib.hid (fun i hi => in_of (p := isW) ha i hi)
      clear hl hN ha hm
      go_enter Tryd.func13, Tryd.ntmps13
      go_wp2
      go_loop [7] (fun i => ∃ k : Nat, k ≤ N ∧ i = .int .i64 k) (fun i => N - (intOf i).toNat)
      case atStart => exact ⟨0, by omega, rfl⟩
      case round =>
        obtain ⟨k, hk, rfl⟩ := hrel
        by_cases hlt : k < N
        · have hdt : decide (k < N) = true := by simp; omega
          obtain ⟨g, o, rfl, hc⟩ := HL.out.at_ k (by rw [HN.out]; exact hlt)
          have HI := Lib.hid (wB_yes (HA.out k (by rw [HN.out]; exact hlt)))
          obtain ⟨x, hx⟩ : ∃ x, l.getD k 0 = x := ⟨_, rfl⟩
          rw [hx] at hc HI
          clear hx
          go_wp2_with fail
          refine (weight_any _ x).mono ?_
          rintro e w' ⟨rfl, rfl⟩
          rw [HI.out]
          go_wp2
          go_round
          case rel => exact ⟨k + 1, by omega, by go_num⟩
          case measure => simp [intOf]; omega
        · have hdf : decide (k < N) = false := by simp; omega
          go_wp2
          go_ret
          exact ⟨rfl, rfl⟩
    · rw [if_neg ha]
      obtain ⟨j, hj, hb, hg⟩ := not_in (p := isW) ha
      rw [hN] at hj
      have HB := Lib.hid hb
      have HG := Lib.hid hg
      clear hl hN ha hb hg hm
      go_enter Tryd.func13, Tryd.ntmps13
      go_wp2
      go_loop [7] (fun i => ∃ k : Nat, k ≤ j ∧ i = .int .i64 k) (fun i => N - (intOf i).toNat)
      case atStart => exact ⟨0, by omega, rfl⟩
      case round =>
        obtain ⟨k, hk, rfl⟩ := hrel
        have hlt : k < N := by omega
        have hdt : decide (k < N) = true := by simp; omega
        obtain ⟨g, o, rfl, hc⟩ := HL.out.at_ k (by rw [HN.out]; exact hlt)
        by_cases hkj : k = j
        · subst hkj
          have HI := Lib.hid (wB_no HB.out)
          obtain ⟨x, hx⟩ : ∃ x, l.getD k 0 = x := ⟨_, rfl⟩
          rw [hx] at hc HI
          clear hx
          go_wp2_with fail
          refine (weight_any _ x).mono ?_
          rintro e w' ⟨rfl, rfl⟩
          rw [HI.out]
          go_wp2
          go_ret
          exact ⟨rfl, rfl⟩
        · have hk2 : k < j := by omega
          have HI := Lib.hid (wB_yes (HG.out k hk2))
          obtain ⟨x, hx⟩ : ∃ x, l.getD k 0 = x := ⟨_, rfl⟩
          rw [hx] at hc HI
          clear hx hkj
          go_wp2_with fail
          refine (weight_any _ x).mono ?_
          rintro e w' ⟨rfl, rfl⟩
          rw [HI.out]
          go_wp2
          go_round
          case rel => exact ⟨k + 1, by omega, by go_num⟩
          case measure => simp [intOf]; omega
  · rw [if_pos hs]
    have HS := Lib.hid hs
    clear hl hN hs
    by_cases k1 : r < 1
    · have e1 : decide (r < 1) = true := by simp; omega
      go_enter Tryd.func13, Tryd.ntmps13
      go_wp2
      go_ret
      exact ⟨rfl, rfl⟩
    have e1 : decide (r < 1) = false := by simp; omega
    by_cases k2 : 512 < r
    · have e2 : decide (512 < r) = true := by simp; omega
      go_enter Tryd.func13, Tryd.ntmps13
      go_wp2
      go_ret
      exact ⟨rfl, rfl⟩
    have e2 : decide (512 < r) = false := by simp; omega
    by_cases k3 : c < 1
    · have e3 : decide (c < 1) = true := by simp; omega
      go_enter Tryd.func13, Tryd.ntmps13
      go_wp2
      go_ret
      exact ⟨rfl, rfl⟩
    have e3 : decide (c < 1) = false := by simp; omega
    by_cases k4 : 64 < c
    · have e4 : decide (64 < c) = true := by simp; omega
      go_enter Tryd.func13, Tryd.ntmps13
      go_wp2
      go_ret
      exact ⟨rfl, rfl⟩
    have e4 : decide (64 < c) = false := by simp; omega
    obtain ⟨hrc1, hrc2⟩ := mul_rc (r := r) (c := c) (by omega) (by omega)
    have e5 : ((N : Int) != r * c) = true := by
      simp only [bne_iff_ne, ne_eq]
      exact fun h => HS.out ⟨by omega, by omega, by omega, by omega, h⟩
    go_enter Tryd.func13, Tryd.ntmps13
    go_wp2
    go_ret
    exact ⟨rfl, rfl⟩
set_option maxRecDepth 100000 in
set_option maxHeartbeats 4000000 in
theorem ints_same (w : World) (sp sq : Option Addr) (cap caq N : Nat) (l : List Int) (hN : l.length = N) (hl : Nums w sp cap l) (hm : Nums w sq caq l) :
    Calls Tryd.prog 18 #[.slice sp N cap, .slice sq N caq] w fun e w' => e = .returned (.bool true) ∧ Below w.heap.size w w' := by
  have hNm : N ≤ 9223372036854775807 := by rw [← hN]; exact hl.len
  have HL := Lib.hid hl
  have HM := Lib.hid hm
  have HN := Lib.hid hN
  clear hl hm hN
  go_enter Tryd.func18, Tryd.ntmps18
  go_wp2
  go_loopw [5] (fun i wr => ∃ k m : Nat, k ≤ N ∧ i = .int .i64 k ∧ wr = w.drewN m) (fun i _ => N - (intOf i).toNat)
  case atStart => exact ⟨0, 0, by omega, rfl, rfl⟩
  case round =>
    obtain ⟨k, m, hk, rfl, rfl⟩ := hrel
    by_cases hlt : k < N
    · have hdt : decide (k < N) = true := by simp; omega
      obtain ⟨g, o, rfl, hc⟩ := HL.out.at_ k (by rw [HN.out]; exact hlt)
      obtain ⟨g2, o2, rfl, hc2⟩ := HM.out.at_ k (by rw [HN.out]; exact hlt)
      obtain ⟨x, hx⟩ : ∃ x, l.getD k 0 = x := ⟨_, rfl⟩
      rw [hx] at hc hc2
      have hxx : (x != x) = false := by simp
      clear hx
      go_wp2
      go_quiet (fail)
      go_wp2
      go_roundw
      case rel => exact ⟨k + 1, _, by omega, by go_num, rfl⟩
      case measure => simp [intOf]; omega
    · have hdf : decide (k < N) = false := by simp; omega
      go_wp2
      go_ret
      exact ⟨rfl, below_drewN (Below.refl _ _) _⟩
theorem first_not {P : Nat → Prop} [DecidablePred P] : ∀ (N : Nat), (¬ ∀ i, i < N → P i) → ∃ j, j < N ∧ ¬ P j ∧ ∀ i, i < j → P i
  | 0, h => absurd (fun i hi => absurd hi (by omega)) h
  | N + 1, h => by
    by_cases h1 : ∀ i, i < N → P i
    · refine ⟨N, by omega, fun hp => h fun i hi => ?_, h1⟩
      by_cases e : i = N
      · rw [e]; exact hp
      · exact h1 i (by omega)
    · obtain ⟨j, a, b, c⟩ := first_not N h1
      exact ⟨j, by omega, b, c⟩
theorem of_get {p : Int → Prop} {l : List Int} (h : ∀ i, i < l.length → p (l.getD i 0)) : ∀ x ∈ l, p x := fun x hx => by
  obtain ⟨i, hi, rfl⟩ := List.mem_iff_getElem.1 hx
  have := h i hi
  rwa [List.getD_eq_getElem?_getD, List.getElem?_eq_getElem hi] at this
/-- how a row times a vector stands -/
def DotAt (w : World) (row v : List Int) (N : Nat) (s i : Value) (wr : World) : Prop := ∃ k m : Nat, k ≤ N ∧ i = .int .i64 k ∧ s = .int .i64 (dotS (row.take k) (v.take k)) ∧ wr = w.drewN m
def DotBad (w : World) (j : Nat) (s i : Value) (wr : World) : Prop := ∃ (k m : Nat) (x : Int), k ≤ j ∧ i = .int .i64 k ∧ s = .int .i64 x ∧ wr = w.drewN m
set_option maxRecDepth 100000 in
set_option maxHeartbeats 4000000 in
theorem rdot_any (w : World) (sp sq : Option Addr) (cap caq N M : Nat) (row v : List Int) (hN : row.length = N) (hM : v.length = M) (hr : Nums w sp cap row) (hv : Nums w sq caq v) :
    Calls Tryd.prog 20 #[.slice sp N cap, .slice sq M caq] w fun e w' => e = .returned (.tuple #[.int .i64 (dotR row v), .int .i64 (dotE row v)]) ∧ Below w.heap.size w w' := by
  have hNm : N ≤ 9223372036854775807 := by rw [← hN]; exact hr.len
  have hMm : M ≤ 9223372036854775807 := by rw [← hM]; exact hv.len
  have HR := Lib.hid hr
  have HV := Lib.hid hv
  have HN := Lib.hid hN
  have HM := Lib.hid hM
  by_cases ho : dotOk row v
  · obtain ⟨o1, o2, o3⟩ := ho
    obtain rfl : N = M := by omega
    have e2 : decide ((N : Int) < 1) = false := by simp; omega
    have e3 : decide ((64 : Int) < (N : Int)) = false := by simp; omega
    have hN64 : N ≤ 64 := by omega
    by_cases hi : dotIn row v
    · have HX : Hid (dotR row v = orNil (rnd (dotS row v)) ∧ dotE row v = over (rnd (dotS row v))) := Lib.hid (by
        unfold dotR dotE
        rw [if_pos ⟨⟨o1, o2, o3⟩, hi⟩, if_neg (fun h => h ⟨o1, o2, o3⟩), if_pos hi]
        exact ⟨rfl, rfl⟩)
      rw [HX.out.1, HX.out.2]
      have HI := Lib.hid hi
      clear hr hv hN hM o1 o2 o3 hi HX
      go_enter Tryd.func20, Tryd.ntmps20
      go_wp2
      go_loopw [6, 7] (fun s i wr => DotAt w row v N s i wr) (fun _ i _ => N - (intOf i).toNat)
      case atStart => exact ⟨0, 0, by omega, rfl, rfl, rfl⟩
      case round =>
        obtain ⟨k, m, hk, rfl, rfl, rfl⟩ := hrel
        have hs := dot_small HI.out k (by omega)
        by_cases hlt : k < N
        · have hdt : decide (k < N) = true := by simp; omega
          obtain ⟨g, o, rfl, hc⟩ := HR.out.at_ k (by rw [HN.out]; exact hlt)
          obtain ⟨g2, q, rfl, hc2⟩ := HV.out.at_ k (by rw [HM.out]; exact hlt)
          have hs2 := dot_small HI.out (k + 1) (by omega)
          have hst := dotS_take row v k (by rw [HN.out]; exact hlt) (by rw [HM.out]; exact hlt)
          have i1 := in_of HI.out.1 k (by rw [HN.out]; exact hlt)
          have i2 := in_of HI.out.2 k (by rw [HM.out]; exact hlt)
          rw [hst] at hs2
          have HST := Lib.hid hst
          obtain ⟨x, hx⟩ : ∃ x, row.getD k 0 = x := ⟨_, rfl⟩
          obtain ⟨y, hy⟩ : ∃ x, v.getD k 0 = x := ⟨_, rfl⟩
          obtain ⟨S, hS⟩ : ∃ S, dotS (row.take k) (v.take k) = S := ⟨_, rfl⟩
          rw [hx] at hc i1 hs2 HST
          rw [hy] at hc2 i2 hs2 HST
          rw [hS] at hs hs2 HST ⊢
          have h1 := wB_yes i1
          have h2 := isB_yes i2
          have H1 := Lib.hid h1
          have H2 := Lib.hid h2
          have hxy := mul_small (a := x) (b := y) (A := 16777216) (B := 2147483648) i1 (by unfold isN at i2; omega)
          obtain ⟨a1, a2⟩ := hs
          obtain ⟨b1, b2⟩ := hs2
          obtain ⟨c1, c2⟩ := hxy
          clear hx hy hS hst h1 h2 i1 i2
          go_wp2_with fail
          refine (weight_any _ x).mono ?_
          rintro e w' ⟨rfl, rfl⟩
          rw [H1.out]
          go_wp2_with fail
          refine (is_any _ y).mono ?_
          rintro e w' ⟨rfl, rfl⟩
          rw [H2.out]
          go_wp2
          have hw1 : IntKind.i64.wrap (x * y) = x * y := IntWalk.i64_in _ (by omega)
          have hw2 : IntKind.i64.wrap (S + x * y) = S + x * y := IntWalk.i64_in _ (by omega)
          go_quiet (fail)
          go_wp2
          go_roundw
          case rel => exact ⟨k + 1, _, by omega, by go_num, by rw [HST.out], rfl⟩
          case measure => simp [intOf]; omega
        · obtain rfl : k = N := by omega
          have hdf : decide (k < k) = false := by simp
          have HT : Hid (dotS (row.take k) (v.take k) = dotS row v) := Lib.hid (by rw [List.take_of_length_le (by rw [HN.out]; omega), List.take_of_length_le (by rw [HM.out]; omega)])
          rw [HT.out] at hs ⊢
          obtain ⟨S, hS⟩ : ∃ S, dotS row v = S := ⟨_, rfl⟩
          rw [hS] at hs ⊢
          have HS := Lib.hid hS
          obtain ⟨a1, a2⟩ := hs
          clear hS
          go_wp2_with fail
          refine (round_any _ S (by omega) (by omega)).mono ?_
          rintro e w' ⟨rfl, rfl⟩
          go_wp2_with fail
          refine (told_any _ (rnd S)).mono ?_
          rintro e w' ⟨rfl, rfl⟩
          go_wp2
          go_ret2
          exact ⟨by rw [HS.out]; rfl, below_drewN (Below.refl _ _) _⟩
    · have HX : Hid (dotR row v = 0 ∧ dotE row v = 10) := Lib.hid (by
        unfold dotR dotE
        rw [if_neg (fun h => hi h.2), if_neg (fun h => h ⟨o1, o2, o3⟩), if_neg hi]
        exact ⟨rfl, rfl⟩)
      rw [HX.out.1, HX.out.2]
      obtain ⟨j, hj, hb, hg⟩ := first_not (P := fun i => isW (row.getD i 0) ∧ isN (v.getD i 0)) N (fun h => hi ⟨of_get fun i hi => (h i (by omega)).1, of_get fun i hi => (h i (by omega)).2⟩)
      have HB := Lib.hid hb
      have HG := Lib.hid hg
      clear hr hv hN hM o1 o2 o3 hi HX hb hg
      go_enter Tryd.func20, Tryd.ntmps20
      go_wp2
      go_loopw [6, 7] (fun s i wr => DotBad w j s i wr) (fun _ i _ => N - (intOf i).toNat)
      case atStart => exact ⟨0, 0, 0, by omega, rfl, rfl, rfl⟩
      case round =>
        obtain ⟨k, m, S, hk, rfl, rfl, rfl⟩ := hrel
        have hlt : k < N := by omega
        have hdt : decide (k < N) = true := by simp; omega
        obtain ⟨g, o, rfl, hc⟩ := HR.out.at_ k (by rw [HN.out]; exact hlt)
        obtain ⟨g2, q, rfl, hc2⟩ := HV.out.at_ k (by rw [HM.out]; exact hlt)
        by_cases hkj : k = j
        · subst hkj
          have hbb := HB.out
          obtain ⟨x, hx⟩ : ∃ x, row.getD k 0 = x := ⟨_, rfl⟩
          obtain ⟨y, hy⟩ : ∃ x, v.getD k 0 = x := ⟨_, rfl⟩
          rw [hx] at hc hbb
          rw [hy] at hc2 hbb
          clear hx hy
          by_cases h1 : isW x
          · have H1 := Lib.hid (wB_yes h1)
            have H2 := Lib.hid (isB_no (n := y) (fun h2 => hbb ⟨h1, h2⟩))
            clear hbb h1
            go_wp2_with fail
            refine (weight_any _ x).mono ?_
            rintro e w' ⟨rfl, rfl⟩
            rw [H1.out]
            go_wp2_with fail
            refine (is_any _ y).mono ?_
            rintro e w' ⟨rfl, rfl⟩
            rw [H2.out]
            go_wp2
            go_ret2
            exact ⟨rfl, below_drewN (Below.refl _ _) _⟩
          · have H1 := Lib.hid (wB_no h1)
            clear hbb h1
            go_wp2_with fail
            refine (weight_any _ x).mono ?_
            rintro e w' ⟨rfl, rfl⟩
            rw [H1.out]
            go_wp2
            go_ret2
            exact ⟨rfl, below_drewN (Below.refl _ _) _⟩
        · have hk2 : k < j := by omega
          have hgk := HG.out k hk2
          have H1 := Lib.hid (wB_yes hgk.1)
          have H2 := Lib.hid (isB_yes hgk.2)
          obtain ⟨x, hx⟩ : ∃ x, row.getD k 0 = x := ⟨_, rfl⟩
          obtain ⟨y, hy⟩ : ∃ x, v.getD k 0 = x := ⟨_, rfl⟩
          rw [hx] at hc H1
          rw [hy] at hc2 H2
          clear hx hy hgk hkj
          go_wp2_with fail
          refine (weight_any _ x).mono ?_
          rintro e w' ⟨rfl, rfl⟩
          rw [H1.out]
          go_wp2_with fail
          refine (is_any _ y).mono ?_
          rintro e w' ⟨rfl, rfl⟩
          rw [H2.out]
          go_wp2
          go_quiet (fail)
          go_wp2
          go_roundw
          case rel => exact ⟨k + 1, _, _, by omega, by go_num, rfl, rfl⟩
          case measure => simp [intOf]; omega
  · have HX : Hid (dotR row v = 0 ∧ dotE row v = 13) := Lib.hid (by
      unfold dotR dotE
      rw [if_neg (fun h => ho h.1), if_pos ho]
      exact ⟨rfl, rfl⟩)
    rw [HX.out.1, HX.out.2]
    unfold dotOk at ho
    rw [hN, hM] at ho
    have HO := Lib.hid ho
    clear hr hv hN hM ho HX
    by_cases k1 : N = M
    · subst k1
      by_cases k2 : N < 1
      · have e2 : decide ((N : Int) < 1) = true := by simp; omega
        go_enter Tryd.func20, Tryd.ntmps20
        go_wp2
        go_ret2
        exact ⟨rfl, Below.refl _ _⟩
      · have e2 : decide ((N : Int) < 1) = false := by simp; omega
        have e3 : decide ((64 : Int) < (N : Int)) = true := by have := HO.out; simp; omega
        go_enter Tryd.func20, Tryd.ntmps20
        go_wp2
        go_ret2
        exact ⟨rfl, Below.refl _ _⟩
    · have e1 : (N != M) = true := by simpa using k1
      have e1' : ((N : Int) != (M : Int)) = true := by simp; omega
      clear k1
      go_enter Tryd.func20, Tryd.ntmps20
      go_wp2
      go_ret2
      exact ⟨rfl, Below.refl _ _⟩
end Go.Proofs.YtchjijifmjbgoaaDoor.Tn
