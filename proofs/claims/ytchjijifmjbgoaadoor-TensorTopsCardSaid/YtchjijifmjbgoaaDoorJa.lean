import Derived.Test.YtchjijifmjbgoaaDoorFq
import Derived.Test.YtchjijifmjbgoaaDoorGv
namespace Go.Proofs.YtchjijifmjbgoaaDoor.Tn
open Go.ChangeShapes Go.WideShapes Go.ChangeAt Go.RowKit Go.Proofs.YtchjijifmjbgoaaDoor.Fx Go.Proofs.YtchjijifmjbgoaaDoor.Rf

/-! ### the landed code: what is checked -/
def cnt (n m : Int) : Bool := decide (1 ≤ n ∧ n ≤ m)
theorem cnt_yes {n m : Int} (h : 1 ≤ n ∧ n ≤ m) : cnt n m = true := by unfold cnt; simpa using h
theorem cnt_no {n m : Int} (h : ¬ (1 ≤ n ∧ n ≤ m)) : cnt n m = false := by unfold cnt; simpa using h
set_option maxRecDepth 100000 in
set_option maxHeartbeats 4000000 in
theorem count_any (w : World) (n m : Int) : Calls Tryd.prog 36 #[.int .i64 n, .int .i64 m] w fun e w' => e = .returned (.bool (cnt n m)) ∧ w = w' := by
  by_cases h1 : 1 ≤ n
  · have d1 : decide (1 ≤ n) = true := by simpa using h1
    by_cases h2 : n ≤ m
    · rw [cnt_yes ⟨h1, h2⟩]
      have d2 : decide (n ≤ m) = true := by simpa using h2
      go_enter Tryd.func36, Tryd.ntmps36
      go_wp2
      go_ret
      exact ⟨rfl, rfl⟩
    · rw [cnt_no (fun h => h2 h.2)]
      have d2 : decide (n ≤ m) = false := by simpa using h2
      go_enter Tryd.func36, Tryd.ntmps36
      go_wp2
      go_ret
      exact ⟨rfl, rfl⟩
  · rw [cnt_no (fun h => h1 h.1)]
    have d1 : decide (1 ≤ n) = false := by simpa using h1
    go_enter Tryd.func36, Tryd.ntmps36
    go_wp2
    go_ret
    exact ⟨rfl, rfl⟩
/-- what is wrong with weights -/
def wE (l : List Int) : Int := if ∀ x ∈ l, isW x then 0 else 10
set_option maxRecDepth 100000 in
set_option maxHeartbeats 4000000 in
theorem weights_any (w : World) (sp : Option Addr) (cap N : Nat) (l : List Int) (hN : l.length = N) (hl : Nums w sp cap l) : Calls Tryd.prog 37 #[.slice sp N cap] w fun e w' => e = .returned (.int .i64 (wE l)) ∧ w = w' := by
  have hNm : N ≤ 9223372036854775807 := by rw [← hN]; exact hl.len
  have HL := Lib.hid hl
  have HN := Lib.hid hN
  unfold wE
  by_cases ha : ∀ x ∈ l, isW x
  · rw [if_pos ha]
    have HA := Lib.hid (fun i hi => in_of (p := isW) ha i hi)
    clear hl hN ha
    go_enter Tryd.func37, Tryd.ntmps37
    go_wp2
    go_loop [7] (fun i => ∃ k : Nat, k ≤ N ∧ i = .int .i64 k) (fun i => N - (intOf i).toNat)
    case atStart => exact ⟨0, by omega, rfl⟩
    case round =>
      obtain ⟨k, hk, rfl⟩ := hrel
      by_cases hlt : k < N
      · have hdt : decide (k < N) = true := by simp; omega
        obtain ⟨c, o, rfl, hc⟩ := HL.out.at_ k (by rw [HN.out]; exact hlt)
        have hi := HA.out k (by rw [HN.out]; exact hlt)
        obtain ⟨x, hx⟩ : ∃ x, l.getD k 0 = x := ⟨_, rfl⟩
        rw [hx] at hc hi
        clear hx
        obtain ⟨i1, i2⟩ := hi
        have d1 : decide (x < -16777216) = false := by simp; omega
        have d2 : decide (16777216 < x) = false := by simp; omega
        go_wp2
        go_round
        case rel => exact ⟨k + 1, by omega, by go_num⟩
        case measure => simp [intOf]; omega
      · have hdf : decide (k < N) = false := by simp; omega
        go_wp2
        go_ret
        exact ⟨rfl, rfl⟩
  · rw [if_neg ha]
    obtain ⟨j, hj, hb, hg⟩ := not_in (p := isW) ha
    rw [hN] at hj
    have HB := Lib.hid hb
    have HG := Lib.hid hg
    clear hl hN ha hb hg
    go_enter Tryd.func37, Tryd.ntmps37
    go_wp2
    go_loop [7] (fun i => ∃ k : Nat, k ≤ j ∧ i = .int .i64 k) (fun i => N - (intOf i).toNat)
    case atStart => exact ⟨0, by omega, rfl⟩
    case round =>
      obtain ⟨k, hk, rfl⟩ := hrel
      have hlt : k < N := by omega
      have hdt : decide (k < N) = true := by simp; omega
      obtain ⟨c, o, rfl, hc⟩ := HL.out.at_ k (by rw [HN.out]; exact hlt)
      have hne : k = j → ¬ isW (l.getD k 0) := fun e => by rw [e]; exact HB.out
      obtain ⟨x, hx⟩ : ∃ x, l.getD k 0 = x := ⟨_, rfl⟩
      rw [hx] at hc hne
      clear hx
      by_cases h1 : x < -16777216
      · have d1 : decide (x < -16777216) = true := by simp; omega
        clear hne
        go_wp2
        go_ret
        exact ⟨rfl, rfl⟩
      · have d1 : decide (x < -16777216) = false := by simp; omega
        by_cases h2 : 16777216 < x
        · have d2 : decide (16777216 < x) = true := by simp; omega
          clear hne
          go_wp2
          go_ret
          exact ⟨rfl, rfl⟩
        · have d2 : decide (16777216 < x) = false := by simp; omega
          have hkj : k < j := Nat.lt_of_le_of_ne hk (fun e => hne e ⟨by omega, by omega⟩)
          clear hne
          go_wp2
          go_round
          case rel => exact ⟨k + 1, by omega, by go_num⟩
          case measure => simp [intOf]; omega
/-- vectors of one length -/
def sameL (ls : List (List Int)) : Prop := ∀ i, i < ls.length → (ls.getD i []).length = (ls.getD 0 []).length
instance (ls : List (List Int)) : Decidable (sameL ls) := inferInstanceAs (Decidable (∀ i, i < ls.length → _))
set_option maxRecDepth 100000 in
set_option maxHeartbeats 4000000 in
theorem areSame_any (w : World) (sp : Option Addr) (cap M : Nat) (ls : List (List Int)) (hM : ls.length = M) (hv : Vecs w sp cap ls) : Calls Tryd.prog 40 #[.slice sp M cap] w fun e w' => e = .returned (.bool (decide (sameL ls))) ∧ w = w' := by
  have hMm : M ≤ 9223372036854775807 := by rw [← hM]; exact hv.len
  have HV := Lib.hid hv
  have HM := Lib.hid hM
  by_cases hs : sameL ls
  · have HS := Lib.hid hs
    rw [show decide (sameL ls) = true by simpa using hs]
    clear hv hM hs
    go_enter Tryd.func40, Tryd.ntmps40
    go_wp2
    go_loop [7] (fun i => ∃ k : Nat, k ≤ M ∧ i = .int .i64 k) (fun i => M - (intOf i).toNat)
    case atStart => exact ⟨0, by omega, rfl⟩
    case round =>
      obtain ⟨k, hk, rfl⟩ := hrel
      by_cases hlt : k < M
      · have hdt : decide (k < M) = true := by simp; omega
        obtain ⟨c, o, s2, c2, rfl, hc, hb⟩ := HV.out.at_ k (by rw [HM.out]; exact hlt)
        obtain ⟨c', o', s3, c3, e, hc0, hb0⟩ := HV.out.at_ 0 (by rw [HM.out]; omega)
        cases e
        have hq := HS.out k (by rw [HM.out]; exact hlt)
        have hm2 := hb.len
        rw [hq] at hc hm2
        obtain ⟨n, hn⟩ : ∃ n, (ls.getD 0 []).length = n := ⟨_, rfl⟩
        rw [hn] at hc hc0 hm2
        rw [Nat.add_zero] at hc0
        have hnn : (n != n) = false := by simp
        have hnn' : ((n : Int) != (n : Int)) = false := by simp
        clear hn hq hb hb0
        go_wp2
        go_round
        case rel => exact ⟨k + 1, by omega, by go_num⟩
        case measure => simp [intOf]; omega
      · have hdf : decide (k < M) = false := by simp; omega
        go_wp2
        go_ret
        exact ⟨rfl, rfl⟩
  · obtain ⟨j, hj, hb, hg⟩ := first_not (P := fun i => (ls.getD i []).length = (ls.getD 0 []).length) ls.length hs
    rw [hM] at hj
    rw [show decide (sameL ls) = false by simpa using hs]
    have HB := Lib.hid hb
    have HG := Lib.hid hg
    clear hv hM hs hb hg
    go_enter Tryd.func40, Tryd.ntmps40
    go_wp2
    go_loop [7] (fun i => ∃ k : Nat, k ≤ j ∧ i = .int .i64 k) (fun i => M - (intOf i).toNat)
    case atStart => exact ⟨0, by omega, rfl⟩
    case round =>
      obtain ⟨k, hk, rfl⟩ := hrel
      have hlt : k < M := by omega
      have hdt : decide (k < M) = true := by simp; omega
      obtain ⟨c, o, s2, c2, rfl, hc, hb⟩ := HV.out.at_ k (by rw [HM.out]; exact hlt)
      obtain ⟨c', o', s3, c3, e, hc0, hb0⟩ := HV.out.at_ 0 (by rw [HM.out]; omega)
      cases e
      have hm2 := hb.len
      have hm3 := hb0.len
      by_cases hkj : k = j
      · subst hkj
        have hne : ¬ (ls.getD k []).length = (ls.getD 0 []).length := HB.out
        obtain ⟨n, hn⟩ : ∃ n, (ls.getD 0 []).length = n := ⟨_, rfl⟩
        obtain ⟨m, hm⟩ : ∃ n, (ls.getD k []).length = n := ⟨_, rfl⟩
        rw [hm, hn] at hne
        rw [hm] at hc hm2
        rw [hn] at hc0 hm3
        rw [Nat.add_zero] at hc0
        have hnn : (m != n) = true := by simpa using hne
        have hnn' : ((m : Int) != (n : Int)) = true := by
          simp only [bne_iff_ne, ne_eq]
          omega
        clear hn hm hb hb0 hne
        go_wp2
        go_ret
        exact ⟨rfl, rfl⟩
      · have hq := HG.out k (by omega)
        rw [hq] at hc hm2
        obtain ⟨n, hn⟩ : ∃ n, (ls.getD 0 []).length = n := ⟨_, rfl⟩
        rw [hn] at hc hc0 hm2
        rw [Nat.add_zero] at hc0
        have hnn : (n != n) = false := by simp
        have hnn' : ((n : Int) != (n : Int)) = false := by simp
        have hk2 : k < j := by omega
        clear hn hq hb hb0 hkj
        go_wp2
        go_round
        case rel => exact ⟨k + 1, by omega, by go_num⟩
        case measure => simp [intOf]; omega
theorem firstE_at : ∀ (es : List Int) (k : Nat), k < es.length → (∀ j, j < k → es.getD j 0 = 0) → es.getD k 0 ≠ 0 → firstE es = es.getD k 0
  | [], k, h, _, _ => absurd h (by simp)
  | e :: es, 0, _, _, hk => by
    have : e ≠ 0 := by simpa using hk
    simp [firstE, this]
  | e :: es, k + 1, h, h0, hk => by
    have he : e = 0 := by simpa using h0 0 (by omega)
    have ih := firstE_at es k (by simpa using h) (fun j hj => by simpa using h0 (j + 1) (by omega)) (by simpa using hk)
    rw [firstE, if_neg (by simp [he]), ih]
    simp
theorem firstE_all : ∀ (es : List Int), (∀ j, j < es.length → es.getD j 0 = 0) → firstE es = 0
  | [], _ => rfl
  | e :: es, h => by
    have he : e = 0 := by simpa using h 0 (by simp)
    rw [firstE, if_neg (by simp [he])]
    exact firstE_all es fun j hj => by simpa using h (j + 1) (by simpa using hj)
theorem map_getD (ls : List (List Int)) (f : List Int → Int) (k : Nat) (h : k < ls.length) : (ls.map f).getD k 0 = f (ls.getD k []) := by simp [List.getD_eq_getElem?_getD, h]
def chkL (ls : List (List Int)) : Int := firstE (ls.map chkV)
theorem chkL_at {ls : List (List Int)} (k : Nat) (hk : k < ls.length) (h0 : ∀ j, j < k → chkV (ls.getD j []) = 0) (h : chkV (ls.getD k []) ≠ 0) : chkL ls = chkV (ls.getD k []) := by
  unfold chkL
  rw [firstE_at (ls.map chkV) k (by simpa using hk) (fun j hj => by rw [map_getD _ _ _ (by omega)]; exact h0 j hj) (by rw [map_getD _ _ _ hk]; exact h), map_getD _ _ _ hk]
theorem chkL_all {ls : List (List Int)} (h0 : ∀ j, j < ls.length → chkV (ls.getD j []) = 0) : chkL ls = 0 :=
  firstE_all _ fun j hj => by rw [List.length_map] at hj; rw [map_getD _ _ _ hj]; exact h0 j hj
theorem chkV_size {l : List Int} (h : ¬ (1 ≤ (l.length : Int) ∧ (l.length : Int) ≤ 512)) : chkV l = 13 := by unfold chkV; rw [if_pos (by omega)]
theorem chkV_range {l : List Int} (h : 1 ≤ (l.length : Int) ∧ (l.length : Int) ≤ 512) (j : Nat) (hj : j < l.length) (hn : ¬ isN (l.getD j 0)) : chkV l = 10 := by
  unfold chkV
  rw [if_neg (by omega), if_neg (fun h => hn (in_of (p := isN) h j hj))]
theorem chkV_ok {l : List Int} (h : 1 ≤ (l.length : Int) ∧ (l.length : Int) ≤ 512) (hn : ∀ j, j < l.length → isN (l.getD j 0)) : chkV l = 0 := by
  unfold chkV
  rw [if_neg (by omega), if_pos (of_get hn)]
set_option maxRecDepth 100000 in
set_option maxHeartbeats 4000000 in
theorem check_any (w : World) (sp : Option Addr) (cap M : Nat) (ls : List (List Int)) (hM : ls.length = M) (hv : Vecs w sp cap ls) : Calls Tryd.prog 38 #[.slice sp M cap] w fun e w' => e = .returned (.int .i64 (chkL ls)) ∧ Below w.heap.size w w' := by
  have hMm : M ≤ 9223372036854775807 := by rw [← hM]; exact hv.len
  have HV := Lib.hid hv
  have HM := Lib.hid hM
  have HA := Lib.hid (fun k hk h0 h => chkL_at (ls := ls) k hk h0 h)
  have HO := Lib.hid (fun h0 => chkL_all (ls := ls) h0)
  obtain ⟨R, hR⟩ : ∃ R, chkL ls = R := ⟨_, rfl⟩
  rw [hR] at HA HO ⊢
  clear hv hM hR
  go_enter Tryd.func38, Tryd.ntmps38
  go_wp2
  go_step3
  go_wp2
  go_step3
  go_wp2
  go_loopw [3, 10] (fun e i wr => ∃ k : Nat, k ≤ M ∧ i = .int .i64 k ∧ e = .int .i64 0 ∧ (∀ j, j < k → chkV (ls.getD j []) = 0) ∧ Below w.heap.size w wr) (fun _ i _ => M - (intOf i).toNat)
  case atStart => exact ⟨0, by omega, rfl, rfl, fun j hj => absurd hj (by omega), Below.refl _ _⟩
  case round =>
    obtain ⟨k, hk, rfl, rfl, h0, hB⟩ := hrel
    have H0 := Lib.hid h0
    have HB := Lib.hid hB
    clear h0 hB
    by_cases hlt : k < M
    · have hdt : decide (k < M) = true := by simp; omega
      obtain ⟨c, o, s2, c2, rfl, hc, hb⟩ := HV.out.at_ k (by rw [HM.out]; exact hlt)
      have hcr := (HB.out.cell (p := ⟨c, o + k, none⟩) (block_lt_of_cell hc)).trans hc
      have HA2 := Lib.hid (HA.out k (by rw [HM.out]; exact hlt) H0.out)
      have HX := Lib.hid (hb.below HB.out)
      have hlen := hb.len
      clear hc hb
      obtain ⟨l, hl⟩ : ∃ l, ls.getD k [] = l := ⟨_, rfl⟩
      rw [hl] at hcr HA2 HX hlen
      have HL := Lib.hid hl
      obtain ⟨N, hN⟩ : ∃ N, l.length = N := ⟨_, rfl⟩
      rw [hN] at hcr hlen
      have HN := Lib.hid hN
      clear hl hN
      by_cases hs : 1 ≤ (N : Int) ∧ (N : Int) ≤ 512
      · have HS := Lib.hid hs
        have HC : Hid (cnt N 512 = true) := Lib.hid (cnt_yes hs)
        obtain ⟨hs1, hs2⟩ := hs
        go_wp2_with fail
        refine (count_any _ _ _).mono ?_
        rintro e w' ⟨rfl, rfl⟩
        rw [HC.out]
        go_wp2
        go_loopw [3, 20] (fun e i wr => ∃ j : Nat, j ≤ N ∧ i = .int .i64 j ∧ e = .int .i64 0 ∧ (∀ q, q < j → isN (l.getD q 0)) ∧ Below w.heap.size w wr ∧ Nums wr s2 c2 l) (fun _ i _ => N - (intOf i).toNat)
        case atStart => exact ⟨0, by omega, rfl, rfl, fun j hj => absurd hj (by omega), HB.out, HX.out⟩
        case round =>
          obtain ⟨j, hj, rfl, rfl, hq, hB2, hX2⟩ := hrel
          have HQ := Lib.hid hq
          have HB2 := Lib.hid hB2
          have HX2 := Lib.hid hX2
          clear hq hB2 hX2
          by_cases hlt2 : j < N
          · have hdt2 : decide (j < N) = true := by simp; omega
            obtain ⟨g, p, rfl, hcx⟩ := HX2.out.at_ j (by rw [HN.out]; exact hlt2)
            by_cases hi : isN (l.getD j 0)
            · have HI := Lib.hid hi
              have HQ2 : Hid (∀ q, q < j + 1 → isN (l.getD q 0)) := Lib.hid (fun q hq => by
                rcases Nat.lt_or_ge q j with h | h
                · exact HQ.out q h
                · obtain rfl : q = j := by omega
                  exact HI.out)
              obtain ⟨x, hx⟩ : ∃ x, l.getD j 0 = x := ⟨_, rfl⟩
              rw [hx] at hcx HI
              clear hx hi
              go_wp2_with fail
              refine (Fq.chk_ok _ x HI.out).mono ?_
              rintro e w2 ⟨rfl, hb2⟩
              have HB3 := Lib.hid (HB2.out.trans (hb2.mono HB2.out.size))
              have HX3 := Lib.hid (HX2.out.below hb2)
              clear hb2 hcx
              go_wp2
              go_roundw
              case rel => exact ⟨j + 1, by omega, by go_num, rfl, HQ2.out, HB3.out, HX3.out⟩
              case measure => simp [intOf]; omega
            · have HE : Hid (chkV l = 10) := Lib.hid (chkV_range (by rw [HN.out]; omega) j (by rw [HN.out]; exact hlt2) hi)
              have HI := Lib.hid hi
              obtain ⟨x, hx⟩ : ∃ x, l.getD j 0 = x := ⟨_, rfl⟩
              rw [hx] at hcx HI
              clear hx hi
              go_wp2_with fail
              refine (Fq.chk_no _ x HI.out).mono ?_
              rintro e w2 ⟨rfl, hb2⟩
              have HB3 := Lib.hid (HB2.out.trans (hb2.mono HB2.out.size))
              clear hb2 hcx
              go_wp2
              rw [Exit.noGoto_ret]
              go_ret
              exact ⟨by rw [HA2.out (by rw [HE.out]; decide), HE.out]; rfl, HB3.out⟩
          · obtain rfl : j = N := by omega
            have hdf : decide (j < j) = false := by simp
            have HE : Hid (chkV l = 0) := Lib.hid (chkV_ok (by rw [HN.out]; omega) (fun q hq => HQ.out q (by rw [HN.out] at hq; exact hq)))
            have H1 : Hid (∀ j, j < k + 1 → chkV (ls.getD j []) = 0) := Lib.hid (fun q hq => by
              rcases Nat.lt_or_ge q k with h | h
              · exact H0.out q h
              · obtain rfl : q = k := by omega
                rw [HL.out]; exact HE.out)
            go_wp2
            go_roundw
            case rel => exact ⟨k + 1, by omega, by go_num, rfl, H1.out, HB2.out⟩
            case measure => simp [intOf]; omega
      · have HC : Hid (cnt N 512 = false) := Lib.hid (cnt_no hs)
        have HE : Hid (chkV l = 13) := Lib.hid (chkV_size (by rw [HN.out]; exact hs))
        clear hs
        go_wp2_with fail
        refine (count_any _ _ _).mono ?_
        rintro e w' ⟨rfl, rfl⟩
        rw [HC.out]
        go_wp2
        rw [Exit.noGoto_ret]
        go_ret
        exact ⟨by rw [HA2.out (by rw [HE.out]; decide), HE.out]; rfl, HB.out⟩
    · obtain rfl : k = M := by omega
      have hdf : decide (k < k) = false := by simp
      have HR : Hid (R = 0) := Lib.hid (HO.out (fun j hj => H0.out j (by rw [HM.out] at hj; exact hj)))
      go_wp2
      rw [Exit.noGoto_ret]
      go_ret
      exact ⟨by rw [HR.out]; rfl, HB.out⟩
end Go.Proofs.YtchjijifmjbgoaaDoor.Tn
