import Derived.Test.YtdffbjjiojheoaaTa
import Derived.Lib.SliceRun
-- from Ja
namespace Go.Proofs.Ytdffbjjiojheoaa.Tn
open Go.ChangeShapes Go.WideShapes Go.ChangeAt Go.RowKit Go.Proofs.Ytdffbjjiojheoaa.Fx Go.Proofs.Ytdffbjjiojheoaa.Rf
/-! ### the landed code: what is checked -/
def cnt (n m : Int) : Bool := decide (1 ≤ n ∧ n ≤ m)
theorem cnt_yes {n m : Int} (h : 1 ≤ n ∧ n ≤ m) : cnt n m = true := by unfold cnt; simpa using h
theorem cnt_no {n m : Int} (h : ¬ (1 ≤ n ∧ n ≤ m)) : cnt n m = false := by unfold cnt; simpa using h
set_option maxRecDepth 100000 in
set_option maxHeartbeats 4000000 in
theorem count_any (w : World) (n m : Int) : Calls Try.prog 77 #[.int .i64 n, .int .i64 m] w fun e w' => e = .returned (.bool (cnt n m)) ∧ w = w' := by
  by_cases h1 : 1 ≤ n
  · have d1 : decide (1 ≤ n) = true := by simpa using h1
    by_cases h2 : n ≤ m
    · rw [cnt_yes ⟨h1, h2⟩]
      have d2 : decide (n ≤ m) = true := by simpa using h2
      go_enter Try.func77, Try.ntmps77
      go_wp2
      go_ret
      exact ⟨rfl, rfl⟩
    · rw [cnt_no (fun h => h2 h.2)]
      have d2 : decide (n ≤ m) = false := by simpa using h2
      go_enter Try.func77, Try.ntmps77
      go_wp2
      go_ret
      exact ⟨rfl, rfl⟩
  · rw [cnt_no (fun h => h1 h.1)]
    have d1 : decide (1 ≤ n) = false := by simpa using h1
    go_enter Try.func77, Try.ntmps77
    go_wp2
    go_ret
    exact ⟨rfl, rfl⟩
/-- what is wrong with weights -/
def wE (l : List Int) : Int := if ∀ x ∈ l, isW x then 0 else 10
set_option maxRecDepth 100000 in
set_option maxHeartbeats 4000000 in
theorem weights_any (w : World) (sp : Option Addr) (cap N : Nat) (l : List Int) (hN : l.length = N) (hl : Nums w sp cap l) : Calls Try.prog 78 #[.slice sp N cap] w fun e w' => e = .returned (.int .i64 (wE l)) ∧ w = w' := by
  have hNm : N ≤ 9223372036854775807 := by rw [← hN]; exact hl.len
  have HL := Lib.hid hl
  have HN := Lib.hid hN
  unfold wE
  by_cases ha : ∀ x ∈ l, isW x
  · rw [if_pos ha]
    have HA := Lib.hid (fun i hi => in_of (p := isW) ha i hi)
    clear hl hN ha
    go_enter Try.func78, Try.ntmps78
    go_wp2
    go_loop [7] (fun i => ∃ k : Nat, k ≤ N ∧ i = .int .i64 k) (fun i => N - (intOf i).toNat)
    case atStart => exact ⟨0, by omega, rfl⟩
    case round =>
      obtain ⟨k, hk, rfl⟩ := hrel
      by_cases hlt : k < N
      · have hdt : decide (k < N) = true := by simp; omega
        obtain ⟨c, o, rfl, hc⟩ := HL.out.at_ k (by rw [HN.out]; exact hlt)
        have hi := HA.out k (by rw [HN.out]; exact hlt)
        obtain ⟨x, hx⟩ : ∃ x, l.getD k 0 = x := ⟨_, rfl⟩
        rw [hx] at hc hi
        clear hx
        obtain ⟨i1, i2⟩ := hi
        have d1 : decide (x < -16777216) = false := by simp; omega
        have d2 : decide (16777216 < x) = false := by simp; omega
        go_wp2
        go_round
        case rel => exact ⟨k + 1, by omega, by go_num⟩
        case measure => simp [intOf]; omega
      · have hdf : decide (k < N) = false := by simp; omega
        go_wp2
        go_ret
        exact ⟨rfl, rfl⟩
  · rw [if_neg ha]
    obtain ⟨j, hj, hb, hg⟩ := not_in (p := isW) ha
    rw [hN] at hj
    have HB := Lib.hid hb
    have HG := Lib.hid hg
    clear hl hN ha hb hg
    go_enter Try.func78, Try.ntmps78
    go_wp2
    go_loop [7] (fun i => ∃ k : Nat, k ≤ j ∧ i = .int .i64 k) (fun i => N - (intOf i).toNat)
    case atStart => exact ⟨0, by omega, rfl⟩
    case round =>
      obtain ⟨k, hk, rfl⟩ := hrel
      have hlt : k < N := by omega
      have hdt : decide (k < N) = true := by simp; omega
      obtain ⟨c, o, rfl, hc⟩ := HL.out.at_ k (by rw [HN.out]; exact hlt)
      have hne : k = j → ¬ isW (l.getD k 0) := fun e => by rw [e]; exact HB.out
      obtain ⟨x, hx⟩ : ∃ x, l.getD k 0 = x := ⟨_, rfl⟩
      rw [hx] at hc hne
      clear hx
      by_cases h1 : x < -16777216
      · have d1 : decide (x < -16777216) = true := by simp; omega
        clear hne
        go_wp2
        go_ret
        exact ⟨rfl, rfl⟩
      · have d1 : decide (x < -16777216) = false := by simp; omega
        by_cases h2 : 16777216 < x
        · have d2 : decide (16777216 < x) = true := by simp; omega
          clear hne
          go_wp2
          go_ret
          exact ⟨rfl, rfl⟩
        · have d2 : decide (16777216 < x) = false := by simp; omega
          have hkj : k < j := Nat.lt_of_le_of_ne hk (fun e => hne e ⟨by omega, by omega⟩)
          clear hne
          go_wp2
          go_round
          case rel => exact ⟨k + 1, by omega, by go_num⟩
          case measure => simp [intOf]; omega
theorem firstE_at : ∀ (es : List Int) (k : Nat), k < es.length → (∀ j, j < k → es.getD j 0 = 0) → es.getD k 0 ≠ 0 → firstE es = es.getD k 0
  | [], k, h, _, _ => absurd h (by simp)
  | e :: es, 0, _, _, hk => by
    have : e ≠ 0 := by simpa using hk
    simp [firstE, this]
  | e :: es, k + 1, h, h0, hk => by
    have he : e = 0 := by simpa using h0 0 (by omega)
    have ih := firstE_at es k (by simpa using h) (fun j hj => by simpa using h0 (j + 1) (by omega)) (by simpa using hk)
    rw [firstE, if_neg (by simp [he]), ih]
    simp
theorem firstE_all : ∀ (es : List Int), (∀ j, j < es.length → es.getD j 0 = 0) → firstE es = 0
  | [], _ => rfl
  | e :: es, h => by
    have he : e = 0 := by simpa using h 0 (by simp)
    rw [firstE, if_neg (by simp [he])]
    exact firstE_all es fun j hj => by simpa using h (j + 1) (by simpa using hj)
theorem map_getD (ls : List (List Int)) (f : List Int → Int) (k : Nat) (h : k < ls.length) : (ls.map f).getD k 0 = f (ls.getD k []) := by simp [List.getD_eq_getElem?_getD, h]
def chkL (ls : List (List Int)) : Int := firstE (ls.map chkV)
theorem chkL_at {ls : List (List Int)} (k : Nat) (hk : k < ls.length) (h0 : ∀ j, j < k → chkV (ls.getD j []) = 0) (h : chkV (ls.getD k []) ≠ 0) : chkL ls = chkV (ls.getD k []) := by
  unfold chkL
  rw [firstE_at (ls.map chkV) k (by simpa using hk) (fun j hj => by rw [map_getD _ _ _ (by omega)]; exact h0 j hj) (by rw [map_getD _ _ _ hk]; exact h), map_getD _ _ _ hk]
theorem chkL_all {ls : List (List Int)} (h0 : ∀ j, j < ls.length → chkV (ls.getD j []) = 0) : chkL ls = 0 :=
  firstE_all _ fun j hj => by rw [List.length_map] at hj; rw [map_getD _ _ _ hj]; exact h0 j hj
theorem chkV_size {l : List Int} (h : ¬ (1 ≤ (l.length : Int) ∧ (l.length : Int) ≤ 512)) : chkV l = 13 := by unfold chkV; rw [if_pos (by omega)]
theorem chkV_range {l : List Int} (h : 1 ≤ (l.length : Int) ∧ (l.length : Int) ≤ 512) (j : Nat) (hj : j < l.length) (hn : ¬ isN (l.getD j 0)) : chkV l = 10 := by
  unfold chkV
  rw [if_neg (by omega), if_neg (fun h => hn (in_of (p := isN) h j hj))]
theorem chkV_ok {l : List Int} (h : 1 ≤ (l.length : Int) ∧ (l.length : Int) ≤ 512) (hn : ∀ j, j < l.length → isN (l.getD j 0)) : chkV l = 0 := by
  unfold chkV
  rw [if_neg (by omega), if_pos (of_get hn)]
set_option maxRecDepth 100000 in
set_option maxHeartbeats 4000000 in
theorem check_any (w : World) (sp : Option Addr) (cap M : Nat) (ls : List (List Int)) (hM : ls.length = M) (hv : Vecs w sp cap ls) : Calls Try.prog 99 #[.slice sp M cap] w fun e w' => e = .returned (.int .i64 (chkL ls)) ∧ Below w.heap.size w w' := by
  have hMm : M ≤ 9223372036854775807 := by rw [← hM]; exact hv.len
  have HV := Lib.hid hv
  have HM := Lib.hid hM
  have HA := Lib.hid (fun k hk h0 h => chkL_at (ls := ls) k hk h0 h)
  have HO := Lib.hid (fun h0 => chkL_all (ls := ls) h0)
  obtain ⟨R, hR⟩ : ∃ R, chkL ls = R := ⟨_, rfl⟩
  rw [hR] at HA HO ⊢
  clear hv hM hR
  go_enter Try.func99, Try.ntmps99
  go_wp2
  go_step3
  go_wp2
  go_step3
  go_wp2
  go_loopw [3, 10] (fun e i wr => ∃ k : Nat, k ≤ M ∧ i = .int .i64 k ∧ e = .int .i64 0 ∧ (∀ j, j < k → chkV (ls.getD j []) = 0) ∧ Below w.heap.size w wr) (fun _ i _ => M - (intOf i).toNat)
  case atStart => exact ⟨0, by omega, rfl, rfl, fun j hj => absurd hj (by omega), Below.refl _ _⟩
  case round =>
    obtain ⟨k, hk, rfl, rfl, h0, hB⟩ := hrel
    have H0 := Lib.hid h0
    have HB := Lib.hid hB
    clear h0 hB
    by_cases hlt : k < M
    · have hdt : decide (k < M) = true := by simp; omega
      obtain ⟨c, o, s2, c2, rfl, hc, hb⟩ := HV.out.at_ k (by rw [HM.out]; exact hlt)
      have hcr := (HB.out.cell (p := ⟨c, o + k, none⟩) (block_lt_of_cell hc)).trans hc
      have HA2 := Lib.hid (HA.out k (by rw [HM.out]; exact hlt) H0.out)
      have HX := Lib.hid (hb.below HB.out)
      have hlen := hb.len
      clear hc hb
      obtain ⟨l, hl⟩ : ∃ l, ls.getD k [] = l := ⟨_, rfl⟩
      rw [hl] at hcr HA2 HX hlen
      have HL := Lib.hid hl
      obtain ⟨N, hN⟩ : ∃ N, l.length = N := ⟨_, rfl⟩
      rw [hN] at hcr hlen
      have HN := Lib.hid hN
      clear hl hN
      by_cases hs : 1 ≤ (N : Int) ∧ (N : Int) ≤ 512
      · have HS := Lib.hid hs
        have HC : Hid (cnt N 512 = true) := Lib.hid (cnt_yes hs)
        obtain ⟨hs1, hs2⟩ := hs
        go_wp2_with fail
        refine (count_any _ _ _).mono ?_
        rintro e w' ⟨rfl, rfl⟩
        rw [HC.out]
        go_wp2
        go_loopw [3, 20] (fun e i wr => ∃ j : Nat, j ≤ N ∧ i = .int .i64 j ∧ e = .int .i64 0 ∧ (∀ q, q < j → isN (l.getD q 0)) ∧ Below w.heap.size w wr ∧ Nums wr s2 c2 l) (fun _ i _ => N - (intOf i).toNat)
        case atStart => exact ⟨0, by omega, rfl, rfl, fun j hj => absurd hj (by omega), HB.out, HX.out⟩
        case round =>
          obtain ⟨j, hj, rfl, rfl, hq, hB2, hX2⟩ := hrel
          have HQ := Lib.hid hq
          have HB2 := Lib.hid hB2
          have HX2 := Lib.hid hX2
          clear hq hB2 hX2
          by_cases hlt2 : j < N
          · have hdt2 : decide (j < N) = true := by simp; omega
            obtain ⟨g, p, rfl, hcx⟩ := HX2.out.at_ j (by rw [HN.out]; exact hlt2)
            by_cases hi : isN (l.getD j 0)
            · have HI := Lib.hid hi
              have HQ2 : Hid (∀ q, q < j + 1 → isN (l.getD q 0)) := Lib.hid (fun q hq => by
                rcases Nat.lt_or_ge q j with h | h
                · exact HQ.out q h
                · obtain rfl : q = j := by omega
                  exact HI.out)
              obtain ⟨x, hx⟩ : ∃ x, l.getD j 0 = x := ⟨_, rfl⟩
              rw [hx] at hcx HI
              clear hx hi
              go_wp2_with fail
              refine (Fq.chk_ok _ x HI.out).mono ?_
              rintro e w2 ⟨rfl, hb2⟩
              have HB3 := Lib.hid (HB2.out.trans (hb2.mono HB2.out.size))
              have HX3 := Lib.hid (HX2.out.below hb2)
              clear hb2 hcx
              go_wp2
              go_roundw
              case rel => exact ⟨j + 1, by omega, by go_num, rfl, HQ2.out, HB3.out, HX3.out⟩
              case measure => simp [intOf]; omega
            · have HE : Hid (chkV l = 10) := Lib.hid (chkV_range (by rw [HN.out]; omega) j (by rw [HN.out]; exact hlt2) hi)
              have HI := Lib.hid hi
              obtain ⟨x, hx⟩ : ∃ x, l.getD j 0 = x := ⟨_, rfl⟩
              rw [hx] at hcx HI
              clear hx hi
              go_wp2_with fail
              refine (Fq.chk_no _ x HI.out).mono ?_
              rintro e w2 ⟨rfl, hb2⟩
              have HB3 := Lib.hid (HB2.out.trans (hb2.mono HB2.out.size))
              clear hb2 hcx
              go_wp2
              rw [Exit.noGoto_ret]
              go_ret
              exact ⟨by rw [HA2.out (by rw [HE.out]; decide), HE.out]; rfl, HB3.out⟩
          · obtain rfl : j = N := by omega
            have hdf : decide (j < j) = false := by simp
            have HE : Hid (chkV l = 0) := Lib.hid (chkV_ok (by rw [HN.out]; omega) (fun q hq => HQ.out q (by rw [HN.out] at hq; exact hq)))
            have H1 : Hid (∀ j, j < k + 1 → chkV (ls.getD j []) = 0) := Lib.hid (fun q hq => by
              rcases Nat.lt_or_ge q k with h | h
              · exact H0.out q h
              · obtain rfl : q = k := by omega
                rw [HL.out]; exact HE.out)
            go_wp2
            go_roundw
            case rel => exact ⟨k + 1, by omega, by go_num, rfl, H1.out, HB2.out⟩
            case measure => simp [intOf]; omega
      · have HC : Hid (cnt N 512 = false) := Lib.hid (cnt_no hs)
        have HE : Hid (chkV l = 13) := Lib.hid (chkV_size (by rw [HN.out]; exact hs))
        clear hs
        go_wp2_with fail
        refine (count_any _ _ _).mono ?_
        rintro e w' ⟨rfl, rfl⟩
        rw [HC.out]
        go_wp2
        rw [Exit.noGoto_ret]
        go_ret
        exact ⟨by rw [HA2.out (by rw [HE.out]; decide), HE.out]; rfl, HB.out⟩
    · obtain rfl : k = M := by omega
      have hdf : decide (k < k) = false := by simp
      have HR : Hid (R = 0) := Lib.hid (HO.out (fun j hj => H0.out j (by rw [HM.out] at hj; exact hj)))
      go_wp2
      rw [Exit.noGoto_ret]
      go_ret
      exact ⟨by rw [HR.out]; rfl, HB.out⟩
end Go.Proofs.Ytdffbjjiojheoaa.Tn
-- from Jc
namespace Go.Proofs.Ytdffbjjiojheoaa.Tn
set_option maxRecDepth 100000
open Go.ChangeShapes Go.WideShapes Go.ChangeAt Go.RowKit Go.Proofs.Ytdffbjjiojheoaa.Fx Go.Proofs.Ytdffbjjiojheoaa.Rf
/-! ### the landed code: Check, Dot, a matrix's Check and Row -/
theorem vecs_new (w : World) (g : Nat) (hg : g = w.heap.size) (vs : List Value) (ls : List (List Int)) (cs : Array Value) (n : Nat) (hn : vs.length = n) (hl : ls.length = n) (hc : cs = vs.toArray) (hb : n ≤ 1000000) (h : ∀ i v, vs[i]? = some v → VecVal w v (ls.getD i [])) :
    Vecs (w.alloc (.cells cs 23)) (some ⟨g, 0, none⟩) n ls := by
  subst hn
  subst hg
  have hs := Sl.new w vs cs 23 (0, 0) hc hb
  refine ⟨vs, hl.symm, hs, fun i v hv => ?_⟩
  obtain ⟨sp, cap, e, hnm⟩ := h i v hv
  exact ⟨sp, cap, e, hnm.below ((Below.refl _ _).alloc (Nat.le_refl _) _)⟩
theorem vecs_new1 (w : World) (g : Nat) (hg : g = w.heap.size) (sp : Option Addr) (cap N : Nat) (l : List Int) (hN : l.length = N) (h : Nums w sp cap l) : Vecs (w.alloc (.cells #[.slice sp N cap] 23)) (some ⟨g, 0, none⟩) 1 [l] :=
  vecs_new w g hg [.slice sp N cap] [l] _ 1 rfl rfl rfl (by omega) fun i v hv => by
    rcases i with _ | i
    · simp at hv; subst hv; exact ⟨sp, cap, by rw [← hN]; rfl, h⟩
    · simp at hv
theorem chkL1 (l : List Int) : chkL [l] = chkV l := by
  unfold chkL
  simp only [List.map_cons, List.map_nil, firstE]
  split
  · rfl
  · omega
set_option maxHeartbeats 4000000 in
theorem tcheck_any (w : World) (sp : Option Addr) (cap N : Nat) (l : List Int) (hN : l.length = N) (hl : Nums w sp cap l) : Calls Try.prog 83 #[.slice sp N cap] w fun e w' => e = .returned (.int .i64 (chkV l)) ∧ Below w.heap.size w w' := by
  have HC := Lib.hid (check_any _ _ 1 1 [l] rfl (vecs_new1 w _ rfl sp cap N l hN hl))
  rw [chkL1] at HC
  obtain ⟨R, hR⟩ : ∃ R, chkV l = R := ⟨_, rfl⟩
  rw [hR] at HC ⊢
  clear hl hN hR
  go_enter Try.func83, Try.ntmps83
  go_wp2_with fail
  refine HC.out.mono ?_
  rintro e w' ⟨rfl, hb⟩
  have HB := Lib.hid (((Below.refl w.heap.size w).alloc (Nat.le_refl _) (.cells #[.slice sp N cap] 23)).trans (hb.mono (by simp)))
  clear hb
  go_wp2
  go_ret
  exact ⟨rfl, HB.out⟩
theorem chkM_size {r c : Int} {l : List Int} (h : ¬ sizeM r c l.length) : chkM r c l = 13 := by unfold chkM; rw [if_pos h]
theorem chkM_w {r c : Int} {l : List Int} (h : sizeM r c l.length) : chkM r c l = wE l := by unfold chkM wE; rw [if_neg (fun hh => hh h)]
set_option maxHeartbeats 4000000 in
theorem mcheck_any (w : World) (r c : Int) (sp : Option Addr) (cap N : Nat) (l : List Int) (hN : l.length = N) (hl : Nums w sp cap l) : Calls Try.prog 55 #[matV r c sp N cap] w fun e w' => e = .returned (.int .i64 (chkM r c l)) ∧ Below w.heap.size w w' := by
  have hNm : N ≤ 9223372036854775807 := by rw [← hN]; exact hl.len
  have HL := Lib.hid hl
  have HN := Lib.hid hN
  unfold matV
  by_cases k1 : 1 ≤ r ∧ r ≤ 512
  · have HT1 : Hid (cnt r 512 = true) := Lib.hid (cnt_yes k1)
    by_cases k2 : 1 ≤ c ∧ c ≤ 64
    · have HT2 : Hid (cnt c 64 = true) := Lib.hid (cnt_yes k2)
      obtain ⟨hrc1, hrc2⟩ := mul_rc k1 k2
      by_cases k3 : (N : Int) = r * c
      · have HM := Lib.hid (chkM_w (r := r) (c := c) (l := l) (by rw [hN]; exact ⟨k1.1, k1.2, k2.1, k2.2, k3⟩))
        rw [HM.out]
        have e5 : ((N : Int) != r * c) = false := by simp [k3]
        have HW := Lib.hid (fun W (hb : Below w.heap.size w W) => weights_any W sp cap N l hN (hl.below hb))
        obtain ⟨R, hR⟩ : ∃ R, wE l = R := ⟨_, rfl⟩
        rw [hR] at HW ⊢
        clear hl hN k1 k2 k3 hR HM
        go_enter Try.func55, Try.ntmps55
        go_upto_region 1 with fail
        refine gen_world (Q := fun w => Code.wp _ _ _ _ w) _ (MatAt w r c sp N cap) (MatAt.made w r c sp N cap _ rfl) ?_
        intro W hW
        have HB0 := Lib.hid hW.below
        have c0 := hW.c0
        have c1 := hW.c1
        have c2 := hW.c2
        clear hW
        go_wp2_with fail
        refine (count_any _ _ _).mono ?_
        rintro e w' ⟨rfl, rfl⟩
        rw [HT1.out]
        go_wp2_with fail
        refine (count_any _ _ _).mono ?_
        rintro e w' ⟨rfl, rfl⟩
        rw [HT2.out]
        go_wp2_with fail
        refine (HW.out _ HB0.out).mono ?_
        rintro e w' ⟨rfl, rfl⟩
        go_wp2
        go_ret
        exact ⟨rfl, HB0.out⟩
      · have HM := Lib.hid (chkM_size (r := r) (c := c) (l := l) (by rw [hN]; exact fun h => k3 h.2.2.2.2))
        rw [HM.out]
        have e5 : ((N : Int) != r * c) = true := by simpa using k3
        clear hl hN k1 k2 k3 HM
        go_enter Try.func55, Try.ntmps55
        go_upto_region 1 with fail
        refine gen_world (Q := fun w => Code.wp _ _ _ _ w) _ (MatAt w r c sp N cap) (MatAt.made w r c sp N cap _ rfl) ?_
        intro W hW
        have HB0 := Lib.hid hW.below
        have c0 := hW.c0
        have c1 := hW.c1
        have c2 := hW.c2
        clear hW
        go_wp2_with fail
        refine (count_any _ _ _).mono ?_
        rintro e w' ⟨rfl, rfl⟩
        rw [HT1.out]
        go_wp2_with fail
        refine (count_any _ _ _).mono ?_
        rintro e w' ⟨rfl, rfl⟩
        rw [HT2.out]
        go_wp2
        go_ret
        exact ⟨rfl, HB0.out⟩
    · have HT2 : Hid (cnt c 64 = false) := Lib.hid (cnt_no k2)
      have HM := Lib.hid (chkM_size (r := r) (c := c) (l := l) (fun h => k2 ⟨h.2.2.1, h.2.2.2.1⟩))
      rw [HM.out]
      clear hl hN k1 k2 HM
      go_enter Try.func55, Try.ntmps55
      go_upto_region 1 with fail
      refine gen_world (Q := fun w => Code.wp _ _ _ _ w) _ (MatAt w r c sp N cap) (MatAt.made w r c sp N cap _ rfl) ?_
      intro W hW
      have HB0 := Lib.hid hW.below
      have c0 := hW.c0
      have c1 := hW.c1
      have c2 := hW.c2
      clear hW
      go_wp2_with fail
      refine (count_any _ _ _).mono ?_
      rintro e w' ⟨rfl, rfl⟩
      rw [HT1.out]
      go_wp2_with fail
      refine (count_any _ _ _).mono ?_
      rintro e w' ⟨rfl, rfl⟩
      rw [HT2.out]
      go_wp2
      go_ret
      exact ⟨rfl, HB0.out⟩
  · have HT1 : Hid (cnt r 512 = false) := Lib.hid (cnt_no k1)
    have HM := Lib.hid (chkM_size (r := r) (c := c) (l := l) (fun h => k1 ⟨h.1, h.2.1⟩))
    rw [HM.out]
    clear hl hN k1 HM
    go_enter Try.func55, Try.ntmps55
    go_upto_region 1 with fail
    refine gen_world (Q := fun w => Code.wp _ _ _ _ w) _ (MatAt w r c sp N cap) (MatAt.made w r c sp N cap _ rfl) ?_
    intro W hW
    have HB0 := Lib.hid hW.below
    have c0 := hW.c0
    have c1 := hW.c1
    have c2 := hW.c2
    clear hW
    go_wp2_with fail
    refine (count_any _ _ _).mono ?_
    rintro e w' ⟨rfl, rfl⟩
    rw [HT1.out]
    go_wp2
    go_ret
    exact ⟨rfl, HB0.out⟩
end Go.Proofs.Ytdffbjjiojheoaa.Tn
