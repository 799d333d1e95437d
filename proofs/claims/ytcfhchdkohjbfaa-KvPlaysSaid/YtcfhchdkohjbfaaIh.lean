/- Pools of rows in pages (I): Get. -/
import Derived.Test.YtcfhchdkohjbfaaIf
namespace Go.Proofs.Ytcfhchdkohjbfaa.Kv.I
set_option maxRecDepth 100000
open Go.ChangeShapes Go.WideShapes Go.ChangeAt Go.RowKit Go.Proofs.Ytcfhchdkohjbfaa.Tn
open Go.ChangeMaps (setBlock heap_setBlock_same heap_setBlock_other)
theorem divT {n s : Nat} : (n : Int).tdiv (s : Int) = ((n / s : Nat) : Int) := by rw [Int.tdiv_eq_ediv_of_nonneg (by omega)]; rfl
section
variable {w : World} {τ : Tags} {g : Nat} {ly : Lay} {s op : Nat} {pg : Pg Int} {ro : Ro}
set_option maxHeartbeats 4000000 in
theorem thing_any (h : PoolAt kind w τ g ly s op pg ro) (hs : 1 ≤ s) (id n : Nat) (P : List Nat) (hr : ro[id]? = some (some (n, P))) (i k : Nat) (c : List Int × Nat) (x : Int) (h1 : P[i / s]? = some k) (h2 : pg[k]? = some c) (h3 : c.1[i % s]? = some x) (hi : i ≤ 1000000) :
    Calls Try.prog 49 #[.pointer (some ⟨g, 0, none⟩), .pointer (some ⟨ly.rb id, 0, none⟩), .int .i64 (i : Int)] w fun e w' => e = .returned (.int .i64 x) ∧ ∃ q, w' = w.drewN q := by
  obtain ⟨c0, c1, _, _⟩ := h.cells
  obtain ⟨_, r1⟩ := h.rowC hr
  obtain ⟨_, _, hrw, _⟩ := h.row id n P hr
  obtain ⟨sp, cap, hpv, _, hcp, hcm, hcl⟩ := hrw.toSl
  have hlt := (List.getElem?_eq_some_iff.1 h1).1
  rw [List.length_map] at hpv hcp hcl
  obtain ⟨d, _, rfl, hclA⟩ := hcl (Nat.lt_of_le_of_lt (Nat.zero_le _) hlt)
  have q1 : w.cell? ⟨d, i / s, none⟩ = some (.int .i64 (k : Int)) := hclA _ _ (by rw [List.getElem?_map, h1]; rfl)
  rw [hpv] at r1
  obtain ⟨p1, _⟩ := h.page h2
  obtain ⟨hth, _⟩ := h.th k c h2
  obtain ⟨sp2, cap2, htv, _, hcp2, hcm2, hcl2⟩ := hth.toSl
  have hlt2 := (List.getElem?_eq_some_iff.1 h3).1
  rw [List.length_map] at htv hcp2 hcl2
  obtain ⟨e, _, rfl, hclB⟩ := hcl2 (Nat.lt_of_le_of_lt (Nat.zero_le _) hlt2)
  have q2 : w.cell? ⟨e, i % s, none⟩ = some (.int .i64 x) := hclB _ _ (by rw [List.getElem?_map, h3]; rfl)
  rw [htv] at p1
  have hk := (List.getElem?_eq_some_iff.1 h2).1
  have hdv := divT (n := i) (s := s)
  have hrm := modw (n := i) (s := s)
  have hz : ((s : Int) == 0) = false := by
    have : (s : Int) ≠ 0 := by omega
    simpa using this
  have hds : i / s ≤ i := Nat.div_le_self _ _
  clear h hr hrw hpv hcl hclA h1 h2 h3 hth htv hcl2 hclB
  obtain ⟨N, hN⟩ : ∃ N, P.length = N := ⟨_, rfl⟩
  obtain ⟨G, hG⟩ : ∃ G, pg.length = G := ⟨_, rfl⟩
  obtain ⟨lc, hlc⟩ : ∃ lc, c.1.length = lc := ⟨_, rfl⟩
  rw [hN] at hlt r1 hcp
  rw [hG] at hk c1
  rw [hlc] at hlt2 p1 hcp2
  obtain ⟨a, ha⟩ : ∃ a, i / s = a := ⟨_, rfl⟩
  obtain ⟨t, ht⟩ : ∃ t, i % s = t := ⟨_, rfl⟩
  rw [ha] at hlt q1 hdv hds
  rw [ht] at hlt2 q2 hrm
  clear hN hG hlc ha ht
  have hw : IntKind.i64.wrap (a : Int) = (a : Int) := IntWalk.i64_in _ (by omega)
  have b1 : (0 : Int) ≤ (a : Int) := by omega
  have b2 : (a : Int) < (N : Int) := by omega
  have b3 : (0 : Int) ≤ (t : Int) := by omega
  have b4 : (t : Int) < (lc : Int) := by omega
  have b5 : (0 : Int) ≤ (k : Int) := by omega
  have b6 : (k : Int) < (G : Int) := by omega
  go_enter Try.func49, Try.ntmps49
  go_wp2
  go_quiet (fail)
  go_wp2
  go_ret
  exact ⟨rfl, nq, rfl⟩
end
/-- Get's answer -/
def getD (D : Doc Int) (id i : Int) : Int × Int := match rowAt D id with
  | none => (0, 14)
  | some (L, _) => if i < 0 ∨ (L.length : Int) ≤ i then (0, 10) else (L.getD i.toNat 0, 0)
theorem get_nil (w : World) (id i : Int) : Calls Try.prog 22 #[.pointer none, .int .i64 id, .int .i64 i] w fun e w' => e = .returned (.tuple #[(.int .i64 0), .int .i64 2]) ∧ w = w' := by
  go_enter Try.func22, Try.ntmps22
  go_wp2_with fail
  refine (row_nil w id).mono ?_
  rintro e w1 ⟨rfl, rfl⟩
  go_wp2
  go_ret2
  exact ⟨rfl, rfl⟩
section
variable {w : World} {τ : Tags} {g : Nat}
set_option maxHeartbeats 4000000 in
theorem getD_any {D : Doc Int} (h : Pool kind w τ g D) (id i : Int) : Calls Try.prog 22 #[.pointer (some ⟨g, 0, none⟩), .int .i64 id, .int .i64 i] w fun e w' => e = .returned (.tuple #[(.int .i64 (getD D id i).1), .int .i64 (getD D id i).2]) ∧ ∃ q, w' = w.drewN q := by
  obtain ⟨ly, pg, h0, hG⟩ := h
  cases hrow : rowAt D id with
  | none =>
    have e1 : getD D id i = (0, 14) := by unfold getD; rw [hrow]
    rw [e1]
    have HN := Lib.hid (rowAt_no hrow)
    have H0 := Lib.hid h0
    clear e1 hrow h0 hG
    go_enter Try.func22, Try.ntmps22
    go_wp2_with fail
    refine (row_no H0.out id HN.out).mono ?_
    rintro e w1 ⟨rfl, rfl⟩
    go_wp2
    go_ret2
    exact ⟨rfl, 0, rfl⟩
  | some r =>
    obtain ⟨L, P⟩ := r
    obtain ⟨k, rfl, hk⟩ := rowAt_yes hrow
    have e1 : getD D (k : Int) i = if i < 0 ∨ (L.length : Int) ≤ i then (0, 10) else (L.getD i.toNat 0, 0) := by unfold getD; rw [hrow]
    rw [e1]
    have hOK := hG.row k L P hk
    have hsh := hOK.short hG.s0
    have hL64 : L.length ≤ 16384 := Nat.le_trans hsh.2 (Nat.le_trans (Nat.mul_le_mul hG.p1 hG.s1) (by decide))
    have HOp := Lib.hid ((isOpen_roOf D.rows k).2 ⟨_, hk⟩)
    have HRo := Lib.hid (roOf_at hk)
    have H0 := Lib.hid h0
    obtain ⟨r0, _⟩ := h0.rowC HRo.out
    obtain ⟨rb, hrb⟩ : ∃ rb, ly.rb k = rb := ⟨_, rfl⟩
    rw [hrb] at r0
    have HRb := Lib.hid hrb
    obtain ⟨N, hN⟩ : ∃ N, L.length = N := ⟨_, rfl⟩
    rw [hN] at r0 hL64 ⊢
    by_cases h1 : i < 0
    · rw [if_pos (Or.inl h1)]
      have d1 : decide (i < 0) = true := by simpa using h1
      clear h0 hG hk hOK e1 hrow hN hrb
      go_enter Try.func22, Try.ntmps22
      go_wp2_with fail
      refine (row_yes H0.out k HOp.out).mono ?_
      rintro e w1 ⟨rfl, rfl⟩
      rw [HRb.out]
      go_wp2
      go_ret2
      exact ⟨rfl, 0, rfl⟩
    · have d1 : decide (i < 0) = false := by simpa using h1
      by_cases h2 : (N : Int) ≤ i
      · rw [if_pos (Or.inr h2)]
        have d2 : decide ((N : Int) ≤ i) = true := by simpa using h2
        clear h0 hG hk hOK e1 hrow hN hrb
        go_enter Try.func22, Try.ntmps22
        go_wp2_with fail
        refine (row_yes H0.out k HOp.out).mono ?_
        rintro e w1 ⟨rfl, rfl⟩
        rw [HRb.out]
        go_wp2
        go_ret2
        exact ⟨rfl, 0, rfl⟩
      · have d2 : decide ((N : Int) ≤ i) = false := by simpa using h2
        rw [if_neg (by omega)]
        obtain ⟨m, rfl⟩ := Int.eq_ofNat_of_zero_le (show 0 ≤ i by omega)
        have hm : m < N := by omega
        obtain ⟨x, hx⟩ : ∃ x, L[m]? = some x := ⟨_, List.getElem?_eq_getElem (by rw [hN]; exact hm)⟩
        obtain ⟨k2, c, q1, q2, q3⟩ := hOK.th m x hx
        have hxe : L.getD (m : Int).toNat 0 = x := by
          rw [show ((m : Int)).toNat = m from rfl, List.getD_eq_getElem?_getD, hx]; rfl
        have HX := Lib.hid hxe
        have HT := Lib.hid (thing_any h0 hG.s0 k _ P HRo.out m k2 c x q1 q2 q3 (by omega))
        rw [hrb] at HT
        clear h0 hG hk hOK e1 hrow hN hrb hx q1 q2 q3 hxe
        go_enter Try.func22, Try.ntmps22
        go_wp2_with fail
        refine (row_yes H0.out k HOp.out).mono ?_
        rintro e w1 ⟨rfl, rfl⟩
        rw [HRb.out]
        go_wp2_with fail
        refine HT.out.mono ?_
        rintro e w2 ⟨rfl, q, rfl⟩
        go_wp2
        go_ret2
        rw [HX.out]
        exact ⟨rfl, q, rfl⟩
end
end Go.Proofs.Ytcfhchdkohjbfaa.Kv.I
