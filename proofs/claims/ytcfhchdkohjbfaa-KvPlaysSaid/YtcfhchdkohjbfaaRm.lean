/- Pools of rows in pages: the document's Append of the law's, where no page is free that it wants. -/
import Derived.Test.YtcfhchdkohjbfaaRk
namespace Go.Proofs.Ytcfhchdkohjbfaa.Kv
set_option maxRecDepth 100000
open Go.ChangeShapes Go.WideShapes Go.ChangeAt Go.RowKit Go.Proofs.Ytcfhchdkohjbfaa.Tn
set_option maxHeartbeats 4000000 in
theorem append_full {w : World} {τ : Tags} {r : Nat} {D : Doc Int} (h : Ref w τ r D) (hl : Low D) (hp : D.pages ≤ 256) (k : Nat) (L : List Int) (P : List Nat) (hq : D.rows[k]? = some (some (L, P))) (hf : freeAt D = none) (c : Nat) (hc : cnt D.rows (lastP P) = c) (hcb : c ≤ 262144) (hw : 0 < L.length % D.size → 1 < c ∧ 0 < P.length) (hs0 : 1 ≤ D.size) (hs1 : D.size ≤ 64) (x : Int) :
    Calls Try.prog 35 #[.pointer (some ⟨r, 0, none⟩), .int .i64 (k : Int), .int .i64 x] w fun e w' => e = .returned (.int .i64 16) ∧ w = w' := by
  have hRt := right_ref h hl.1 (k : Int)
  rw [rightD_nat D k _ hq] at hRt
  have hCt := count_ref h hl (lastP P : Int)
  rw [cntZ_nat, hc] at hCt
  have hFi := first_ref h hl hp
  rw [show firstD D = -1 by unfold firstD; rw [hf]] at hFi
  obtain ⟨ly, h⟩ := h
  obtain ⟨c0, _, c2⟩ := h.cells
  obtain ⟨sr, cp, hv, _, _, hrow⟩ := h.slice
  obtain ⟨rfl, u0, u1, _⟩ := hrow k _ hq
  obtain ⟨r1, r2, r3, r4⟩ := h.row k L P hq
  obtain ⟨N, hN⟩ : ∃ N, D.rows.length = N := ⟨_, rfl⟩
  have hkN : k < N := by rw [← hN]; exact (List.getElem?_eq_some_iff.1 hq).1
  rw [hN] at hv
  rw [hv] at c0
  simp only [Option.isSome_some, if_true] at u0 u1
  obtain ⟨sp, cap, hlv, _⟩ := r1.sl
  obtain ⟨sg, cg, hpv, _, _, hat⟩ := nat_at r3
  rw [List.length_map] at hlv
  obtain ⟨n, hn⟩ : ∃ n, L.length = n := ⟨_, rfl⟩
  obtain ⟨m, hm⟩ : ∃ m, P.length = m := ⟨_, rfl⟩
  obtain ⟨s, hs⟩ : ∃ s, D.size = s := ⟨_, rfl⟩
  have hnb : n ≤ 16384 := by rw [← hn]; exact (hl.2 k L P hq).2
  have hmb : m ≤ 256 := by rw [← hm]; exact (hl.2 k L P hq).1
  have hlast := fun h0 : 0 < P.length => hat (P.length - 1) (lastP P) (lastP_at h0)
  rw [hm] at hlast hpv hw
  rw [hn, hs] at hw
  rw [hs] at c2 hs0 hs1
  rw [hn] at hlv
  rw [hlv] at u0
  rw [hpv] at u1
  obtain ⟨t, ht⟩ : ∃ t, n % s = t := ⟨_, rfl⟩
  rw [ht] at hw
  obtain ⟨la, hla⟩ : ∃ la, lastP P = la := ⟨_, rfl⟩
  rw [hla] at hCt hlast
  obtain ⟨b, hb⟩ : ∃ b, ly.b = b := ⟨_, rfl⟩
  rw [hb] at c0 u0 u1
  have HRt := Lib.hid hRt
  have HCt := Lib.hid hCt
  have HFi := Lib.hid hFi
  have b1 : (0 : Int) ≤ (k : Int) := by omega
  have b2 : (k : Int) < (N : Int) := by omega
  have hsz : (s : Int) ≠ 0 := by omega
  have hsz2 : ((s : Int) == 0) = false := by simp; omega
  have hrm : (n : Int).tmod (s : Int) = (t : Int) := by rw [← ht]; exact (Int.ofNat_tmod n s).symm
  by_cases h0 : t = 0
  · have ht0 : ((t : Int) == 0) = true := by simp; omega
    have HT0 := Lib.hid h0
    clear h hl hq hc hRt hCt hFi hv hrow r1 r2 r3 r4 hN hlv hpv hat hn hm hs ht hla hb hlast hw hf h0
    go_enter Try.func35, Try.ntmps35
    go_wp2_with fail
    refine HRt.out.mono ?_
    rintro e w9 ⟨rfl, rfl⟩
    go_wp2_with fail
    refine HFi.out.mono ?_
    rintro e w9 ⟨rfl, rfl⟩
    go_wp2
    go_ret
    exact ⟨rfl, rfl⟩
  · have ht0 : ((t : Int) == 0) = false := by simp; omega
    obtain ⟨hc1, hP0⟩ := hw (by omega)
    obtain ⟨cb, rfl, hlc⟩ := hlast hP0
    obtain ⟨j, hj⟩ : ∃ j, m = j + 1 := ⟨m - 1, by omega⟩
    rw [hj, Nat.add_sub_cancel] at hlc
    rw [hj] at u1
    have b3 : (0 : Int) ≤ (j : Int) := by omega
    have b4 : (j : Int) < ((j + 1 : Nat) : Int) := by omega
    have hw64 : wrap64 (j : Int) = (j : Int) := by unfold wrap64; omega
    have d1 : decide (1 < c) = true := by simpa using hc1
    have d2 : decide ((1 : Int) < (c : Int)) = true := by simp; omega
    clear h hl hq hc hRt hCt hFi hv hrow r1 r2 r3 r4 hN hlv hpv hat hn hm hs ht hla hb hlast hw hf hj
    go_enter Try.func35, Try.ntmps35
    go_wp2_with fail
    refine HRt.out.mono ?_
    rintro e w9 ⟨rfl, rfl⟩
    go_wp2_with fail
    refine HCt.out.mono ?_
    rintro e w9 ⟨rfl, rfl⟩
    go_wp2_with fail
    refine HFi.out.mono ?_
    rintro e w9 ⟨rfl, rfl⟩
    go_wp2
    go_ret
    exact ⟨rfl, rfl⟩
end Go.Proofs.Ytcfhchdkohjbfaa.Kv
