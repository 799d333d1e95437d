import Derived.Test.YtmolkbmdfkeniaaDoorRn
import Derived.Test.YtmolkbmdfkeniaaDoorNg
namespace Go.Proofs.YtmolkbmdfkeniaaDoor.Dr
set_option maxRecDepth 100000
open Go.ChangeShapes Go.WideShapes Go.ChangeAt Go.RowKit Go.Proofs.YtmolkbmdfkeniaaDoor.Tn

/-! ### the document's answer: Below -/
def three (R : Int × Nat × Int) : Value := .tuple #[.int .i64 R.1, .int .i64 (R.2.1 : Int), .int .i64 R.2.2]
theorem three_eq (x e : Int) (f : Nat) : three (x, f, e) = .tuple #[.int .i64 x, .int .i64 (f : Int), .int .i64 e] := rfl
set_option maxHeartbeats 4000000 in
theorem rbelow_any (w : World) (s : List Int) (c n : Int) (hs : Seed s) (h0 : 0 ≤ c) (h1 : c ≤ mostC) (n1 : -9223372036854775808 ≤ n) (n2 : n ≤ 9223372036854775807) :
    Calls Tryd.prog 18 #[dgV s, .int .i64 c, .int .i64 n] w fun e w' => e = .returned (three (belowD (numV s) c n)) ∧ Below w.heap.size w w' := by
  have HZ := Lib.hid (row_dig hs.1)
  have HB0 : Hid (H1 w s (w.alloc (.cells (rowB s) 23))) := Lib.hid (H1.made w s)
  have HNu := Lib.hid (fun W d (d1 : -9223372036854775808 ≤ d) (d2 : d ≤ 9223372036854775807) => refNumber_any W s d hs.1 hs.2 d1 d2)
  change Calls Tryd.prog 18 #[.agg (rowB s), .int .i64 c, .int .i64 n] w _
  unfold mostC at h1
  by_cases hn : n < 1
  · have hD : belowD (numV s) c n = (0, 0, 10) := by unfold belowD; rw [if_pos hn]
    rw [hD]
    have d1 : decide (n < 1) = true := by simpa using hn
    clear hD hn hs
    go_enter Tryd.func18, Tryd.ntmps18
    go_wp2
    go_ret3
    exact ⟨rfl, HB0.out.below⟩
  · have hD : belowD (numV s) c n = belowT (numV s) c n 64 0 := by unfold belowD; rw [if_neg hn]
    rw [hD]
    have d1 : decide (n < 1) = false := by simpa using hn
    have hn1 : 1 ≤ n := by omega
    obtain ⟨R, hR⟩ : ∃ R, belowT (numV s) c n 64 0 = R := ⟨_, rfl⟩
    rw [hR]
    have HR : Hid (belowT (numV s) c n (64 - 0) 0 = R) := Lib.hid hR
    have hnz : (n == 0) = false := by simp; omega
    clear hD hR hs hn
    go_enter Tryd.func18, Tryd.ntmps18
    go_wp2
    go_loopw [9] (fun i wr => ∃ k : Nat, k ≤ 64 ∧ i = .int .i64 k ∧ H1 w s wr ∧ belowT (numV s) c n (64 - k) k = R) (fun i _ => 64 - (intOf i).toNat)
    case atStart => exact ⟨0, by omega, rfl, HB0.out, HR.out⟩
    case round =>
      clear HR
      obtain ⟨k, hk, rfl, hH, hR⟩ := hrel
      have HHk := Lib.hid hH
      have HRk := Lib.hid hR
      clear hH hR
      by_cases hlt : k < 64
      · have hdt : decide ((k : Int) < 64) = true := by simp; omega
        have hGo := (belowT_go (numV s) c n k hlt).symm.trans HRk.out
        by_cases hm : 9223372036854775806 - (k : Int) < c
        · have e1 : decide (9223372036854775806 - (k : Int) < c) = true := by simpa using hm
          rw [if_pos (by unfold mostC; omega)] at hGo
          subst hGo
          clear HRk hm
          go_wp2
          go_ret3
          exact ⟨rfl, HHk.out.below⟩
        · have e1 : decide (9223372036854775806 - (k : Int) < c) = false := by simpa using hm
          rw [if_neg (by unfold mostC; omega)] at hGo
          have hwa : IntKind.i64.wrap (c + (k : Int)) = c + (k : Int) := IntWalk.i64_in _ (by omega)
          have HNk := Lib.hid (fun W => HNu.out W (c + (k : Int)) (by omega) (by omega))
          have hxi := numV_in s (c + (k : Int))
          obtain ⟨x, hx⟩ : ∃ x, numV s (c + (k : Int)) = x := ⟨_, rfl⟩
          rw [hx] at HNk hGo hxi
          obtain ⟨x1, x2⟩ := hxi
          have htm : x.tmod n = x % n := Int.tmod_eq_emod_of_nonneg x1
          have hr0 := Int.emod_nonneg x (show n ≠ 0 by omega)
          have hr1 := Int.emod_lt_of_pos x (show 0 < n by omega)
          have hr2 : x % n ≤ x := by
            have h6 : 0 ≤ n * (x / n) := Int.mul_nonneg (by omega) (Int.ediv_nonneg x1 (by omega))
            have h7 := Int.mul_ediv_add_emod x n
            omega
          have hbk : bOk x n ↔ x - x % n ≤ 9223372036854775807 - (n - 1) := Iff.rfl
          obtain ⟨r, hr⟩ : ∃ r, x % n = r := ⟨_, rfl⟩
          rw [hr] at htm hr0 hr1 hr2 hbk hGo
          have HGo := Lib.hid hGo
          have hwr : IntKind.i64.wrap r = r := IntWalk.i64_in _ (by omega)
          have hw2 : IntKind.i64.wrap (x - r) = x - r := IntWalk.i64_in _ (by omega)
          have hw3 : IntKind.i64.wrap (n - 1) = n - 1 := IntWalk.i64_in _ (by omega)
          have hw4 : IntKind.i64.wrap (9223372036854775807 - (n - 1)) = 9223372036854775807 - (n - 1) := IntWalk.i64_in _ (by omega)
          clear hx hr hGo hm HRk
          by_cases hb : x - r ≤ 9223372036854775807 - (n - 1)
          · have e2 : decide (x - r ≤ 9223372036854775807 - (n - 1)) = true := by simpa using hb
            have hGo := HGo.out
            rw [if_pos (hbk.2 hb)] at hGo
            have HGo2 := Lib.hid hGo
            clear HGo hGo hb hbk
            go_wp2_with (refine wpList_load_row rfl 23 (.tmp 3) rfl w.heap.size rfl 23 (rowB s) (0, 0) _ HHk.out.d Tryd.underlying23 rfl HZ.out ?_)
            refine (HNk.out _).mono ?_
            rintro e w3 ⟨rfl, hb3⟩
            have HB3 := Lib.hid (HHk.out.below.trans (hb3.mono HHk.out.below.size))
            clear hb3
            go_wp2
            go_ret3
            exact ⟨by rw [← HGo2.out]; rfl, HB3.out⟩
          · have e2 : decide (x - r ≤ 9223372036854775807 - (n - 1)) = false := by simpa using hb
            have hGo := HGo.out
            rw [if_neg (fun h => hb (hbk.1 h))] at hGo
            have HGo2 := Lib.hid hGo
            clear HGo hGo hb hbk
            go_wp2_with (refine wpList_load_row rfl 23 (.tmp 3) rfl w.heap.size rfl 23 (rowB s) (0, 0) _ HHk.out.d Tryd.underlying23 rfl HZ.out ?_)
            refine (HNk.out _).mono ?_
            rintro e w3 ⟨rfl, hb3⟩
            have HH3 := Lib.hid (HHk.out.later hb3)
            clear hb3
            go_wp2
            go_roundw
            case rel => exact ⟨k + 1, by omega, by go_num, HH3.out, HGo2.out⟩
            case measure => simp [intOf]; omega
      · obtain rfl : k = 64 := by omega
        have hdt : decide (((64 : Nat) : Int) < 64) = false := by decide
        have hRv := HRk.out
        rw [show 64 - 64 = 0 from rfl, belowT] at hRv
        subst hRv
        clear hlt hk HRk
        go_wp2
        go_ret3
        exact ⟨rfl, HHk.out.below⟩
end Go.Proofs.YtmolkbmdfkeniaaDoor.Dr
