import Derived.Test.YtmolkbmdfkeniaaDoorWa
namespace Go.Proofs.YtmolkbmdfkeniaaDoor.Dr
set_option maxRecDepth 100000
open Go.ChangeShapes Go.WideShapes Go.ChangeAt Go.RowKit Go.Proofs.YtmolkbmdfkeniaaDoor.Tn

set_option maxHeartbeats 4000000 in
theorem picks_walk {Pk : List Int → Prop} (T : DrawOK E8 numV St8 Pk) (hP : Pk [3, 9, 9]) (w : World) (s : List Int) (sp : Option Addr) (cap N : Nat) (v : List Int) (k : Int) (hs : Seed s) (k1 : -9223372036854775808 ≤ k) (k2 : k ≤ 9223372036854775807) (hN : v.length = N) (hl : Nums w sp cap v) (hPv : Pk v) (he : E8 w) : Calls Tryd.prog 6 #[dgV s, .slice sp N cap, .int .i64 k] w fun e w' => e = .returned (.bool true) ∧ Below w.heap.size w w' := by
  have HZ := Lib.hid (row_dig hs.1)
  have HE := Lib.hid he
  have HT := Lib.hid T
  have HSd : Hid (Seed s) := Lib.hid hs
  have HPk : Hid (Pk [3, 9, 9]) := Lib.hid hP
  have HB0 : Hid (H1 w s (w.alloc (.cells (rowB s) 23))) := Lib.hid (H1.made w s)
  have HE0 := Lib.hid (HE.out.below HB0.out.below)
  have hNm : N ≤ 9223372036854775807 := by rw [← hN]; exact hl.len
  have hNc : (N : Int) ≤ mostC := by unfold mostC; omega
  have HL := Lib.hid hl
  have HN := Lib.hid hN
  change Calls Tryd.prog 6 #[.agg (rowB s), .slice sp N cap, .int .i64 k] w _
  have HNw := Lib.hid (fun W (h : E8 W) => T.new W s N h hs (by omega) hNc)
  by_cases hz : 600 < N
  · have d2 : decide ((600 : Int) < (N : Int)) = true := by simp; omega
    clear he T hs hP hN hl hPv hNc
    go_enter Tryd.func6, Tryd.ntmps6
    go_wp2_with (refine wpList_load_row rfl 23 (.tmp 3) rfl w.heap.size rfl 23 (rowB s) (0, 0) _ HB0.out.d Tryd.underlying23 rfl HZ.out ?_)
    refine (HNw.out _ HE0.out).mono ?_
    rintro e w2 ⟨g, rfl, hg, hs2, hb2⟩
    have H2' := Lib.hid (HB0.out.later hb2)
    have HE2 := Lib.hid (HE0.out.below hb2)
    clear hb2 hs2
    unfold ptV
    go_wp2_with fail
    refine (awake_any HT.out HPk.out _ HE2.out).mono ?_
    rintro e wa ⟨rfl, hba⟩
    have HBa := Lib.hid ((H2'.out.below).trans (hba.mono (H2'.out.below).size))
    clear hba
    go_wp2
    go_ret
    exact ⟨rfl, HBa.out⟩
  · have d2 : decide ((600 : Int) < (N : Int)) = false := by simp; omega
    have HCh := Lib.hid (fun W g h hS hq => T.pick W g s N sp cap v k h hS hq hPv k1 k2)
    rw [hN] at HCh
    have HRb := Lib.hid (fun W hq => rpick_any W s N sp cap N v k hs (by omega) hNc hN hq)
    have HFt := Lib.hid (pickD_fit (numV s) N v k hNc)
    obtain ⟨R, hR⟩ : ∃ R, pickD (numV s) N v k = R := ⟨_, rfl⟩
    rw [hR] at HCh HRb HFt
    obtain ⟨x, f, er⟩ := R
    dsimp only at HCh HFt
    have f1 := same_yes x
    have f2 := same_yes er
    have hf := HFt.out.2.1
    unfold mostC at hf
    have hwc := wrap_in (x := (N : Int) + (f : Int)) (by omega) (by omega)
    have f3 := same_yes ((N : Int) + (f : Int))
    clear he T hs hP hR hf hN hl hPv hNc
    go_enter Tryd.func6, Tryd.ntmps6
    go_wp2_with (refine wpList_load_row rfl 23 (.tmp 3) rfl w.heap.size rfl 23 (rowB s) (0, 0) _ HB0.out.d Tryd.underlying23 rfl HZ.out ?_)
    refine (HNw.out _ HE0.out).mono ?_
    rintro e w1 ⟨g, rfl, hg, hs1, hb1⟩
    have hgw : w.heap.size < g := Nat.lt_of_lt_of_le HB0.out.d.lt hg
    have HS1 := Lib.hid hs1
    have H1' := Lib.hid (HB0.out.later hb1)
    have HE1 := Lib.hid (HE0.out.below hb1)
    clear hb1 hs1
    unfold ptV
    go_wp2_with fail
    refine (HCh.out w1 g HE1.out HS1.out (HL.out.below H1'.out.below)).mono ?_
    rintro e w2 ⟨rfl, hs2, hg2⟩
    have HS2 := Lib.hid hs2
    have HE2 := Lib.hid (HT.out.grown _ _ _ _ _ HE1.out HS1.out hg2)
    have H2' := Lib.hid (H1'.out.grown hg2 hgw)
    clear hs2 hg2
    unfold two
    go_wp2_with (refine wpList_load_row rfl 23 (.tmp 3) rfl w.heap.size rfl 23 (rowB s) (0, 0) _ H2'.out.d Tryd.underlying23 rfl HZ.out ?_)
    refine (HRb.out w2 (HL.out.below H2'.out.below)).mono ?_
    rintro e w3 ⟨rfl, hb3⟩
    have HS3 := Lib.hid (HS2.out.later hb3)
    have H3' := Lib.hid (H2'.out.later hb3)
    have HE3 := Lib.hid (HE2.out.below hb3)
    clear hb3
    rw [three_eq]
    go_wp2_with fail
    refine (HT.out.count w3 g s _ HE3.out HS3.out).mono ?_
    rintro e w4 ⟨rfl, hb4⟩
    have H4' := Lib.hid (H3'.out.later hb4)
    have HE4 := Lib.hid (HE3.out.below hb4)
    clear hb4
    go_wp2_with fail
    refine (awake_any HT.out HPk.out _ HE4.out).mono ?_
    rintro e wa ⟨rfl, hba⟩
    have HBa := Lib.hid ((H4'.out.below).trans (hba.mono (H4'.out.below).size))
    clear hba
    go_wp2
    go_ret
    exact ⟨rfl, HBa.out⟩
end Go.Proofs.YtmolkbmdfkeniaaDoor.Dr
