import Derived.Test.YtmolkbmdfkeniaaDoorWa
namespace Go.Proofs.YtmolkbmdfkeniaaDoor.Dr
set_option maxRecDepth 100000
open Go.ChangeShapes Go.WideShapes Go.ChangeAt Go.RowKit Go.Proofs.YtmolkbmdfkeniaaDoor.Tn

set_option maxHeartbeats 4000000 in
theorem numbers_walk {Pk : List Int → Prop} (T : DrawOK E8 numV St8 Pk) (hP : Pk [3, 9, 9]) (w : World) (s : List Int) (c : Int) (hs : Seed s) (k1 : -9223372036854775808 ≤ c) (k2 : c ≤ 9223372036854775807) (he : E8 w) : Calls Tryd.prog 3 #[dgV s, .int .i64 c] w fun e w' => e = .returned (.bool true) ∧ Below w.heap.size w w' := by
  have HZ := Lib.hid (row_dig hs.1)
  have HE := Lib.hid he
  have HT := Lib.hid T
  have HSd : Hid (Seed s) := Lib.hid hs
  have HPk : Hid (Pk [3, 9, 9]) := Lib.hid hP
  have HB0 : Hid (H1 w s (w.alloc (.cells (rowB s) 23))) := Lib.hid (H1.made w s)
  have HE0 := Lib.hid (HE.out.below HB0.out.below)
  have HNu := Lib.hid (fun W (h : E8 W) => T.number W s c h hs k1 k2)
  have HRn := Lib.hid (fun W => refNumber_any W s c hs.1 hs.2 k1 k2)
  change Calls Tryd.prog 3 #[.agg (rowB s), .int .i64 c] w _
  by_cases hc : c < 0
  · have d1 := lt_yes hc
    rw [if_pos hc, if_pos hc] at HNu
    have HNw := Lib.hid (fun W (h : E8 W) => T.newNo W s c h hs k1 hc)
    clear he T hs hP hc
    go_enter Tryd.func3, Tryd.ntmps3
    go_wp2_with (refine wpList_load_row rfl 23 (.tmp 2) rfl w.heap.size rfl 23 (rowB s) (0, 0) _ HB0.out.d Tryd.underlying23 rfl HZ.out ?_)
    refine (HNu.out _ HE0.out).mono ?_
    rintro e w1 ⟨rfl, hb1⟩
    have H1' := Lib.hid (HB0.out.later hb1)
    have HE1 := Lib.hid (HE0.out.below hb1)
    clear hb1
    unfold two
    go_wp2_with (refine wpList_load_row rfl 23 (.tmp 2) rfl w.heap.size rfl 23 (rowB s) (0, 0) _ H1'.out.d Tryd.underlying23 rfl HZ.out ?_)
    refine (HNw.out _ HE1.out).mono ?_
    rintro e w2 ⟨rfl, hb2⟩
    have H2' := Lib.hid (H1'.out.later hb2)
    have HE2 := Lib.hid (HE1.out.below hb2)
    clear hb2
    go_wp2_with fail
    refine (awake_any HT.out HPk.out _ HE2.out).mono ?_
    rintro e wa ⟨rfl, hba⟩
    have HBa := Lib.hid ((H2'.out.below).trans (hba.mono (H2'.out.below).size))
    clear hba
    go_wp2
    go_ret
    exact ⟨rfl, HBa.out⟩
  · have d1 := lt_no hc
    rw [if_neg hc, if_neg hc] at HNu
    have HNw := Lib.hid (fun W (h : E8 W) => T.new W s c h hs (by omega) k2)
    obtain ⟨x, hx⟩ : ∃ x, numV s c = x := ⟨_, rfl⟩
    rw [hx] at HNu HRn
    have HX := Lib.hid hx
    have f1 := same_no x
    have f2 := same_yes x
    have f3 := same_no c
    clear he T hs hP hx
    go_enter Tryd.func3, Tryd.ntmps3
    go_wp2_with (refine wpList_load_row rfl 23 (.tmp 2) rfl w.heap.size rfl 23 (rowB s) (0, 0) _ HB0.out.d Tryd.underlying23 rfl HZ.out ?_)
    refine (HNu.out _ HE0.out).mono ?_
    rintro e w1 ⟨rfl, hb1⟩
    have H1' := Lib.hid (HB0.out.later hb1)
    have HE1 := Lib.hid (HE0.out.below hb1)
    clear hb1
    unfold two
    go_wp2_with (refine wpList_load_row rfl 23 (.tmp 2) rfl w.heap.size rfl 23 (rowB s) (0, 0) _ H1'.out.d Tryd.underlying23 rfl HZ.out ?_)
    refine (HNw.out _ HE1.out).mono ?_
    rintro e w2 ⟨g, rfl, hg, hs2, hb2⟩
    have hgw : w.heap.size < g := Nat.lt_of_lt_of_le H1'.out.d.lt hg
    have HS2 := Lib.hid hs2
    have H2' := Lib.hid (H1'.out.later hb2)
    have HE2 := Lib.hid (HE1.out.below hb2)
    clear hb2 hs2
    unfold ptV
    go_wp2_with (refine wpList_load_row rfl 23 (.tmp 2) rfl w.heap.size rfl 23 (rowB s) (0, 0) _ H2'.out.d Tryd.underlying23 rfl HZ.out ?_)
    refine (HRn.out _).mono ?_
    rintro e w3 ⟨rfl, hb3⟩
    have HS3 := Lib.hid (HS2.out.later hb3)
    have H3' := Lib.hid (H2'.out.later hb3)
    have HE3 := Lib.hid (HE2.out.below hb3)
    clear hb3
    go_wp2_with fail
    refine (HT.out.count w3 g s c HE3.out HS3.out).mono ?_
    rintro e w4 ⟨rfl, hb4⟩
    have HS4 := Lib.hid (HS3.out.later hb4)
    have H4' := Lib.hid (H3'.out.later hb4)
    have HE4 := Lib.hid (HE3.out.below hb4)
    clear hb4
    go_wp2_with fail
    refine (HT.out.next w4 g s c HE4.out HS4.out).mono ?_
    rintro e w5 ⟨rfl, hs5, hg5⟩
    have HE5 := Lib.hid (HT.out.grown _ _ _ _ _ HE4.out HS4.out hg5)
    have H5' := Lib.hid (H4'.out.grown hg5 hgw)
    clear hg5
    rw [HX.out]
    by_cases hm : c = mostC
    · rw [if_pos hm] at hs5
      rw [if_pos hm, if_pos hm]
      have HS5 := Lib.hid hs5
      have e1 : (c == 9223372036854775807) = true := by rw [hm]; rfl
      clear hs5 hm
      unfold two
      go_wp2_with fail
      refine (HT.out.count w5 g s c HE5.out HS5.out).mono ?_
      rintro e w6 ⟨rfl, hb6⟩
      have H6' := Lib.hid (H5'.out.later hb6)
      have HE6 := Lib.hid (HE5.out.below hb6)
      clear hb6
      go_wp2_with fail
      refine (awake_any HT.out HPk.out _ HE6.out).mono ?_
      rintro e wa ⟨rfl, hba⟩
      have HBa := Lib.hid ((H6'.out.below).trans (hba.mono (H6'.out.below).size))
      clear hba
      go_wp2
      go_ret
      exact ⟨rfl, HBa.out⟩
    · rw [if_neg hm] at hs5
      rw [if_neg hm, if_neg hm]
      have HS5 := Lib.hid hs5
      unfold mostC at hm
      have e1 : (c == 9223372036854775807) = false := by simpa using hm
      have hwc := wrap_in (x := c + 1) (by omega) (by omega)
      have f4 := same_yes (c + 1)
      clear hs5 hm
      unfold two
      go_wp2_with fail
      refine (HT.out.count w5 g s (c + 1) HE5.out HS5.out).mono ?_
      rintro e w6 ⟨rfl, hb6⟩
      have H6' := Lib.hid (H5'.out.later hb6)
      have HE6 := Lib.hid (HE5.out.below hb6)
      clear hb6
      go_wp2_with fail
      refine (awake_any HT.out HPk.out _ HE6.out).mono ?_
      rintro e wa ⟨rfl, hba⟩
      have HBa := Lib.hid ((H6'.out.below).trans (hba.mono (H6'.out.below).size))
      clear hba
      go_wp2
      go_ret
      exact ⟨rfl, HBa.out⟩
end Go.Proofs.YtmolkbmdfkeniaaDoor.Dr
