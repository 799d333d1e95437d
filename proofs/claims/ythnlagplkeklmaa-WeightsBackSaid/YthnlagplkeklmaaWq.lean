import Derived.Test.YthnlagplkeklmaaOm
import Derived.Test.YthnlagplkeklmaaOn
import Derived.Test.YthnlagplkeklmaaWy
namespace Go.Proofs.Ythnlagplkeklmaa.Wg
set_option maxRecDepth 100000
open Go.ChangeShapes Go.WideShapes Go.ChangeAt Go.RowKit Go.Shelf Go.Proofs.Ythnlagplkeklmaa.Tn
attribute [local go_sem] Oper.semAt_some

/-! ### WeightsOwn -/
theorem few_m {w : World} {v : Wv} {m : Md} (hv : WvOK w v m) (hF : FewV v m) (hE : m.chk = 0) : FewM m := by
  obtain ⟨h1, h2, h3, h4, h5, h6, h7⟩ := hF
  obtain ⟨hH, _⟩ := chk_zero hE
  obtain ⟨hck, _, _, hnl⟩ := headE_zero hH
  obtain ⟨V, D, I, e, _, _, _, k1, k2, k3, k4, k5, k6⟩ := cfg_blks (Cfg.ok_of_chk hck)
  refine ⟨by rw [← hv.na]; exact h1, by rw [← hv.np]; exact h2, fun b hb => ?_⟩
  rw [e] at hb
  unfold Md.part
  rcases blks_okL hb with ⟨q1, _⟩ | ⟨q1, _⟩ | ⟨q1, _⟩ | ⟨q1, q2, q3⟩
  · rw [if_pos q1, ← hv.ne]; exact h4
  · rw [if_neg (by omega), if_pos q1]
    dsimp only
    rw [← hv.nn]; omega
  · rw [if_neg (by omega), if_neg (by omega), if_pos q1, ← hv.no]; exact h5
  · rw [if_neg (by omega), if_neg (by omega), if_neg (by omega)]
    exact h7 _ _ (by rw [hv.nl]; omega) q2 q3
/-- bytes that are written over, one by one -/
structure OwI (W : World) (bb cap N : Nat) (wr : World) : Prop where
  fr : Fr (fun j => j = bb) W.heap.size W wr
  row : ∃ cur, wr.heap[bb]? = some (.cells cur 5 (0, 0)) ∧ cur.size = cap ∧ ∀ j, j < N → ∃ z, cur[j]? = some (.int .u8 z)
theorem OwI.cell {W wr : World} {bb cap N i : Nat} (h : OwI W bb cap N wr) (hi : i < N) : ∃ z, wr.cell? ⟨bb, i, none⟩ = some (.int .u8 z) ∧ wr.frozen? ⟨bb, i, none⟩ = false := by
  obtain ⟨cur, h1, h2, h3⟩ := h.row
  obtain ⟨z, hz⟩ := h3 i hi
  exact ⟨z, by rw [cell_of_row _ _ _ _ _ _ h1]; exact hz, by simp [World.frozen?, h1]⟩
theorem OwI.set {W wr : World} {bb cap N i : Nat} (h : OwI W bb cap N wr) (z : Int) : OwI W bb cap N (wr.setCell ⟨bb, i, none⟩ (.int .u8 z)) := by
  obtain ⟨cur, h1, h2, h3⟩ := h.row
  refine ⟨h.fr.trans (Fr.setCell _ (Or.inr rfl)), _, heap_setCell_row h1, by simp [h2], fun j hj => ?_⟩
  by_cases e : i = j
  · subst e
    obtain ⟨z0, hz⟩ := h3 i hj
    have hlt := (Array.getElem?_eq_some_iff.1 hz).1
    exact ⟨z, by simp [hlt]⟩
  · obtain ⟨z0, hz⟩ := h3 j hj
    exact ⟨z0, by rw [Array.getElem?_setIfInBounds_ne e]; exact hz⟩
set_option maxHeartbeats 8000000 in
theorem own_walk (w : World) (v : Wv) (m : Md) (hv : WvOK w v m) (hi : i64 (flatP m.ps)) : Calls Try.prog 6 #[.agg v.cells] w fun e w' => e = .returned (.bool true) ∧ Below w.heap.size w w' := by
  have HX := Lib.hid (FwI.new w v)
  have HV := Lib.hid hv
  have HI := Lib.hid hi
  clear hv hi
  go_enter Try.func6, Try.ntmps6
  go_wp2_with (refine wpList_load_row rfl 31 (.tmp 1) rfl w.heap.size rfl 31 v.cells (0, 0) _ HX.out.row Try.underlying31 rfl size_wts ?_)
  refine (few_any _ v m (HV.out.later HX.out.below)).mono ?_
  rintro e w1 ⟨b, rfl, hb1, hf⟩
  have HX1 := Lib.hid (HX.out.later hb1)
  clear hb1 HX
  cases b with
  | false =>
    clear hf
    go_wp2_with (go_at_call 9; refine (awake_any _).mono ?_; rintro e w2 ⟨rfl, hb2⟩; have HB2 := Lib.hid hb2; clear hb2)
    go_ret
    exact ⟨rfl, (HX1.out.later HB2.out).below⟩
  | true =>
    have HF := Lib.hid (hf rfl)
    clear hf
    have hal : m.al.length ≤ 300 := by have := HF.out.1; rw [← HV.out.na]; exact this
    have hps : m.ps.length ≤ 60 := by have := HF.out.2.1; rw [← HV.out.np]; exact this
    by_cases hE : m.chk = 0
    · have hfm := few_m HV.out HF.out hE
      have hbl := few_bytes hE hfm
      obtain ⟨hrok, hsame⟩ := read_back hE
      have HC := Lib.hid (encode_anyB w1 v m (HV.out.later HX1.out.below) (by omega) (by omega) hE (by omega))
      have HPc := Lib.hid (fun W s q (h : Cd.Bytes W s q (Cd.join (leavesD m))) => parse_back W s q _ m hE hfm HI.out rfl h)
      have HM : Hid ((mdR m.cfg m.al m.ps (leavesT m)).chk = 0 ∧ leavesD (mdR m.cfg m.al m.ps (leavesT m)) = leavesD m ∧ (mdR m.cfg m.al m.ps (leavesT m)).cfg.chk = 0) := Lib.hid ⟨by rw [← hsame.chk]; exact hE, hsame.leaves.symm, hrok.1⟩
      have HA : Hid ((mdR m.cfg m.al m.ps (leavesT m)).al = m.al ∧ (mdR m.cfg m.al m.ps (leavesT m)).ps = m.ps ∧ (mdR m.cfg m.al m.ps (leavesT m)).n = (mdR m.cfg m.al m.ps (leavesT m)).cfg.l.toNat) := Lib.hid ⟨rfl, rfl, rfl⟩
      have hpos : 0 < (Cd.join (leavesD m)).length := by rw [leavesD_eq, Cd.join_cons, List.length_append, Cd.be_length]; omega
      obtain ⟨M, hM⟩ : ∃ M, mdR m.cfg m.al m.ps (leavesT m) = M := ⟨_, rfl⟩
      rw [hM] at HM HA HPc
      obtain ⟨lb, hlb⟩ : ∃ lb, Cd.join (leavesD m) = lb := ⟨_, rfl⟩
      have HJ : Hid (Cd.join (leavesD M) = lb) := Lib.hid (by rw [HM.out.2.1]; exact hlb)
      rw [hlb] at HC HPc hbl hpos
      obtain ⟨N, hN⟩ : ∃ N, lb.length = N := ⟨_, rfl⟩
      have HN := Lib.hid hN
      rw [hN] at HC HPc hbl hpos
      have HAl := Lib.hid hal
      have HPs := Lib.hid hps
      have hNb : N ≤ 1000000 := by omega
      have HNb := Lib.hid hNb
      have HPos := Lib.hid hpos
      clear hal hps hfm hbl hrok hsame hM hlb hN hE hpos hNb
      go_upto_region 7 with (first
        | (refine wpList_load_row rfl 31 (.tmp 1) rfl w.heap.size rfl 31 v.cells (0, 0) _ HX1.out.row Try.underlying31 rfl size_wts ?_)
        | (go_at_call 10; refine HC.out.mono ?_; rintro e w2 ⟨sp, cap, rfl, hby, hb2, how⟩; have HX2 := Lib.hid (HX1.out.later hb2); have HBy := Lib.hid hby; have HOw := Lib.hid how; clear hb2 hby how)
        | (go_at_call 13; refine (HPc.out w2 sp cap HBy.out).mono ?_; rintro e w3 ⟨u, n2, β, rfl, hwv, hod, hn2, ⟨ga, hga, hga1, hga2⟩, ⟨d, hd, hd1, hd2⟩, hb3⟩; have HX3 := Lib.hid (HX2.out.later hb3); have HB3 := Lib.hid hb3; have HWv := Lib.hid hwv; have HOd := Lib.hid hod; have HN2 := Lib.hid hn2; have HGa := Lib.hid (And.intro hga (And.intro hga1 hga2)); have HDd := Lib.hid (And.intro hd (And.intro hd1 hd2)); clear hwv hod hn2 hga hga1 hga2 hd hd1 hd2 hb3)
        | (refine wpList_store_newW rfl 31 (.tmp 5) (.tmp 32) rfl u.cells zeroC 31 rfl rfl rfl size_wts rfl (wv_one u) ?_))
      obtain ⟨bb, cur, hsp, hbb, hcur, hcs⟩ : ∃ bb cur, sp = some ⟨bb, 0, none⟩ ∧ bb < w2.heap.size ∧ w2.heap[bb]? = some (.cells cur 5 (0, 0)) ∧ cur.size = cap ∧ w1.heap.size ≤ bb := by
        rcases HOw.out.2 with ⟨e, h0⟩ | ⟨g', cap', cur, e, h3, h4, _, _, h5, _⟩
        · exact absurd h0 (by have := HPos.out; omega)
        · injection e with e1 _ e2
          exact ⟨g', cur, e1, (Array.getElem?_eq_some_iff.1 h4).1, h4, by rw [e2, h5, Nat.mul_one], h3⟩
      subst hsp
      have hal4 := HB3.out.trans (((Below.refl w3.heap.size w3).alloc (Nat.le_refl _) (.cells u.cells 31)).mono HB3.out.size)
      have hal3 : Below w3.heap.size w3 (w3.alloc (.cells u.cells 31)) := (Below.refl _ _).alloc (Nat.le_refl _) _
      have HX4 := Lib.hid (HX3.out.later hal3)
      have HBy4 := Lib.hid (HBy.out.below hal4)
      have HRw4 := Lib.hid ((hal4.block bb hbb).trans hcur)
      have HWv4 := Lib.hid (HWv.out.later hal3)
      have HXr4 := Lib.hid (heap_alloc_new w3 (.cells u.cells 31))
      have HOd4 : Hid (Owned (w3.alloc (.cells u.cells 31)) n2 u M β) := Lib.hid (owned_same HWv.out HOd.out HM.out.2.2 HA.out.2.2 (fun h0 c o e => by
        obtain ⟨c', o', e', hl⟩ := HWv.out.al.sl.lies (by simpa using h0)
        rw [e] at e'
        cases e'
        have := block_lt_of_cell (hl 0 _ (List.getElem?_eq_getElem (by simpa using h0)))
        exact hal3.block _ this) (fun h0 c o e => by
        obtain ⟨c', o', e', hl⟩ := HWv.out.ps.lies h0
        rw [e] at e'
        cases e'
        have := block_lt_of_cell (hl 0 h0 0 _ rfl)
        exact hal3.block _ this) (fun lb' e => by
        obtain ⟨lb2, e2, _, cs, hcs2⟩ := HOd.out.sl
        rw [e] at e2
        cases e2
        exact hal3.block _ (Array.getElem?_eq_some_iff.1 hcs2).1) (fun i hi => by
        obtain ⟨_, ⟨cs, hcs2⟩, _⟩ := HOd.out.rows i _ (List.getElem?_eq_getElem hi)
        exact hal3.block _ (Array.getElem?_eq_some_iff.1 hcs2).1)).2
      have HPl : Hid (bb < w2.heap.size ∧ w2.heap.size ≤ w3.heap.size ∧ cur.size = cap ∧ w.heap.size < bb) := Lib.hid ⟨hbb, HB3.out.size, hcs.1, Nat.lt_of_lt_of_le (Array.getElem?_eq_some_iff.1 HX1.out.row).1 hcs.2⟩
      obtain ⟨xb, hxb⟩ : ∃ xb, w3.heap.size = xb := ⟨_, rfl⟩
      obtain ⟨W4, hW4⟩ : ∃ W4, w3.alloc (.cells u.cells 31) = W4 := ⟨_, rfl⟩
      have HSz4 : Hid (W4.heap.size = xb + 1) := Lib.hid (by rw [← hW4, ← hxb]; simp)
      rw [hW4] at HX4 HBy4 HRw4 HWv4 HXr4 HOd4 ⊢
      rw [hxb] at HXr4 HPl ⊢
      clear hW4 hxb hbb hcur hcs hal4 hal3 HX3 HB3 HWv HOd HBy HOw HC HPc HX2
      go_upto_region 9 with (refine Bp.wpList_app_byts rfl (.tmp 34) (.tmp 35) rfl rfl (some ⟨bb, 0, none⟩) cap N lb rfl HN.out (bytsOf HBy4.out) HNb.out ?_; intro sp' cap' W5 hb5 hby5 hbk5; have HB5 := Lib.hid hb5; have HBy5 := Lib.hid hby5; have HBk5 := Lib.hid hbk5; clear hb5 hby5 hbk5)
      have ho0 : OwI W5 bb cap N W5 := ⟨Fr.refl _ _ _, cur, (HB5.out.block _ (by have := HPl.out; have := HSz4.out; omega)).trans HRw4.out, HPl.out.2.2.1, fun j hj => by
        have h1 := (HBy4.out.at_ j (by rw [HN.out]; exact hj))
        obtain ⟨c', o', e, h2⟩ := h1
        cases e
        rw [cell_of_row _ _ _ _ _ _ HRw4.out, Nat.zero_add] at h2
        exact ⟨_, h2⟩⟩
      have HO0 := Lib.hid ho0
      clear ho0
      go_wp2
      go_loopw [8] (fun iv wr => ∃ i : Nat, i ≤ N ∧ iv = .int .i64 (i : Int) ∧ OwI W5 bb cap N wr) (fun iv _ => N - (intOf iv).toNat)
      case atStart => exact ⟨0, by omega, rfl, HO0.out⟩
      case round =>
      obtain ⟨i, hi, rfl, hoi⟩ := hrel
      have HOi := Lib.hid hoi
      clear hoi
      by_cases hlt : i < N
      · have d1 : decide (i < N) = true := by simp; omega
        obtain ⟨z, c1, f1⟩ := HOi.out.cell hlt
        have hw5 : IntKind.i64.wrap ((i : Int) + 1) = (i : Int) + 1 := IntWalk.i64_in _ (by have := HNb.out; omega)
        go_wp2
        go_roundw
        case rel => exact ⟨i + 1, by omega, by go_num, HOi.out.set _⟩
        case measure => simp [intOf]; omega
      · obtain rfl : i = N := by omega
        have d1 : decide (i < i) = false := by simp
        clear hlt hi
        have hsame : ∀ j, j < W4.heap.size → j ≠ bb → wr.heap[j]? = W4.heap[j]? := fun j hj hne => (HOi.out.fr.block j (Nat.lt_of_lt_of_le hj HB5.out.size) hne).trans (HB5.out.block j hj)
        have hwr : WvOK wr u M := (owned_same HWv4.out HOd4.out HM.out.2.2 HA.out.2.2 (fun h0 c o e => by
          obtain ⟨c', o', e', hl⟩ := HWv4.out.al.sl.lies (by simpa using h0)
          have e3 := HGa.out.1
          rw [e] at e' e3
          cases e'
          cases e3
          have := block_lt_of_cell (hl 0 _ (List.getElem?_eq_getElem (by simpa using h0)))
          exact hsame _ this (by have := HGa.out.2.1; have := HPl.out; omega)) (fun h0 c o e => by
          obtain ⟨c', o', e', hl⟩ := HWv4.out.ps.lies h0
          have e3 := HDd.out.1
          rw [e] at e' e3
          cases e'
          cases e3
          have := block_lt_of_cell (hl 0 h0 0 _ rfl)
          exact hsame _ this (by have := HDd.out.2.1; have := HPl.out; omega)) (fun lb' e => by
          obtain ⟨lb2, e2, _, cs, hcs2⟩ := HOd4.out.sl
          rw [e] at e2
          cases e2
          refine hsame _ (Array.getElem?_eq_some_iff.1 hcs2).1 fun e4 => ?_
          have h9 := HRw4.out
          rw [← e4, hcs2] at h9
          injection h9 with h9
          injection h9 with _ h9
          exact absurd h9 (by decide)) (fun j hj => by
          obtain ⟨h2, ⟨cs, hcs2⟩, _⟩ := HOd4.out.rows j _ (List.getElem?_eq_getElem hj)
          exact hsame _ (Array.getElem?_eq_some_iff.1 hcs2).1 (by have := HN2.out; have := HPl.out; omega))).1
        have HXr : Hid (FwI w v wr) := Lib.hid ⟨(HX4.out.below.trans (HB5.out.mono HX4.out.below.size)).trans (HOi.out.fr.below (Nat.le_trans HX4.out.below.size HB5.out.size) (fun j hj e => by have := HPl.out; omega)), (hsame _ (Array.getElem?_eq_some_iff.1 HX4.out.row).1 (by have := HPl.out; omega)).trans HX4.out.row⟩
        have HXb : Hid (wr.heap[xb]? = some (.cells u.cells 31 (0, 0))) := Lib.hid ((hsame _ (Array.getElem?_eq_some_iff.1 HXr4.out).1 (by have := HPl.out; omega)).trans HXr4.out)
        have HOwn : Hid (Cd.Bytes wr sp' cap' lb) := Lib.hid (cdBytes ⟨sl_same HBy5.out.sl (fun h0 c o e => by
          rcases HBk5.out with h | ⟨b', e', hge, _⟩
          · have := HPos.out; omega
          · rw [e] at e'
            cases e'
            obtain ⟨c2, o2, e2, hl⟩ := HBy5.out.sl.lies h0
            cases (e.symm.trans e2)
            have := block_lt_of_cell (hl 0 _ (List.getElem?_eq_getElem h0))
            exact HOi.out.fr.block _ this (by have := HPl.out; have := HSz4.out; omega)), HBy5.out.rng⟩)
        have HEn := Lib.hid (encode_any wr u M hwr (by rw [HA.out.1]; have := HAl.out; omega) (by rw [HA.out.2.1]; have := HPs.out; omega) HM.out.1 (by rw [HJ.out, HN.out]; exact HNb.out))
        rw [HJ.out, HN.out] at HEn
        have HWr := Lib.hid hwr
        have HNp : Hid (M.ps.length = u.np ∧ u.np = v.np ∧ u.np ≤ 1000000) := Lib.hid ⟨hwr.np.symm, by rw [hwr.np, HV.out.np, HA.out.2.1], by rw [hwr.np, HA.out.2.1]; have := HPs.out; omega⟩
        have n5 : ((u.np : Int) == (v.np : Int)) = true := by rw [HNp.out.2.1]; simp
        clear hsame hwr HX4 HB5 HOi HO0 HWv4 HOd4 HBy4 HBy5 HBk5 HRw4 HXr4
        go_wp2_with (first
          | (refine wpList_load_row rfl 31 (.tmp 5) rfl xb rfl 31 u.cells (0, 0) _ HXb.out Try.underlying31 rfl size_wts ?_)
          | (go_at_call 10; refine HEn.out.mono ?_; rintro e w6 ⟨sp6, cap6, rfl, hby6, hb6⟩; have HX6 := Lib.hid (HXr.out.later hb6); have HBy6 := Lib.hid hby6; have HOwn6 := Lib.hid (HOwn.out.below hb6); have HPs6 := Lib.hid (HWr.out.ps.below hb6); have c7 : w6.cell? ⟨xb, 7, none⟩ = some (.slice u.sp u.np u.cp) := (by rw [cell_of_row _ _ _ _ _ _ ((hb6.block _ (Array.getElem?_eq_some_iff.1 HXb.out).1).trans HXb.out)]; rfl); clear hb6 hby6)
          | (refine Bp.wpList_app_prs rfl (.tmp 56) (.tmp 58) rfl rfl u.sp u.cp u.np M.ps rfl HNp.out.1 HPs6.out HNp.out.2.2 ?_; intro sp7 cap7 w7 hb7 _ _; have HX7 := Lib.hid (HX6.out.later hb7); have HBy7 := Lib.hid (HBy6.out.below hb7); have HOwn7 := Lib.hid (HOwn6.out.below hb7); clear hb7)
          | (go_at_call 18; refine (Cd.bytes_any _ sp6 sp' i i cap6 cap' lb lb HN.out HN.out HBy7.out HOwn7.out).mono ?_; rintro e w8 ⟨rfl, q8, rfl⟩; have HX8 : Hid (FwI w v (w7.drewN q8)) := Lib.hid (HX7.out.later (drawn_below q8)); have c8 : (w7.drewN q8).cell? ⟨w.heap.size, 7, none⟩ = some (.slice v.sp v.np v.cp) := HX8.out.cell 7)
          | (go_at_call 9; refine (awake_any _).mono ?_; rintro e w9 ⟨rfl, hb9⟩; have HB9 := Lib.hid hb9; clear hb9))
        go_ret
        exact ⟨rfl, (HX8.out.later HB9.out).below⟩
    · have HC := Lib.hid (encode_no w1 v m (HV.out.later HX1.out.below) (by omega) (by omega) hE)
      obtain ⟨E, hEE⟩ : ∃ E, m.chk = E := ⟨_, rfl⟩
      rw [hEE] at HC hE
      have n1 : (E == 0) = false := by simpa using hE
      have n2 : (E != 0) = true := by simpa using hE
      clear hal hps hE hEE
      go_wp2_with (first
        | (refine wpList_load_row rfl 31 (.tmp 1) rfl w.heap.size rfl 31 v.cells (0, 0) _ HX1.out.row Try.underlying31 rfl size_wts ?_)
        | (go_at_call 10; refine HC.out.mono ?_; rintro e w2 ⟨rfl, hb2⟩; have HX2 := Lib.hid (HX1.out.later hb2); clear hb2)
        | (go_at_call 9; refine (awake_any _).mono ?_; rintro e w3 ⟨rfl, hb3⟩; have HB3 := Lib.hid hb3; clear hb3))
      go_ret
      exact ⟨rfl, (HX2.out.later HB3.out).below⟩
end Go.Proofs.Ythnlagplkeklmaa.Wg
