import Derived.Test.YtkfkjapkcjidnaaRe
import Derived.Test.YtkfkjapkcjidnaaRf
import Derived.Deep.DeepCutAuto
namespace Go.Proofs.Ytkfkjapkcjidnaa.Wg
set_option maxRecDepth 100000
open Go.ChangeShapes Go.WideShapes Go.ChangeAt Go.RowKit Go.Shelf Go.Proofs.Ytkfkjapkcjidnaa.Tn
attribute [local go_sem] Oper.semAt_some

/-! ### a leaf that is another one, in a row of one's own -/
theorem LvR.put {base : Nat} {v : Value} {ls : List (List Int)} {W : World} (h : LvR base v ls W) {g n cap : Nat} (hv : v = .slice (some ⟨g, 0, none⟩) n cap) (j : Nat) {u : Value} {l : List Int} (hu : PcT base W u l) : LvR base v (ls.set j l) (W.setCell ⟨g, j, none⟩ u) := by
  obtain ⟨vs, h1, h2, h3, h4⟩ := h
  rcases h1.2 with ⟨e, _⟩ | ⟨g', cap', cur, e, hbg, hg, hle, hmx, hsz, htk⟩
  · rw [hv] at e; cases e
  · have e' := hv.symm.trans e
    cases e'
    have keep : ∀ {x : Value} {q : List Int}, PcT base W x q → PcT base (W.setCell ⟨g, j, none⟩ u) x q := fun hx => hx.over (P := fun c => c ≠ g) (fun c hc o z hz e9 => by
      subst e9
      rcases hc with h9 | ⟨cs, fr, h9⟩
      · omega
      · rw [hg] at h9
        exact absurd (Obj.cells.inj (Option.some.inj h9)).2.1 (by decide)) (fun c hc => heap_setCell_far hc)
    refine ⟨vs.set j u, ⟨by rw [List.length_set, List.length_set]; exact h1.1, Or.inr ⟨g, cap, cur.setIfInBounds j u, by rw [List.length_set]; exact e, hbg, heap_setCell_row hg, by rw [List.length_set]; exact hle, hmx, by simp [hsz], ?_⟩⟩, by rw [List.length_set, List.length_set]; exact h2, fun i x hx => ?_, by simpa [World.setCell] using h4⟩
    · rw [List.length_set, Array.toList_setIfInBounds, List.take_set, htk]
    · by_cases hi : j = i
      · subst hi
        have hlt : j < vs.length := by
          have := (List.getElem?_eq_some_iff.1 hx).1
          rw [List.length_set] at this
          exact this
        rw [List.getElem?_set_self hlt] at hx
        cases hx
        rw [List.getD_eq_getElem?_getD, List.getElem?_set_self (by omega)]
        exact keep hu
      · rw [List.getElem?_set_ne hi] at hx
        rw [List.getD_eq_getElem?_getD, List.getElem?_set_ne hi, ← List.getD_eq_getElem?_getD]
        exact keep (h3 i x hx)
/-- the row's form: its block, the j-th piece -/
theorem LvR.at_ {base : Nat} {v : Value} {ls : List (List Int)} {W : World} (h : LvR base v ls W) {j : Nat} {l : List Int} (hj : ls[j]? = some l) : ∃ g cap s2 c2, v = .slice (some ⟨g, 0, none⟩) ls.length cap ∧ base ≤ g ∧ W.cell? ⟨g, j, none⟩ = some (.slice s2 l.length c2) ∧ W.frozen? ⟨g, j, none⟩ = false := by
  obtain ⟨vs, h1, h2, h3, h4⟩ := h
  have hlt := (List.getElem?_eq_some_iff.1 hj).1
  rcases h1.2 with ⟨_, e⟩ | ⟨g, cap, cur, e, hbg, hg, hle, hmx, hsz, htk⟩
  · omega
  · obtain ⟨u, hu⟩ : ∃ u, vs[j]? = some u := ⟨_, List.getElem?_eq_getElem (by omega)⟩
    obtain ⟨s2, c2, e2, _⟩ := h3 j u hu
    rw [List.getD_eq_getElem?_getD, hj] at e2
    have hc : cur[j]? = some u := by
      rw [← htk, List.getElem?_take, if_pos (by omega), Array.getElem?_toList] at hu
      exact hu
    exact ⟨g, cap, s2, c2, e, hbg, by rw [cell_of_row _ _ _ _ _ _ hg, hc, e2]; rfl, frozen_row hg⟩
end Go.Proofs.Ytkfkjapkcjidnaa.Wg
namespace Go.Proofs.Ytkfkjapkcjidnaa.Wg
set_option maxRecDepth 100000
open Go.ChangeShapes Go.WideShapes Go.ChangeAt Go.RowKit Go.Shelf Go.Proofs.Ytkfkjapkcjidnaa.Tn
attribute [local go_sem] Oper.semAt_some

/-! ### WeightsWrong -/
set_option maxHeartbeats 16000000 in
theorem wrong_walk (w : World) (v : Wv) (m : Md) (hv : WvOK w v m) (hi : i64 (flatP m.ps)) (k y r : Int) (sl : Option Addr) (cl nl : Nat) (l : List Int) (hl : Nums w sl cl l) (hnl : l.length = nl) (hli : i64 l) : Calls Try.prog 4 #[.agg v.cells, .agg #[.int .i64 k, .int .i64 y, .int .i64 r], .slice sl nl cl] w fun e w' => e = .returned (.bool true) ∧ Below w.heap.size w w' := by
  have HX := Lib.hid (BkI.new w v k y r)
  have HV := Lib.hid hv
  have HI := Lib.hid hi
  have HL := Lib.hid hl
  have HNl := Lib.hid hnl
  have HLi := Lib.hid hli
  have hnm : nl ≤ 9223372036854775807 := by rw [← hnl]; exact Nums.len hl
  clear hv hi hl hnl hli
  go_enter Try.func4, Try.ntmps4
  go_upto_region 1 with fail
  refine gen_w (Q := fun w => Code.wp _ _ _ _ w) _ (BkI w v k y r) HX.out ?_
  clear HX
  intro w0 hx
  have HX := Lib.hid hx
  clear hx
  go_wp2_with (refine wpList_load_row rfl 31 (.tmp 3) rfl w.heap.size rfl 31 v.cells (0, 0) _ HX.out.row Try.underlying31 rfl size_wts ?_)
  refine (few_any _ v m (HV.out.later HX.out.below)).mono ?_
  rintro e w1 ⟨fb, rfl, hb1, hf⟩
  have HX1 := Lib.hid (HX.out.later hb1)
  clear hb1 HX
  cases fb with
  | false =>
    clear hf hnm
    go_wp2_with (go_at_call 8; refine (awake_any _).mono ?_; rintro e wz ⟨rfl, hbz⟩; have HBz := Lib.hid hbz; clear hbz)
    go_ret
    exact ⟨rfl, (HX1.out.later HBz.out).below⟩
  | true =>
    have HF := Lib.hid (hf rfl)
    clear hf
    by_cases h80 : 80 < nl
    · have d1 : decide ((80 : Int) < (nl : Int)) = true := by simp; omega
      have d2 : decide (80 < nl) = true := by simpa using h80
      clear h80 hnm
      go_wp2_with (go_at_call 8; refine (awake_any _).mono ?_; rintro e wz ⟨rfl, hbz⟩; have HBz := Lib.hid hbz; clear hbz)
      go_ret
      exact ⟨rfl, (HX1.out.later HBz.out).below⟩
    · have d1 : decide ((80 : Int) < (nl : Int)) = false := by simp; omega
      have d2 : decide (80 < nl) = false := by simpa using h80
      have H80 : Hid (nl ≤ 80) := Lib.hid (by omega)
      have hal : m.al.length ≤ 300 := by have := HF.out.1; rw [← HV.out.na]; exact this
      have hps : m.ps.length ≤ 60 := by have := HF.out.2.1; rw [← HV.out.np]; exact this
      have hn4 := HF.out.2.2.2.2.2.1
      have HRt := Lib.hid (fun W (h : BkI w v k y r W) => right_any W v m (HV.out.later h.below) (by omega) (by omega) (by omega))
      by_cases hE : m.chk = 0
      · rw [hE] at HRt
        have hfm := few_m HV.out HF.out hE
        have HE := Lib.hid hE
        have HFm := Lib.hid hfm
        have hbl := few_bytes hE hfm
        obtain ⟨hH, _⟩ := chk_zero hE
        obtain ⟨hck, _, _, _⟩ := headE_zero hH
        have HLw := Lib.hid (fun W (h : BkI w v k y r W) => leavesW_any W v m (HV.out.later h.below) hE (by omega) (by omega) HI.out)
        have HPr := Lib.hid (fun W sp cap n {K Y R C A : Nat} (hp : PlcAt m k y r K Y R C A) (hn : (Cd.join ((leavesD m).set A (Cd.nums l))).length = n) (hb : Cd.Bytes W sp cap (Cd.join ((leavesD m).set A (Cd.nums l)))) => parse_row W sp cap n hE hfm HI.out hp l (by rw [HNl.out]; exact H80.out) HLi.out hn hb)
        have HPl := Lib.hid (plc_at hE k y r)
        have HPa := Lib.hid (fun W => place_any W m.cfg k y r)
        unfold Cfg.cells at HPa
        have HPv : Hid (placeV m.cfg k y r = if plcB k y r 1 m.cfg.blks < 0 then (0, 10) else (plcB k y r 1 m.cfg.blks, 0)) := Lib.hid (by unfold placeV; rw [if_neg (by omega)])
        have HCf : Hid (v.c = m.cfg) := Lib.hid HV.out.c
        have HBl := Lib.hid hbl
        clear hal hps hn4 hfm hbl hH hck hE
        obtain ⟨LD, hLD⟩ : ∃ LD, leavesD m = LD := ⟨_, rfl⟩
        have HLD := Lib.hid hLD
        rw [hLD] at HLw HPr HBl
        obtain ⟨LN, hLN⟩ : ∃ LN, LD.length = LN := ⟨_, rfl⟩
        have HLN := Lib.hid hLN
        clear hLD hLN
        go_upto_region 3 with (first
          | (refine wpList_load_rowG rfl 31 (.tmp 3) rfl w.heap.size rfl 31 v.cells (0, 0) _ HX1.out.row Try.underlying31 rfl size_wts ?_)
          | (go_at_call 7; refine (HRt.out _ HX1.out).mono ?_; rintro e w2 ⟨rfl, hb2⟩; have HX2 := Lib.hid (HX1.out.later hb2); clear hb2))
        clear HX1 HRt d1 d2
        have c0 : w2.cell? ⟨w.heap.size, 0, none⟩ = some (.int .i64 m.cfg.v) := (by have h9 := HX2.out.cell 0; rw [h9]; simp only [Wv.cells, HCf.out]; rfl)
        have c1 : w2.cell? ⟨w.heap.size, 1, none⟩ = some (.int .i64 m.cfg.d) := (by have h9 := HX2.out.cell 1; rw [h9]; simp only [Wv.cells, HCf.out]; rfl)
        have c2 : w2.cell? ⟨w.heap.size, 2, none⟩ = some (.int .i64 m.cfg.h) := (by have h9 := HX2.out.cell 2; rw [h9]; simp only [Wv.cells, HCf.out]; rfl)
        have c3 : w2.cell? ⟨w.heap.size, 3, none⟩ = some (.int .i64 m.cfg.l) := (by have h9 := HX2.out.cell 3; rw [h9]; simp only [Wv.cells, HCf.out]; rfl)
        have c4 : w2.cell? ⟨w.heap.size, 4, none⟩ = some (.int .i64 m.cfg.x) := (by have h9 := HX2.out.cell 4; rw [h9]; simp only [Wv.cells, HCf.out]; rfl)
        have c5 : w2.cell? ⟨w.heap.size, 5, none⟩ = some (.int .i64 m.cfg.i) := (by have h9 := HX2.out.cell 5; rw [h9]; simp only [Wv.cells, HCf.out]; rfl)
        have p0 : w2.cell? ⟨w.heap.size + 1, 0, none⟩ = some (.int .i64 k) := HX2.out.pt 0
        have p1 : w2.cell? ⟨w.heap.size + 1, 1, none⟩ = some (.int .i64 y) := HX2.out.pt 1
        have p2 : w2.cell? ⟨w.heap.size + 1, 2, none⟩ = some (.int .i64 r) := HX2.out.pt 2
        go_upto_region 4 with (go_at_call 15; refine (HPa.out _).mono ?_; rintro e w3 ⟨rfl, hb3⟩; have HX3 := Lib.hid (HX2.out.later hb3); clear hb3)
        clear c0 c1 c2 c3 c4 c5 p0 p1 p2 HX2 HPa
        obtain ⟨PV, hPV⟩ : ∃ PV, placeV m.cfg k y r = PV := ⟨_, rfl⟩
        have hpv := HPv.out
        rw [hPV] at hpv ⊢
        have HPV := Lib.hid hpv
        clear hPV HPv hpv
        by_cases hp : plcB k y r 1 m.cfg.blks < 0
        · have hpv := HPV.out
          rw [if_pos hp] at hpv
          subst hpv
          clear HPl HPV hnm
          go_wp2_with (go_at_call 8; refine (awake_any _).mono ?_; rintro e wz ⟨rfl, hbz⟩; have HBz := Lib.hid hbz; clear hbz)
          go_ret
          exact ⟨rfl, (HX3.out.later HBz.out).below⟩
        · have hpv := HPV.out
          rw [if_neg hp] at hpv
          subst hpv
          clear HPV
          obtain ⟨K, Y, R, C, A, hpl⟩ := HPl.out (by omega)
          have hA := hpl.at_
          obtain rfl := hpl.ek
          obtain rfl := hpl.ey
          obtain rfl := hpl.er
          rw [hA]
          have HQ := Lib.hid hpl
          have hA2 : A < LN := by rw [← HLN.out, ← HLD.out]; exact hpl.alt
          have HA := Lib.hid hA2
          have HPr2 := Lib.hid (fun W sp cap n => HPr.out W sp cap n hpl)
          clear hp hA hA2 HPl hpl HPr
          go_upto_region 7 with (first
            | (refine wpList_load_row rfl 31 (.tmp 3) rfl w.heap.size rfl 31 v.cells (0, 0) _ HX3.out.row Try.underlying31 rfl size_wts ?_)
            | (go_at_call 10; refine (HLw.out _ HX3.out).mono ?_; rintro e w4 ⟨val, base, rfl, hlv, hba, hb4⟩; have HX4 := Lib.hid (HX3.out.later hb4); have HLv := Lib.hid hlv; have HBa := Lib.hid (And.intro hba hb4); clear hb4 hlv hba))
          have hlf := HQ.out.leaf
          rw [HLD.out] at hlf
          obtain ⟨g, cap, s2, c2, ev, hg, l0, _⟩ := HLv.out.at_ hlf
          rw [HLN.out] at ev
          subst ev
          have hlen : (Cd.nums (((m.part K Y).l.drop (R * C)).take C)).length = 8 * C := by rw [numsQ_length, List.length_take, List.length_drop]; have := HQ.out.lt; omega
          rw [hlen] at l0
          have HLf := Lib.hid hlf
          have HG := Lib.hid hg
          have HAn := HA.out
          clear hlf hlen hg HLw
          have hwC : wrap64 (C : Int) = (C : Int) := wrapQ (by have := HQ.out.le; omega)
          go_upto_region 8 with fail
          rw [hwC]
          clear l0 hwC HAn
          have p0 : w4.cell? ⟨w.heap.size + 1, 0, none⟩ = some (.int .i64 (K : Int)) := HX4.out.pt 0
          obtain ⟨mx, hmx⟩ : ∃ mx, (!isVec K) = mx := ⟨_, rfl⟩
          have HMx := Lib.hid hmx
          clear hmx
          go_cut [11] (fun s wx => s = .bool mx ∧ w4 = wx)
          case first =>
            by_cases k2 : K = 2
            · have hm : mx = false := by rw [← HMx.out, k2]; rfl
              have e1 : ((K : Int) != 2) = false := by rw [k2]; rfl
              subst hm
              clear k2
              go_wp2
              go_meet
              exact ⟨rfl, rfl⟩
            · have e1 : ((K : Int) != 2) = true := by rw [bne_iff_ne]; omega
              by_cases k7 : K = 7
              · have hm : mx = false := by rw [← HMx.out, k7]; rfl
                have e2 : ((K : Int) != 7) = false := by rw [k7]; rfl
                subst hm
                clear k2 k7
                go_wp2
                go_meet
                exact ⟨rfl, rfl⟩
              · have e2 : ((K : Int) != 7) = true := by rw [bne_iff_ne]; omega
                by_cases k11 : K = 11
                · have hm : mx = false := by rw [← HMx.out, k11]; rfl
                  have e3 : ((K : Int) != 11) = false := by rw [k11]; rfl
                  subst hm
                  clear k2 k7 k11
                  go_wp2
                  go_meet
                  exact ⟨rfl, rfl⟩
                · have e3 : ((K : Int) != 11) = true := by rw [bne_iff_ne]; omega
                  have hm : mx = true := by
                    rw [← HMx.out]
                    simp [isVec, k2, k7, k11]
                  subst hm
                  clear k2 k7 k11
                  go_wp2
                  go_meet
                  exact ⟨rfl, rfl⟩
          obtain ⟨rfl, rfl⟩ := hcut
          clear p0
          have HNm := Lib.hid (Cd.ref_numbersO w4 sl cl nl l HNl.out (cdSl (Sl.below HL.out (Nat.le_refl _) HX4.out.below)) HLi.out (by have := H80.out; omega))
          have HAn := HA.out
          go_upto_region 10 with (go_at_call 16; refine HNm.out.mono ?_; rintro e w5 ⟨s3, c3, rfl, hown, _, hb5⟩; have HX5 := Lib.hid (HX4.out.later hb5); have HLv5 := Lib.hid (HLv.out.later hb5); have HB5 := Lib.hid (HBa.out.2.trans (hb5.mono HBa.out.2.size)); have HP5 : Hid (PcT base w5 (.slice s3 (8 * nl) c3) (Cd.nums l)) := Lib.hid (PcT.own hown (Cd.rng_nums l)); obtain ⟨g', cap', s4, c4, ev, _, l1, f1⟩ := HLv5.out.at_ HLf.out; cases ev; clear hown hb5)
          have hlv6 := HLv5.out.put rfl A HP5.out
          have hB6 : Below w3.heap.size w3 (w5.setCell ⟨g, A, none⟩ (.slice s3 (8 * nl) c3)) := HB5.out.setCell (p := ⟨g, A, none⟩) (by have := HG.out; have := HBa.out.1; dsimp only; omega) _
          have hx6 := HX3.out.later hB6
          obtain ⟨w6, hw6⟩ : ∃ w6, w5.setCell ⟨g, A, none⟩ (.slice s3 (8 * nl) c3) = w6 := ⟨_, rfl⟩
          rw [hw6] at hlv6 hB6 hx6 ⊢
          have HX6 := Lib.hid hx6
          obtain ⟨sp, capp, ep, hpc⟩ := hlv6.pieces
          rw [List.length_set] at ep
          cases ep
          have hjl : (Cd.join (LD.set A (Cd.nums l))).length ≤ 990000 := by
            have h1 := join_set LD A (Cd.nums l)
            have h2 := HBl.out
            have h3 := numsQ_length l
            have h4 := HNl.out
            have h5 := H80.out
            omega
          have HJn := Lib.hid (Cd.ref_join w6 (some ⟨g, 0, none⟩) cap LD.length (LD.set A (Cd.nums l)) (by rw [List.length_set]) hpc hjl)
          obtain ⟨JB, hJB⟩ : ∃ JB, Cd.join (LD.set A (Cd.nums l)) = JB := ⟨_, rfl⟩
          rw [hJB] at HJn HPr2
          obtain ⟨JN, hJN⟩ : ∃ JN, JB.length = JN := ⟨_, rfl⟩
          rw [hJN] at HJn
          have HJN := Lib.hid hJN
          rw [HNl.out] at HPr2
          obtain ⟨E, hE⟩ : ∃ E, (if nl = C then badE K l else 11) = E := ⟨_, rfl⟩
          rw [hE] at HPr2
          have HEq := Lib.hid hE
          clear hw6 hlv6 hB6 hx6 hpc hjl hJB hJN hE HAn l1 f1 HX3 HX4 HX5 HLv HLv5 HB5 HP5 HNm HBa
          go_upto_region 11 with (first
            | (go_at_call 17; refine HJn.out.mono ?_; rintro e w7 ⟨s7, c7, rfl, hy7, hb7⟩; have HX7 := Lib.hid (HX6.out.later hb7); have HY7 := Lib.hid hy7; clear hb7 hy7)
            | (go_at_call 11; refine (HPr2.out w7 s7 c7 JN HJN.out HY7.out).mono ?_; rintro e w8 ⟨u, rfl, hb8⟩; have HX8 := Lib.hid (HX7.out.later hb8); clear hb8)
            | (refine wpList_store_newW rfl 31 (.tmp 12) (.tmp 69) rfl u.cells zeroC 31 rfl rfl rfl size_wts rfl (wv_one u) ?_))
          have HX9 := Lib.hid (HX8.out.later ((Below.refl w8.heap.size w8).alloc (Nat.le_refl _) (.cells u.cells 31)))
          obtain ⟨w9, hw9⟩ : ∃ w9, w8.alloc (.cells u.cells 31) = w9 := ⟨_, rfl⟩
          obtain ⟨xb, hxb⟩ : ∃ xb, w8.heap.size = xb := ⟨_, rfl⟩
          rw [hw9] at HX9 ⊢
          rw [hxb] at ⊢
          clear hw9 hxb HX6 HX7 HX8 HJn HPr2 HY7 HJN
          by_cases hnC : nl = C
          · have d3 : ((nl : Int) != (C : Int)) = false := by rw [hnC]; simp
            have d4 : (nl != C) = false := by rw [hnC]; simp
            have hE := HEq.out
            rw [if_pos hnC] at hE
            have HE9 := Lib.hid hE
            have HN9 := Lib.hid (Sl.below HL.out (Nat.le_refl _) HX9.out.below)
            clear hnC hE HEq
            go_upto_region 13 with fail
            clear d3 d4 hnm
            go_upto_region 14 with fail
            cases mx with
            | false =>
              have HV2 : Hid (isVec K = true) := Lib.hid (by have := HMx.out; simpa using this)
              go_loopw [14] (fun jv wr => ∃ j : Nat, j ≤ nl ∧ jv = .int .i64 (j : Int) ∧ w9 = wr ∧ ∀ i, i < j → Fx.isN (l.getD i 0)) (fun jv _ => nl - (intOf jv).toNat)
              case atStart => exact ⟨0, by omega, rfl, rfl, fun i hi => by omega⟩
              case round =>
              obtain ⟨j, hj, rfl, rfl, hgd⟩ := hrel
              have HGd := Lib.hid hgd
              clear hgd
              by_cases hlt : j < nl
              · have e1 : decide (j < nl) = true := by simpa using hlt
                have e2 : decide ((j : Int) < (nl : Int)) = true := by simp; omega
                have hw5 : IntKind.i64.wrap ((j : Int) + 1) = (j : Int) + 1 := IntWalk.i64_in _ (by have := H80.out; omega)
                obtain ⟨cc, oo, rfl, hcell⟩ := Nums.at_ HN9.out j (by rw [HNl.out]; exact hlt)
                obtain ⟨z, hz⟩ : ∃ z, l.getD j 0 = z := ⟨_, rfl⟩
                rw [hz] at hcell
                have HZ := Lib.hid hz
                have HMm : Hid (z ∈ l) := Lib.hid (by rw [← hz, List.getD_eq_getElem?_getD, List.getElem?_eq_getElem (by rw [HNl.out]; exact hlt)]; exact List.getElem_mem _)
                have HLt := Lib.hid hlt
                clear hz hlt hj
                by_cases h1 : z < -2147483648
                · have f1 : decide (z < -2147483648) = true := by simpa using h1
                  have hE10 : E = 10 := by
                    rw [← HE9.out]
                    unfold badE
                    rw [if_neg]
                    intro h9
                    have h8 := h9 z HMm.out
                    rw [HV2.out] at h8
                    simp only [if_true] at h8
                    unfold Fx.isN at h8
                    omega
                  subst hE10
                  clear h1
                  go_wp2_with (go_at_call 8; refine (awake_any _).mono ?_; rintro e wz ⟨rfl, hbz⟩; have HBz := Lib.hid hbz; clear hbz)
                  go_ret
                  exact ⟨rfl, (HX9.out.later HBz.out).below⟩
                · have f1 : decide (z < -2147483648) = false := by simpa using h1
                  by_cases h2 : 2147483647 < z
                  · have f2 : decide (2147483647 < z) = true := by simpa using h2
                    have hE10 : E = 10 := by
                      rw [← HE9.out]
                      unfold badE
                      rw [if_neg]
                      intro h9
                      have h8 := h9 z HMm.out
                      rw [HV2.out] at h8
                      simp only [if_true] at h8
                      unfold Fx.isN at h8
                      omega
                    subst hE10
                    clear h1 h2
                    go_wp2_with (go_at_call 8; refine (awake_any _).mono ?_; rintro e wz ⟨rfl, hbz⟩; have HBz := Lib.hid hbz; clear hbz)
                    go_ret
                    exact ⟨rfl, (HX9.out.later HBz.out).below⟩
                  · have f2 : decide (2147483647 < z) = false := by simpa using h2
                    have HGz : Hid (Fx.isN z) := Lib.hid (by unfold Fx.isN; omega)
                    clear h1 h2
                    go_wp2
                    go_roundw
                    case rel => exact ⟨j + 1, by have := HLt.out; omega, by go_num, trivial, fun i hi => by
                      by_cases hij : i < j
                      · exact HGd.out i hij
                      · rw [show i = j by omega, HZ.out]; exact HGz.out⟩
                    case measure => simp [intOf]; have := HLt.out; omega
              · obtain rfl : j = nl := by omega
                have e1 : decide (j < j) = false := by simp
                have e2 : decide ((j : Int) < (j : Int)) = false := by simp
                have hE0 : E = 0 := by
                  rw [← HE9.out]
                  unfold badE
                  rw [if_pos]
                  intro x hx
                  rw [HV2.out]
                  simp only [if_true]
                  obtain ⟨i, hi, rfl⟩ := List.mem_iff_getElem.1 hx
                  have h9 := HGd.out i (by rw [HNl.out] at hi; exact hi)
                  rw [List.getD_eq_getElem?_getD, List.getElem?_eq_getElem hi] at h9
                  exact h9
                subst hE0
                clear hlt hj
                go_wp2_with (go_at_call 8; refine (awake_any _).mono ?_; rintro e wz ⟨rfl, hbz⟩; have HBz := Lib.hid hbz; clear hbz)
                go_ret
                exact ⟨rfl, (HX9.out.later HBz.out).below⟩
            | true =>
              have HV2 : Hid (isVec K = false) := Lib.hid (by have := HMx.out; simpa using this)
              go_loopw [14] (fun jv wr => ∃ j : Nat, j ≤ nl ∧ jv = .int .i64 (j : Int) ∧ w9 = wr ∧ ∀ i, i < j → isW (l.getD i 0)) (fun jv _ => nl - (intOf jv).toNat)
              case atStart => exact ⟨0, by omega, rfl, rfl, fun i hi => by omega⟩
              case round =>
              obtain ⟨j, hj, rfl, rfl, hgd⟩ := hrel
              have HGd := Lib.hid hgd
              clear hgd
              by_cases hlt : j < nl
              · have e1 : decide (j < nl) = true := by simpa using hlt
                have e2 : decide ((j : Int) < (nl : Int)) = true := by simp; omega
                have hw5 : IntKind.i64.wrap ((j : Int) + 1) = (j : Int) + 1 := IntWalk.i64_in _ (by have := H80.out; omega)
                obtain ⟨cc, oo, rfl, hcell⟩ := Nums.at_ HN9.out j (by rw [HNl.out]; exact hlt)
                obtain ⟨z, hz⟩ : ∃ z, l.getD j 0 = z := ⟨_, rfl⟩
                rw [hz] at hcell
                have HZ := Lib.hid hz
                have HMm : Hid (z ∈ l) := Lib.hid (by rw [← hz, List.getD_eq_getElem?_getD, List.getElem?_eq_getElem (by rw [HNl.out]; exact hlt)]; exact List.getElem_mem _)
                have HLt := Lib.hid hlt
                clear hz hlt hj
                by_cases h1 : z < -2147483648
                · have f1 : decide (z < -2147483648) = true := by simpa using h1
                  have hE10 : E = 10 := by
                    rw [← HE9.out]
                    unfold badE
                    rw [if_neg]
                    intro h9
                    have h8 := h9 z HMm.out
                    rw [HV2.out] at h8
                    simp only [Bool.false_eq_true, if_false] at h8
                    unfold isW at h8
                    omega
                  subst hE10
                  clear h1
                  go_wp2_with (go_at_call 8; refine (awake_any _).mono ?_; rintro e wz ⟨rfl, hbz⟩; have HBz := Lib.hid hbz; clear hbz)
                  go_ret
                  exact ⟨rfl, (HX9.out.later HBz.out).below⟩
                · have f1 : decide (z < -2147483648) = false := by simpa using h1
                  by_cases h2 : 2147483647 < z
                  · have f2 : decide (2147483647 < z) = true := by simpa using h2
                    have hE10 : E = 10 := by
                      rw [← HE9.out]
                      unfold badE
                      rw [if_neg]
                      intro h9
                      have h8 := h9 z HMm.out
                      rw [HV2.out] at h8
                      simp only [Bool.false_eq_true, if_false] at h8
                      unfold isW at h8
                      omega
                    subst hE10
                    clear h1 h2
                    go_wp2_with (go_at_call 8; refine (awake_any _).mono ?_; rintro e wz ⟨rfl, hbz⟩; have HBz := Lib.hid hbz; clear hbz)
                    go_ret
                    exact ⟨rfl, (HX9.out.later HBz.out).below⟩
                  · have f2 : decide (2147483647 < z) = false := by simpa using h2
                    by_cases h3 : z < -16777216
                    · have f3 : decide (z < -16777216) = true := by simpa using h3
                      have hE10 : E = 10 := by
                        rw [← HE9.out]
                        unfold badE
                        rw [if_neg]
                        intro h9
                        have h8 := h9 z HMm.out
                        rw [HV2.out] at h8
                        simp only [Bool.false_eq_true, if_false] at h8
                        unfold isW at h8
                        omega
                      subst hE10
                      clear h1 h2 h3
                      go_wp2_with (go_at_call 8; refine (awake_any _).mono ?_; rintro e wz ⟨rfl, hbz⟩; have HBz := Lib.hid hbz; clear hbz)
                      go_ret
                      exact ⟨rfl, (HX9.out.later HBz.out).below⟩
                    · have f3 : decide (z < -16777216) = false := by simpa using h3
                      by_cases h4 : 16777216 < z
                      · have f4 : decide (16777216 < z) = true := by simpa using h4
                        have hE10 : E = 10 := by
                          rw [← HE9.out]
                          unfold badE
                          rw [if_neg]
                          intro h9
                          have h8 := h9 z HMm.out
                          rw [HV2.out] at h8
                          simp only [Bool.false_eq_true, if_false] at h8
                          unfold isW at h8
                          omega
                        subst hE10
                        clear h1 h2 h3 h4
                        go_wp2_with (go_at_call 8; refine (awake_any _).mono ?_; rintro e wz ⟨rfl, hbz⟩; have HBz := Lib.hid hbz; clear hbz)
                        go_ret
                        exact ⟨rfl, (HX9.out.later HBz.out).below⟩
                      · have f4 : decide (16777216 < z) = false := by simpa using h4
                        have HGz : Hid (isW z) := Lib.hid (by unfold isW; omega)
                        clear h1 h2 h3 h4
                        go_wp2
                        go_roundw
                        case rel => exact ⟨j + 1, by have := HLt.out; omega, by go_num, trivial, fun i hi => by
                          by_cases hij : i < j
                          · exact HGd.out i hij
                          · rw [show i = j by omega, HZ.out]; exact HGz.out⟩
                        case measure => simp [intOf]; have := HLt.out; omega
              · obtain rfl : j = nl := by omega
                have e1 : decide (j < j) = false := by simp
                have e2 : decide ((j : Int) < (j : Int)) = false := by simp
                have hE0 : E = 0 := by
                  rw [← HE9.out]
                  unfold badE
                  rw [if_pos]
                  intro x hx
                  rw [HV2.out]
                  simp only [Bool.false_eq_true, if_false]
                  obtain ⟨i, hi, rfl⟩ := List.mem_iff_getElem.1 hx
                  have h9 := HGd.out i (by rw [HNl.out] at hi; exact hi)
                  rw [List.getD_eq_getElem?_getD, List.getElem?_eq_getElem hi] at h9
                  exact h9
                subst hE0
                clear hlt hj
                go_wp2_with (go_at_call 8; refine (awake_any _).mono ?_; rintro e wz ⟨rfl, hbz⟩; have HBz := Lib.hid hbz; clear hbz)
                go_ret
                exact ⟨rfl, (HX9.out.later HBz.out).below⟩
          · have d3 : ((nl : Int) != (C : Int)) = true := by rw [bne_iff_ne]; omega
            have d4 : (nl != C) = true := by rw [bne_iff_ne]; omega
            have hE := HEq.out
            rw [if_neg hnC] at hE
            subst hE
            clear hnC
            go_wp2_with (go_at_call 8; refine (awake_any _).mono ?_; rintro e wz ⟨rfl, hbz⟩; have HBz := Lib.hid hbz; clear hbz)
            go_ret
            exact ⟨rfl, (HX9.out.later HBz.out).below⟩
      · obtain ⟨E, hEE⟩ : ∃ E, m.chk = E := ⟨_, rfl⟩
        rw [hEE] at HRt hE
        have n1 : (E == 0) = false := by simpa using hE
        have n2 : (E != 0) = true := by simpa using hE
        clear hal hps hn4 hE hEE hnm
        go_wp2_with (first
          | (refine wpList_load_rowG rfl 31 (.tmp 3) rfl w.heap.size rfl 31 v.cells (0, 0) _ HX1.out.row Try.underlying31 rfl size_wts ?_)
          | (go_at_call 7; refine (HRt.out _ HX1.out).mono ?_; rintro e w2 ⟨rfl, hb2⟩; have HX2 := Lib.hid (HX1.out.later hb2); clear hb2)
          | (go_at_call 8; refine (awake_any _).mono ?_; rintro e wz ⟨rfl, hbz⟩; have HBz := Lib.hid hbz; clear hbz))
        go_ret
        exact ⟨rfl, (HX2.out.later HBz.out).below⟩
end Go.Proofs.Ytkfkjapkcjidnaa.Wg
