import Derived.Test.YtmolkbmdfkeniaaDoorDo
namespace Go.Proofs.YtmolkbmdfkeniaaDoor.Dr
set_option maxRecDepth 100000
open Go.ChangeShapes Go.WideShapes Go.ChangeAt Go.RowKit Go.Proofs.YtmolkbmdfkeniaaDoor.Tn

theorem sizeOp8 {a b c : Value} : (Tryd.prog.info? 48).map (·.size) = some ([a, b, c] : List Value).length := by kernel_rfl
set_option maxHeartbeats 4000000 in
theorem same_walk {Pk : List Int → Prop} (T : DrawOK E8 numV St8 Pk) (hP : Pk [3, 9, 9]) (w : World) (s : List Int) (c : Int) (sp : Option Addr) (cap N : Nat) (os : List OpV) (hs : Seed s) (k1 : -9223372036854775808 ≤ c) (k2 : c ≤ 9223372036854775807) (hN : os.length = N) (hl : Ops w sp os) (hPv : ∀ x ∈ os, Pk x.leaf) (he : E8 w) : Calls Tryd.prog 7 #[dgV s, .int .i64 c, .slice sp N cap] w fun e w' => e = .returned (.bool true) ∧ Below w.heap.size w w' := by
  have HZ := Lib.hid (row_dig hs.1)
  have HE := Lib.hid he
  have HT := Lib.hid T
  have HSd : Hid (Seed s) := Lib.hid hs
  have HPk : Hid (Pk [3, 9, 9]) := Lib.hid hP
  have HB0 : Hid (H1 w s (w.alloc (.cells (rowB s) 23))) := Lib.hid (H1.made w s)
  have HE0 := Lib.hid (HE.out.below HB0.out.below)
  have hNm : N ≤ 9223372036854775807 := by have := hl.len; unfold maxLen at this; omega
  have HO := Lib.hid hl
  have HN := Lib.hid hN
  have HPv := Lib.hid hPv
  change Calls Tryd.prog 7 #[.agg (rowB s), .int .i64 c, .slice sp N cap] w _
  by_cases hc : c < 0
  · have d1 := lt_yes hc
    have HNw := Lib.hid (fun W (h : E8 W) => T.newNo W s c h hs k1 hc)
    clear he T hs hP hc hN hl hPv
    go_enter Tryd.func7, Tryd.ntmps7
    go_wp2_with (refine wpList_load_row rfl 23 (.tmp 3) rfl w.heap.size rfl 23 (rowB s) (0, 0) _ HB0.out.d Tryd.underlying23 rfl HZ.out ?_)
    refine (HNw.out _ HE0.out).mono ?_
    rintro e w2 ⟨rfl, hb2⟩
    have H2' := Lib.hid (HB0.out.later hb2)
    have HE2 := Lib.hid (HE0.out.below hb2)
    clear hb2
    go_wp2_with fail
    refine (awake_any HT.out HPk.out _ HE2.out).mono ?_
    rintro e wa ⟨rfl, hba⟩
    have HBa := Lib.hid ((H2'.out.below).trans (hba.mono (H2'.out.below).size))
    clear hba
    go_wp2
    go_ret
    exact ⟨rfl, HBa.out⟩
  have d1 := lt_no hc
  have HNw := Lib.hid (fun W (h : E8 W) => T.new W s c h hs (by omega) k2)
  by_cases hc2 : 4611686018427387904 < c
  · have d2 : decide (4611686018427387904 < c) = true := by simpa using hc2
    clear he T hs hP hc hc2 hN hl hPv
    go_enter Tryd.func7, Tryd.ntmps7
    go_wp2_with (refine wpList_load_row rfl 23 (.tmp 3) rfl w.heap.size rfl 23 (rowB s) (0, 0) _ HB0.out.d Tryd.underlying23 rfl HZ.out ?_)
    refine (HNw.out _ HE0.out).mono ?_
    rintro e w2 ⟨g, rfl, hg, hs2, hb2⟩
    have H2' := Lib.hid (HB0.out.later hb2)
    have HE2 := Lib.hid (HE0.out.below hb2)
    clear hb2 hs2
    unfold ptV
    go_wp2_with fail
    refine (awake_any HT.out HPk.out _ HE2.out).mono ?_
    rintro e wa ⟨rfl, hba⟩
    have HBa := Lib.hid ((H2'.out.below).trans (hba.mono (H2'.out.below).size))
    clear hba
    go_wp2
    go_ret
    exact ⟨rfl, HBa.out⟩
  have d2 : decide (4611686018427387904 < c) = false := by simpa using hc2
  by_cases hz : 20 < N
  · have d3 : decide ((20 : Int) < (N : Int)) = true := by simp; omega
    clear he T hs hP hc hc2 hN hl hPv
    go_enter Tryd.func7, Tryd.ntmps7
    go_wp2_with (refine wpList_load_row rfl 23 (.tmp 3) rfl w.heap.size rfl 23 (rowB s) (0, 0) _ HB0.out.d Tryd.underlying23 rfl HZ.out ?_)
    refine (HNw.out _ HE0.out).mono ?_
    rintro e w2 ⟨g, rfl, hg, hs2, hb2⟩
    have H2' := Lib.hid (HB0.out.later hb2)
    have HE2 := Lib.hid (HE0.out.below hb2)
    clear hb2 hs2
    unfold ptV
    go_wp2_with fail
    refine (awake_any HT.out HPk.out _ HE2.out).mono ?_
    rintro e wa ⟨rfl, hba⟩
    have HBa := Lib.hid ((H2'.out.below).trans (hba.mono (H2'.out.below).size))
    clear hba
    go_wp2
    go_ret
    exact ⟨rfl, HBa.out⟩
  have d3 : decide ((20 : Int) < (N : Int)) = false := by simp; omega
  have hc0 : 0 ≤ c := by omega
  have hc1 : c ≤ 4611686018427387904 := by omega
  have HNx := Lib.hid (fun W (h : E8 W) x (h0 : 0 ≤ x) (h1 : x ≤ mostC) => T.new W s x h hs h0 h1)
  clear he T hs hP hN hl hPv hc hc2
  go_enter Tryd.func7, Tryd.ntmps7
  go_wp2_with (refine wpList_load_row rfl 23 (.tmp 3) rfl w.heap.size rfl 23 (rowB s) (0, 0) _ HB0.out.d Tryd.underlying23 rfl HZ.out ?_)
  refine (HNw.out _ HE0.out).mono ?_
  rintro e w1 ⟨g, rfl, hg, hs1, hb1⟩
  have hgw : w.heap.size < g := Nat.lt_of_lt_of_le HB0.out.d.lt hg
  have HS1 := Lib.hid hs1
  have HH1 := Lib.hid (HB0.out.later hb1)
  have HE1 := Lib.hid (HE0.out.below hb1)
  clear hb1 hs1
  unfold ptV
  go_wp2
  go_loopw [9] (fun i wr => ∃ (k : Nat) (ck : Int), k ≤ N ∧ i = .int .i64 k ∧ St8 wr g s ck ∧ c ≤ ck ∧ ck ≤ c + 64 * (k : Int) ∧ E8 wr ∧ H1 w s wr) (fun i _ => N - (intOf i).toNat)
  case atStart => exact ⟨0, c, by omega, rfl, HS1.out, by omega, by simp, HE1.out, HH1.out⟩
  case round =>
    obtain ⟨k, ck, hk, rfl, hS, hk1, hk2, hE, hH⟩ := hrel
    have HSk := Lib.hid hS
    have HEk := Lib.hid hE
    have HHk := Lib.hid hH
    clear hS hE hH
    by_cases hlt : k < N
    · have hdt : decide (k < N) = true := by simpa using hlt
      obtain ⟨c0, o0, hsp, hr⟩ := HO.out.range k (by rw [HN.out]; exact hlt)
      have hmem : (os[k]'(by rw [HN.out]; exact hlt)) ∈ os := List.getElem_mem _
      obtain ⟨x, hx⟩ : ∃ x, (os[k]'(by rw [HN.out]; exact hlt)) = x := ⟨_, rfl⟩
      rw [hx] at hr hmem
      have hfit := HO.out.fits x hmem
      have HPx := Lib.hid (HPv.out x hmem)
      obtain ⟨ask, n, sl, cl, leaf⟩ := x
      obtain ⟨ha, hn, hll⟩ := hfit
      dsimp only at ha hn hll HPx
      have HLl := Lib.hid hll
      have HAp : Hid (Apart sl g leaf) := Lib.hid (apart_old hll (by omega))
      have HR : Hid (∀ W, Below w.heap.size w W → W.rangeAt c0 (o0 + k * 3) [.int .i64 ask, .int .i64 n, .slice sl leaf.length cl]) := Lib.hid (fun W hW => by rw [Nat.mul_comm]; exact rangeAt_below hr hW)
      obtain ⟨M, hM⟩ : ∃ M, leaf.length = M := ⟨_, rfl⟩
      have HM := Lib.hid hM
      have hMm : M ≤ 9223372036854775807 := by rw [← hM]; exact hll.len
      rw [hM] at HR
      subst hsp
      clear hr hmem hx hll hM
      have c2 := HR.out wr HHk.out.below 2 _ rfl
      by_cases hml : 100 < M
      · have e1 : decide ((100 : Int) < (M : Int)) = true := by simp; omega
        go_wp2
        go_roundw
        case rel => exact ⟨k + 1, ck, by omega, by go_num, HSk.out, hk1, by omega, HEk.out, HHk.out⟩
        case measure => simp [intOf]; omega
      have e1 : decide ((100 : Int) < (M : Int)) = false := by simp; omega
      have hck : ck ≤ mostC := by unfold mostC; omega
      have HFt := Lib.hid (doD_fit (numV s) ck ask n leaf hck)
      have HDo := Lib.hid (fun W g' (h : E8 W) (hS : St8 W g' s ck) (hb : Below w.heap.size w W) ha => does_any HT.out W g' s ck ask n sl cl M leaf h hS HM.out (HLl.out.below hb) ha HPx.out hn.1 hn.2)
      obtain ⟨R, hR⟩ : ∃ R, doD (numV s) ck ask n leaf = R := ⟨_, rfl⟩
      rw [hR] at HFt HDo
      obtain ⟨x, f, er⟩ := R
      dsimp only at HFt HDo
      have hf := HFt.out.1
      have f1 := same_no x
      have f2 := same_no er
      have f3 := same_no (ck + (f : Int))
      have f4 : decide (ck + (f : Int) < ck) = false := by simp; omega
      have hw64 := wrap_in (x := ck + 64) (by omega) (by omega)
      have f5 : decide (ck + 64 < ck + (f : Int)) = false := by simp; omega
      have f7 : decide ((64 : Int) < (f : Int)) = false := by simp; omega
      have f8 : decide (64 < f) = false := by simp; omega
      have HB64 := Lib.hid (show c ≤ ck + (f : Int) ∧ ck + (f : Int) ≤ c + 64 * ((k + 1 : Nat) : Int) by omega)
      have h0k : 0 ≤ ck := by omega
      clear hR ha hf
      go_wp2_with fail
      refine (HT.out.count wr g s ck HEk.out HSk.out).mono ?_
      rintro e w2 ⟨rfl, hb2⟩
      have HS2 := Lib.hid (HSk.out.later hb2)
      have HE2 := Lib.hid (HEk.out.below hb2)
      have HH2 := Lib.hid (HHk.out.later hb2)
      clear hb2 c2
      go_wp2_with (refine wpList_load_row rfl 23 (.tmp 3) rfl w.heap.size rfl 23 (rowB s) (0, 0) _ HH2.out.d Tryd.underlying23 rfl HZ.out ?_)
      refine (HNx.out w2 HE2.out ck h0k hck).mono ?_
      rintro e w3 ⟨g2, rfl, hg2, hs3, hb3⟩
      have hgg : g < g2 := Nat.lt_of_lt_of_le HS2.out.lt hg2
      have HS3 := Lib.hid (HS2.out.later hb3)
      have HT3 := Lib.hid hs3
      have HE3 := Lib.hid (HE2.out.below hb3)
      have HH3 := Lib.hid (HH2.out.later hb3)
      have HR3 := Lib.hid (HR.out w3 HH3.out.below)
      have HAp2 : Hid (Apart sl g2 leaf) := Lib.hid (apart_old HLl.out (by omega))
      clear hb3 hs3
      unfold ptV
      go_wp2_with (refine wpList_load_mid rfl 48 (.tmp 81) rfl c0 (o0 + k * 3) rfl _ _ HR3.out Tryd.underlying48 rfl sizeOp8 ?_)
      refine (HDo.out w3 g HE3.out HS3.out HH3.out.below HAp.out).mono ?_
      rintro e w4 ⟨rfl, hs4, hg4⟩
      have HS4 := Lib.hid hs4
      have HT4 := Lib.hid (HT3.out.apart hg4 (by omega))
      have HE4 := Lib.hid (HE3.out.grown hg4 HS3.out.far)
      have HH4 := Lib.hid (HH3.out.grown hg4 hgw)
      have HR4 := Lib.hid (HR.out w4 HH4.out.below)
      clear hs4 hg4
      unfold two
      go_wp2_with (refine wpList_load_mid rfl 48 (.tmp 90) rfl c0 (o0 + k * 3) rfl _ _ HR4.out Tryd.underlying48 rfl sizeOp8 ?_)
      refine (HDo.out w4 g2 HE4.out HT4.out HH4.out.below HAp2.out).mono ?_
      rintro e w5 ⟨rfl, hs5, hg5⟩
      have HT5 := Lib.hid hs5
      have HS5 := Lib.hid (HS4.out.apart hg5 (by omega))
      have HE5 := Lib.hid (HE4.out.grown hg5 HT4.out.far)
      have HH5 := Lib.hid (HH4.out.grown hg5 (by omega))
      clear hs5 hg5
      unfold two
      go_wp2_with fail
      refine (HT.out.count w5 g s (ck + (f : Int)) HE5.out HS5.out).mono ?_
      rintro e w6 ⟨rfl, hb6⟩
      have HS6 := Lib.hid (HS5.out.later hb6)
      have HT6 := Lib.hid (HT5.out.later hb6)
      have HE6 := Lib.hid (HE5.out.below hb6)
      have HH6 := Lib.hid (HH5.out.later hb6)
      clear hb6
      go_wp2_with fail
      refine (HT.out.count w6 g2 s (ck + (f : Int)) HE6.out HT6.out).mono ?_
      rintro e w7 ⟨rfl, hb7⟩
      have HS7 := Lib.hid (HS6.out.later hb7)
      have HT7 := Lib.hid (HT6.out.later hb7)
      have HE7 := Lib.hid (HE6.out.below hb7)
      have HH7 := Lib.hid (HH6.out.later hb7)
      clear hb7
      go_wp2_with fail
      refine (HT.out.count w7 g s (ck + (f : Int)) HE7.out HS7.out).mono ?_
      rintro e w8 ⟨rfl, hb8⟩
      have HS8 := Lib.hid (HS7.out.later hb8)
      have HT8 := Lib.hid (HT7.out.later hb8)
      have HE8 := Lib.hid (HE7.out.below hb8)
      have HH8 := Lib.hid (HH7.out.later hb8)
      clear hb8
      go_wp2_with fail
      refine (HT.out.count w8 g s (ck + (f : Int)) HE8.out HS8.out).mono ?_
      rintro e w9 ⟨rfl, hb9⟩
      have HS9 := Lib.hid (HS8.out.later hb9)
      have HT9 := Lib.hid (HT8.out.later hb9)
      have HE9 := Lib.hid (HE8.out.below hb9)
      have HH9 := Lib.hid (HH8.out.later hb9)
      clear hb9
      by_cases hE : er = 0
      · subst hE
        go_wp2
        go_roundw
        case rel => exact ⟨k + 1, _, by omega, by go_num, HS9.out, HB64.out.1, HB64.out.2, HE9.out, HH9.out⟩
        case measure => simp [intOf]; omega
      · have e5 := ne_of0 hE
        obtain ⟨rfl, rfl⟩ := HFt.out.2.2 hE
        have f6 : (ck + ((0 : Nat) : Int) != ck) = false := by simp
        clear hE
        go_wp2_with fail
        refine (HT.out.count w9 g s (ck + ((0 : Nat) : Int)) HE9.out HS9.out).mono ?_
        rintro e w10 ⟨rfl, hb10⟩
        have HS10 := Lib.hid (HS9.out.later hb10)
        have HT10 := Lib.hid (HT9.out.later hb10)
        have HE10 := Lib.hid (HE9.out.below hb10)
        have HH10 := Lib.hid (HH9.out.later hb10)
        clear hb10
        go_wp2
        go_roundw
        case rel => exact ⟨k + 1, _, by omega, by go_num, HS10.out, HB64.out.1, HB64.out.2, HE10.out, HH10.out⟩
        case measure => simp [intOf]; omega
    · obtain rfl : k = N := by omega
      have hdf : decide (k < k) = false := by simp
      clear hlt hk
      go_wp2_with fail
      refine (awake_any HT.out HPk.out _ HEk.out).mono ?_
      rintro e wa ⟨rfl, hba⟩
      have HBa := Lib.hid ((HHk.out.below).trans (hba.mono (HHk.out.below).size))
      clear hba
      go_wp2
      go_ret
      exact ⟨rfl, HBa.out⟩
end Go.Proofs.YtmolkbmdfkeniaaDoor.Dr
