import Derived.Test.YtchjijifmjbgoaaDoorGy
namespace Go.Proofs.YtchjijifmjbgoaaDoor.Tn
open Go.ChangeShapes Go.WideShapes Go.ChangeAt Go.RowKit Go.Proofs.YtchjijifmjbgoaaDoor.Fx Go.Proofs.YtchjijifmjbgoaaDoor.Rf

theorem chkV_in {l : List Int} (hc : chkV l = 0) : ∀ x ∈ l, isN x := by
  unfold chkV at hc
  by_cases hh : l.length < 1 ∨ 512 < l.length
  · rw [if_pos hh] at hc; omega
  · rw [if_neg hh] at hc
    refine Classical.byContradiction fun hn => ?_
    rw [if_neg hn] at hc
    omega
theorem vecs_one (w : World) (sp : Option Addr) (cap N : Nat) (v : List Int) (hN : v.length = N) (hv : Nums w sp cap v) : Vecs (w.alloc (.cells #[.slice sp N cap] 22)) (some ⟨w.heap.size, 0, none⟩) 1 [v] := by
  have hs := Sl.new w [.slice sp N cap] #[.slice sp N cap] 22 (0, 0) rfl (by simp)
  refine ⟨[.slice sp N cap], rfl, hs, fun i x hx => ?_⟩
  rcases i with _ | i
  · simp at hx
    subst hx
    exact ⟨sp, cap, by rw [show ([v].getD 0 []) = v from rfl, hN], hv.below ((Below.refl _ _).alloc (Nat.le_refl _) _)⟩
  · simp at hx
def ksOf (ps : List Int) (N i : Nat) : List Nat := (ps.take i).map (kOf · N)
theorem ksOf_length (ps : List Int) (N i : Nat) (h : i ≤ ps.length) : (ksOf ps N i).length = i := by simp [ksOf]; omega
theorem ksOf_succ (ps : List Int) (N i : Nat) (h : i < ps.length) : ksOf ps N (i + 1) = ksOf ps N i ++ [kOf (ps.getD i 0) N] := by
  unfold ksOf
  rw [take_snoc ps i h, List.map_append]
  rfl
theorem ksOf_in (ps : List Int) (N i : Nat) (h : 1 ≤ N) : ∀ k ∈ ksOf ps N i, k < N := fun k hk => by
  obtain ⟨x, _, rfl⟩ := List.mem_map.1 hk
  exact (kOf_spec x N h).2.2.2.2
def rowI7 (l : List Int) : Array Value := (l.map (Value.int .i64)).toArray
theorem made_nums (n : Nat) : madeCells #[Value.int .i64 0] n = rowI7 (List.replicate n 0) := by
  apply Array.ext
  · simp [madeCells, rowI7]
  · intro i h1 h2
    simp [madeCells, rowI7, Nat.mod_one]
theorem rowI7_get (l : List Int) (i : Nat) (h : i < l.length) : (rowI7 l)[i]? = some (.int .i64 (l.getD i 0)) := by simp [rowI7, h]
theorem rowI7_set (l : List Int) (i : Nat) (x : Int) : (rowI7 l).setIfInBounds i (.int .i64 x) = rowI7 (l.set i x) := by simp [rowI7, List.map_set]
theorem nums_row {W : World} {g n : Nat} {l : List Int} (h : W.heap[g]? = some (.cells (rowI7 l) 3 (0, 0))) (hn : l.length = n) (hl : n ≤ 1000000) : Nums W (some ⟨g, 0, none⟩) n l := by
  refine ⟨by rw [List.length_map, hn]; exact Nat.le_refl _, by unfold maxLen; omega, (fun h => by cases h), fun _ => ⟨_, _, rfl, fun i v hv => ?_⟩⟩
  rw [cell_of_row _ _ _ _ _ _ h, Nat.zero_add, ← hv]
  simp [rowI7]
/-- while the matrix is written -/
structure UnS (w1 : World) (N K z0 : Nat) (v ps : List Int) (i : Nat) (out : Value) (W : World) : Prop where
  below : Below w1.heap.size w1 W
  mat : W.heap[w1.heap.size]? = some (.cells (rowI7 (unitK N K (ksOf ps N i))) 3 (0, 0))
  str : W.heap[w1.heap.size + 1]? = some (.cells (matC (K : Int) (N : Int) (some ⟨w1.heap.size, 0, none⟩) z0 z0) 24 (0, 0))
  own : W.ownsRow (w1.heap.size + 2) 3 1 out i (((ksOf ps N i).map fun k => v.getD k 0).map (Value.int .i64))
theorem UnS.mark {w1 W : World} {N K z0 : Nat} {v ps : List Int} {i : Nat} {out : Value} (h : UnS w1 N K z0 v ps i out W) (z : Nat) (hz : (unitK N K (ksOf ps N i)).set z 65536 = unitK N K (ksOf ps N (i + 1))) :
    Below w1.heap.size w1 (W.setCell ⟨w1.heap.size, z, none⟩ (.int .i64 65536)) ∧ (W.setCell ⟨w1.heap.size, z, none⟩ (.int .i64 65536)).heap[w1.heap.size]? = some (.cells (rowI7 (unitK N K (ksOf ps N (i + 1)))) 3 (0, 0)) ∧ (W.setCell ⟨w1.heap.size, z, none⟩ (.int .i64 65536)).heap[w1.heap.size + 1]? = some (.cells (matC (K : Int) (N : Int) (some ⟨w1.heap.size, 0, none⟩) z0 z0) 24 (0, 0)) ∧ (W.setCell ⟨w1.heap.size, z, none⟩ (.int .i64 65536)).ownsRow (w1.heap.size + 2) 3 1 out i (((ksOf ps N i).map fun k => v.getD k 0).map (Value.int .i64)) := by
  refine ⟨h.below.setCell (Nat.le_refl _) _, ?_, ?_, h.own.kept (row := some w1.heap.size) ⟨rfl, rfl, rfl, by simp, fun k _ hk => heap_setCell_other _ _ _ _ (fun e => hk (by rw [e]))⟩ (Or.inr fun e => ?_)⟩
  · rw [heap_setCell_same _ _ _ _ _ _ h.mat, rowI7_set, hz]
  · rw [heap_setCell_other _ _ _ _ (by simp)]; exact h.str
  · have := (h.own.lt _ e).1
    omega
set_option maxRecDepth 100000 in
set_option maxHeartbeats 4000000 in
theorem unit_walk {E : World → Prop} (T : TensorOK E) (w : World) (sp sq sr : Option Addr) (cap caq car N K M : Nat) (v ps u : List Int) (hN : v.length = N) (hK : ps.length = K) (hM : u.length = M) (hv : Nums w sp cap v) (hp : Nums w sq caq ps) (hu : Nums w sr car u) (he : E w) : Calls Tryd.prog 11 #[.slice sp N cap, .slice sq K caq, .slice sr M car] w fun e w' => e = .returned (.bool true) ∧ Below w.heap.size w w' := by
  have HE := Lib.hid he
  have HT := Lib.hid T
  clear he T
  have HB0 := Lib.hid (Below.refl w.heap.size w)
  have hNm : N ≤ 9223372036854775807 := by rw [← hN]; exact hv.len
  have hKm : K ≤ 9223372036854775807 := by rw [← hK]; exact hp.len
  have hMm : M ≤ 9223372036854775807 := by rw [← hM]; exact hu.len
  have HCk := Lib.hid (fun W he hv => HT.out.check W sp cap v he hv)
  rw [hN] at HCk
  have HV := Lib.hid hv
  have HP := Lib.hid hp
  have HU := Lib.hid hu
  have HNn := Lib.hid hN
  have HKn := Lib.hid hK
  have HMn := Lib.hid hM
  clear hv hp hu
  by_cases b4 : N < 1
  · have e1 : decide ((N : Int) < 1) = true := by simp; omega
    go_enter Tryd.func11, Tryd.ntmps11
    go_wp2_with fail
    refine (awake_any HT.out _ (HT.out.env _ _ HE.out HB0.out)).mono ?_
    rintro e w1 ⟨rfl, hb1⟩
    have HB1 := Lib.hid (HB0.out.trans (hb1.mono HB0.out.size))
    clear hb1
    go_wp2
    go_ret
    exact ⟨rfl, HB1.out⟩
  · have e1 : decide ((N : Int) < 1) = false := by simp; omega
    by_cases b3 : 64 < N
    · have e2 : decide ((64 : Int) < (N : Int)) = true := by simp; omega
      go_enter Tryd.func11, Tryd.ntmps11
      go_wp2_with fail
      refine (awake_any HT.out _ (HT.out.env _ _ HE.out HB0.out)).mono ?_
      rintro e w1 ⟨rfl, hb1⟩
      have HB1 := Lib.hid (HB0.out.trans (hb1.mono HB0.out.size))
      clear hb1
      go_wp2
      go_ret
      exact ⟨rfl, HB1.out⟩
    · have e2 : decide ((64 : Int) < (N : Int)) = false := by simp; omega
      by_cases b2 : K < 1
      · have e3 : decide ((K : Int) < 1) = true := by simp; omega
        go_enter Tryd.func11, Tryd.ntmps11
        go_wp2_with fail
        refine (awake_any HT.out _ (HT.out.env _ _ HE.out HB0.out)).mono ?_
        rintro e w1 ⟨rfl, hb1⟩
        have HB1 := Lib.hid (HB0.out.trans (hb1.mono HB0.out.size))
        clear hb1
        go_wp2
        go_ret
        exact ⟨rfl, HB1.out⟩
      · have e3 : decide ((K : Int) < 1) = false := by simp; omega
        by_cases b1 : 20 < K
        · have e4 : decide ((20 : Int) < (K : Int)) = true := by simp; omega
          go_enter Tryd.func11, Tryd.ntmps11
          go_wp2_with fail
          refine (awake_any HT.out _ (HT.out.env _ _ HE.out HB0.out)).mono ?_
          rintro e w1 ⟨rfl, hb1⟩
          have HB1 := Lib.hid (HB0.out.trans (hb1.mono HB0.out.size))
          clear hb1
          go_wp2
          go_ret
          exact ⟨rfl, HB1.out⟩
        · have e4 : decide ((20 : Int) < (K : Int)) = false := by simp; omega
          by_cases b0 : 64 < M
          · have e5 : decide ((64 : Int) < (M : Int)) = true := by simp; omega
            go_enter Tryd.func11, Tryd.ntmps11
            go_wp2_with fail
            refine (awake_any HT.out _ (HT.out.env _ _ HE.out HB0.out)).mono ?_
            rintro e w1 ⟨rfl, hb1⟩
            have HB1 := Lib.hid (HB0.out.trans (hb1.mono HB0.out.size))
            clear hb1
            go_wp2
            go_ret
            exact ⟨rfl, HB1.out⟩
          · have e5 : decide ((64 : Int) < (M : Int)) = false := by simp; omega
            by_cases hc : chkV v = 0
            · have hall := chkV_in hc
              have HAl := Lib.hid (fun k (hk : k < N) => in_of (p := isN) hall k (by omega))
              have HCv := Lib.hid hc
              have HCn := Lib.hid hall
              rw [hc] at HCk
              have hKN : K * N ≤ 1280 := Nat.le_trans (Nat.mul_le_mul (show K ≤ 20 by omega) (show N ≤ 64 by omega)) (by omega)
              obtain ⟨z0, hz0⟩ : ∃ z, K * N = z := ⟨_, rfl⟩
              have HZ0 := Lib.hid hz0
              have hkn : (K : Int) * (N : Int) = (z0 : Int) := by rw [← hz0, Int.natCast_mul]
              rw [hz0] at hKN
              clear hc hall hz0 hN hK hM
              go_enter Tryd.func11, Tryd.ntmps11
              go_wp2_with fail
              refine (HCk.out _ (HT.out.env _ _ HE.out HB0.out) (HV.out.below HB0.out)).mono ?_
              rintro e w1 ⟨rfl, hb1⟩
              have HB1 := Lib.hid (HB0.out.trans (hb1.mono HB0.out.size))
              clear hb1
              go_wp2_with (refine wpList_makeN 22 3 8 (.int .i64 0) Tryd.underlying22 info3 (by decide) rfl (.tmp 56) (.tmp 56) rfl z0 rfl rfl (by omega) ?_)
              go_wp2
              refine gen_world (Q := fun w => Code.wp _ _ _ _ w) _ (UnS w1 N K z0 v ps 0 (.slice none 0 0)) ⟨((Below.refl _ _).alloc (Nat.le_refl _) _).alloc (by simp) _, ?_, ?_, World.ownsRow_nil _ _ _ _⟩ ?_
              · rw [Below.heap_alloc _ _ _ (by simp), show madeCells #[Value.int .i64 0] z0 = rowI7 (unitK N K (ksOf ps N 0)) from by rw [made_nums, ← HZ0.out]; simp [unitK, unitL, ksOf]]
                exact heap_alloc_new _ _
              · have h := heap_alloc_new (w1.alloc (.cells (madeCells #[Value.int .i64 0] z0) 3)) (.cells (matC (K : Int) (N : Int) (some ⟨w1.heap.size, 0, none⟩) z0 z0) 24)
                rw [World.size_alloc] at h
                exact h
              intro W hW
              have HW := Lib.hid hW
              have HV1 := Lib.hid (HV.out.below HB1.out)
              have HP1 := Lib.hid (HP.out.below HB1.out)
              have hN1 : 1 ≤ N := by omega
              clear hW
              go_loopw [8, 9] (fun out i wr => ∃ q : Nat, q ≤ K ∧ i = .int .i64 q ∧ UnS w1 N K z0 v ps q out wr) (fun _ i _ => K - (intOf i).toNat)
              case atStart => exact ⟨0, by omega, rfl, HW.out⟩
              case round =>
                obtain ⟨q, hq, rfl, hS⟩ := hrel
                obtain ⟨sv, cv, rfl, _, _, _⟩ := Sl.all1 hS.own
                have HS := Lib.hid hS
                clear hS
                by_cases hlt : q < K
                · have hdt : decide (q < K) = true := by simp; omega
                  obtain ⟨g, o, e, hc1⟩ := HP1.out.at_ q (by rw [HKn.out]; exact hlt)
                  subst e
                  have hc1r : wr.cell? _ = _ := (HS.out.below.cell (block_lt_of_cell hc1)).trans hc1
                  have hks := ksOf_succ ps N q (by rw [HKn.out]; exact hlt)
                  have hkl := ksOf_length ps N q (by rw [HKn.out]; omega)
                  have hul := unitK_length N K (ksOf ps N q) (by omega)
                  obtain ⟨x, hx⟩ : ∃ x, ps.getD q 0 = x := ⟨_, rfl⟩
                  rw [hx] at hc1r hks
                  obtain ⟨t1, t2, t3, t4, t5⟩ := kOf_spec x N hN1
                  obtain ⟨a, ha⟩ : ∃ a, x.tmod (N : Int) = a := ⟨_, rfl⟩
                  rw [ha] at t1 t2 t3 t4
                  obtain ⟨kk, hkk⟩ : ∃ k, kOf x N = k := ⟨_, rfl⟩
                  rw [hkk] at t3 t4 t5 hks
                  obtain ⟨g2, o2, e, hc2⟩ := HV1.out.at_ kk (by rw [HNn.out]; exact t5)
                  subst e
                  have hc2r : wr.cell? _ = _ := (HS.out.below.cell (block_lt_of_cell hc2)).trans hc2
                  have hset := unitK_set N K (ksOf ps N q) kk t5 (by omega)
                  rw [hkl, ← hks] at hset
                  have hin := row_in (C := N) hlt
                  rw [HZ0.out] at hin hul
                  obtain ⟨z, hz⟩ : ∃ z, q * N = z := ⟨_, rfl⟩
                  rw [hz] at hset hin
                  have hqc : (q : Int) * (N : Int) = (z : Int) := by rw [← hz, Int.natCast_mul]
                  have hzk : z + kk < z0 := by omega
                  have HMk := Lib.hid (HS.out.mark (z + kk) hset)
                  have hcm : wr.cell? ⟨w1.heap.size, z + kk, none⟩ = _ := (cell_of_row _ _ (z + kk) _ _ _ HS.out.mat).trans (rowI7_get _ (z + kk) (by rw [hul]; exact hzk))
                  have hfz : wr.frozen? ⟨w1.heap.size, z + kk, none⟩ = false := frozen_of_row _ _ _ _ _ HS.out.mat
                  have hcs : wr.cell? ⟨w1.heap.size + 1, 2, none⟩ = some (.slice (some ⟨w1.heap.size, 0, none⟩) z0 z0) := by rw [cell_of_row _ _ _ _ _ _ HS.out.str]; rfl
                  have HQ : Hid (((ksOf ps N (q + 1)).map fun k => v.getD k 0) = ((ksOf ps N q).map fun k => v.getD k 0) ++ [v.getD kk 0]) := Lib.hid (by rw [hks, List.map_append]; rfl)
                  obtain ⟨y, hy⟩ : ∃ x, v.getD kk 0 = x := ⟨_, rfl⟩
                  rw [hy] at hc2 hc2r HQ
                  clear hx hkk hks hkl hul hset hz hy hc1
                  go_upto_region 10 with fail
                  refine gen_world (Q := fun w => Code.wp _ _ _ _ w) _ (fun W => (Below w1.heap.size w1 W ∧ W.heap[w1.heap.size]? = some (.cells (rowI7 (unitK N K (ksOf ps N (q + 1)))) 3 (0, 0)) ∧ W.heap[w1.heap.size + 1]? = some (.cells (matC (K : Int) (N : Int) (some ⟨w1.heap.size, 0, none⟩) z0 z0) 24 (0, 0)) ∧ W.ownsRow (w1.heap.size + 2) 3 1 (.slice sv q cv) q (((ksOf ps N q).map fun k => v.getD k 0).map (Value.int .i64))) ∧ W.cell? ⟨g2, o2 + kk, none⟩ = some (.int .i64 y)) ⟨HMk.out, ?_⟩ ?_
                  · exact (HMk.out.1.cell (p := ⟨g2, o2 + kk, none⟩) (block_lt_of_cell hc2)).trans hc2
                  rintro W2 ⟨⟨b1, b2, b3, b4⟩, hy2⟩
                  have hW1 : w1.heap.size + 2 ≤ W2.heap.size := (Array.getElem?_eq_some_iff.1 b3).1
                  have B1 := Lib.hid b1
                  have B2 := Lib.hid b2
                  have B3 := Lib.hid b3
                  have B4 := Lib.hid b4
                  clear b1 b2 b3 b4 hc1r hc2r hcm hfz hcs HMk HS hc2 t1 t2 t3 t4 hqc ha hzk
                  go_wp2_with (refine wpList_push rfl (.tmp 87) (.tmp 92) rfl (w1.heap.size + 2) (.slice sv q cv) q ((ksOf ps N q).map fun k => v.getD k 0) y rfl B4.out rfl (by omega) hW1 ?_; intro v2 w2 hown2 hb2; have HO2 := Lib.hid hown2; have HB2 := Lib.hid hb2; clear hown2 hb2)
                  go_roundw
                  case rel => exact ⟨q + 1, by omega, by go_num, B1.out.trans (HB2.out.mono (by omega)), (HB2.out.block _ (by omega)).trans B2.out, (HB2.out.block _ (by omega)).trans B3.out, by rw [HQ.out]; exact HO2.out⟩
                  case measure => simp [intOf]; omega
                · obtain rfl : q = K := by omega
                  have hdf : decide (q < q) = false := by simp
                  have hkl := ksOf_length ps N q (by rw [HKn.out]; omega)
                  have hmt := HS.out.mat
                  rw [unitK_full N q _ hkl] at hmt
                  have hul : (unitL N (ksOf ps N q)).length = z0 := by rw [unitL_length, hkl]; exact HZ0.out
                  have hML := nums_row hmt hul (by omega)
                  have HStr := Lib.hid HS.out.str
                  obtain ⟨m1, m2⟩ := unit_mul HNn.out (by omega) (by omega) hkl (by omega) (by omega) (ksOf_in ps N q (by omega)) HCn.out
                  have HBr := Lib.hid (HB1.out.trans (HS.out.below.mono HB1.out.size))
                  have HMu := Lib.hid (HT.out.mul wr (q : Int) (N : Int) (some ⟨w1.heap.size, 0, none⟩) sp z0 cap (unitL N (ksOf ps N q)) v (HT.out.env _ _ HE.out HBr.out) hML (HV.out.below HBr.out))
                  rw [m1, m2, hul, HNn.out] at HMu
                  unfold matV at HMu
                  have HLn : Hid (((ksOf ps N q).map fun k => v.getD k 0).length = q) := Lib.hid (by rw [List.length_map]; exact hkl)
                  obtain ⟨so, co, e, hlen, hnm⟩ := own_nums HS.out.own
                  cases e
                  have HNm := Lib.hid hnm
                  clear hkl hmt hul hML m1 m2 hlen hnm
                  go_wp2_with (refine wpList_load_row rfl 24 (.tmp 7) rfl (w1.heap.size + 1) rfl 24 (matC (q : Int) (N : Int) (some ⟨w1.heap.size, 0, none⟩) z0 z0) (0, 0) _ HStr.out Tryd.underlying24 rfl size_mat ?_)
                  refine HMu.out.mono ?_
                  rintro e w3 ⟨s3, c3, rfl, hn3, hb3⟩
                  rw [HLn.out]
                  have HN3 := Lib.hid hn3
                  have HNm3 := Lib.hid (HNm.out.below hb3)
                  have HB3 := Lib.hid (HBr.out.trans (hb3.mono HBr.out.size))
                  clear hn3 hb3 HStr
                  go_wp2_with fail
                  refine (ints_same _ _ _ _ _ q ((ksOf ps N q).map fun k => v.getD k 0) HLn.out HN3.out HNm3.out).mono ?_
                  rintro e w4 ⟨rfl, hb4⟩
                  have HB4 := Lib.hid (HB3.out.trans (hb4.mono HB3.out.size))
                  clear hb4
                  have HA1 := Lib.hid (HT.out.add w4 sp sr cap car v u (HT.out.env _ _ HE.out HB4.out) (HV.out.below HB4.out) (HU.out.below HB4.out))
                  obtain ⟨ae, hae⟩ : ∃ x, addE v u = x := ⟨_, rfl⟩
                  obtain ⟨B, hB⟩ : ∃ x, (addV v u).length = x := ⟨_, rfl⟩
                  have HBl := Lib.hid hB
                  rw [hae, HNn.out, HMn.out] at HA1
                  go_wp2_with fail
                  refine HA1.out.mono ?_
                  rintro e w5 ⟨s5, c5, rfl, hn5, hb5⟩
                  rw [HBl.out]
                  have HN5 := Lib.hid hn5
                  have HB5 := Lib.hid (HB4.out.trans (hb5.mono HB4.out.size))
                  clear hn5 hb5
                  have HA2 := Lib.hid (HT.out.add w5 sr sp car cap u v (HT.out.env _ _ HE.out HB5.out) (HU.out.below HB5.out) (HV.out.below HB5.out))
                  rw [(add_turn HCv.out).1, (add_turn HCv.out).2, hae, HNn.out, HMn.out] at HA2
                  clear hae hB
                  go_wp2_with fail
                  refine HA2.out.mono ?_
                  rintro e w6 ⟨s6, c6, rfl, hn6, hb6⟩
                  rw [HBl.out]
                  have HN6 := Lib.hid hn6
                  have HN5b := Lib.hid (HN5.out.below hb6)
                  have HB6 := Lib.hid (HB5.out.trans (hb6.mono HB5.out.size))
                  clear hn6 hb6
                  go_wp2_with fail
                  have b7 : Below w6.heap.size w6 ((w6.alloc (.cells #[.int .i64 65536] 3)).alloc (.cells #[.slice sp N cap] 22)) := ((Below.refl _ _).alloc (Nat.le_refl _) _).alloc (by simp) _
                  have n1 := (nums_new w6 [65536] #[.int .i64 65536] 1 rfl rfl (by omega)).below ((Below.refl _ _).alloc (Nat.le_refl _) (.cells #[.slice sp N cap] 22))
                  have n2 := vecs_one (w6.alloc (.cells #[.int .i64 65536] 3)) sp cap N v HNn.out ((HV.out.below HB6.out).below ((Below.refl _ _).alloc (Nat.le_refl _) _))
                  rw [World.size_alloc] at n2
                  have hmx := HT.out.mix _ _ _ 1 1 [65536] [v] (HT.out.env _ _ HE.out (HB6.out.trans (b7.mono HB6.out.size))) n1 n2
                  rw [(mix_one HCv.out).1, (mix_one HCv.out).2] at hmx
                  refine hmx.mono ?_
                  rintro e w7 ⟨s7, c7, rfl, hn7, hb7⟩
                  rw [HNn.out]
                  have hb67 : Below w6.heap.size w6 w7 := b7.trans (hb7.mono (by simp; omega))
                  have HN5c := Lib.hid (HN5b.out.below hb67)
                  have HN6c := Lib.hid (HN6.out.below hb67)
                  have HN7 := Lib.hid hn7
                  have HB7 := Lib.hid (HB6.out.trans (hb67.mono HB6.out.size))
                  clear b7 n1 n2 hmx hn7 hb7 hb67
                  go_wp2_with fail
                  refine (ints_same _ _ _ _ _ B (addV v u) HBl.out HN5c.out HN6c.out).mono ?_
                  rintro e w8 ⟨rfl, hb8⟩
                  have HN7b := Lib.hid (HN7.out.below hb8)
                  have HB8 := Lib.hid (HB7.out.trans (hb8.mono HB7.out.size))
                  clear hb8
                  go_wp2_with fail
                  refine (ints_same _ _ _ _ _ N v HNn.out HN7b.out (HV.out.below HB8.out)).mono ?_
                  rintro e w9 ⟨rfl, hb9⟩
                  have HB9 := Lib.hid (HB8.out.trans (hb9.mono HB8.out.size))
                  clear hb9
                  go_wp2_with fail
                  refine (awake_any HT.out _ (HT.out.env _ _ HE.out HB9.out)).mono ?_
                  rintro e w10 ⟨rfl, hb10⟩
                  have HB10 := Lib.hid (HB9.out.trans (hb10.mono HB9.out.size))
                  clear hb10
                  go_wp2
                  go_ret
                  exact ⟨rfl, HB10.out⟩
            · obtain ⟨y, hy⟩ : ∃ x, chkV v = x := ⟨_, rfl⟩
              rw [hy] at HCk hc
              have f1 : (y != 0) = true := by simpa using hc
              clear hc hy hN hK hM
              go_enter Tryd.func11, Tryd.ntmps11
              go_wp2_with fail
              refine (HCk.out _ (HT.out.env _ _ HE.out HB0.out) (HV.out.below HB0.out)).mono ?_
              rintro e w1 ⟨rfl, hb1⟩
              have HB1 := Lib.hid (HB0.out.trans (hb1.mono HB0.out.size))
              clear hb1
              go_wp2_with fail
              refine (awake_any HT.out _ (HT.out.env _ _ HE.out HB1.out)).mono ?_
              rintro e w2 ⟨rfl, hb2⟩
              have HB2 := Lib.hid (HB1.out.trans (hb2.mono HB1.out.size))
              clear hb2
              go_wp2
              go_ret
              exact ⟨rfl, HB2.out⟩
end Go.Proofs.YtchjijifmjbgoaaDoor.Tn
