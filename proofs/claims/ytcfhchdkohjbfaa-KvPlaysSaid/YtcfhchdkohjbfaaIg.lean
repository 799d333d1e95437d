/- Pools of rows in pages (I): Share, Close, Pages. -/
import Derived.Test.YtcfhchdkohjbfaaIf
namespace Go.Proofs.Ytcfhchdkohjbfaa.Kv.I
set_option maxRecDepth 100000
open Go.ChangeShapes Go.WideShapes Go.ChangeAt Go.RowKit Go.Proofs.Ytcfhchdkohjbfaa.Tn
open Go.ChangeMaps (setBlock heap_setBlock_same heap_setBlock_other)
section
variable {w : World} {τ : Tags} {g : Nat}
theorem divw {n s : Nat} : (n : Int).tdiv (s : Int) = ((n / s : Nat) : Int) := by rw [Int.tdiv_eq_ediv_of_nonneg (by omega)]; rfl
theorem share_nil (w : World) (id n : Int) : Calls Try.prog 21 #[.pointer none, .int .i64 id, .int .i64 n] w fun e w' => e = .returned (.tuple #[.int .i64 0, .int .i64 2]) ∧ w = w' := by
  go_enter Try.func21, Try.ntmps21
  go_wp2_with fail
  refine (row_nil w id).mono ?_
  rintro e w1 ⟨rfl, rfl⟩
  go_wp2
  go_ret2
  exact ⟨rfl, rfl⟩
theorem close_nil (w : World) (id : Int) : Calls Try.prog 19 #[.pointer none, .int .i64 id] w fun e w' => e = .returned (.int .i64 2) ∧ w = w' := by
  go_enter Try.func19, Try.ntmps19
  go_wp2_with fail
  refine (row_nil w id).mono ?_
  rintro e w1 ⟨rfl, rfl⟩
  go_wp2
  go_ret
  exact ⟨rfl, rfl⟩
theorem pages_nil (w : World) (id : Int) : Calls Try.prog 15 #[.pointer none, .int .i64 id] w fun e w' => e = .returned (.slice none 0 0) ∧ w = w' := by
  go_enter Try.func15, Try.ntmps15
  go_wp2_with fail
  refine (row_nil w id).mono ?_
  rintro e w1 ⟨rfl, rfl⟩
  go_wp2
  go_ret
  exact ⟨rfl, rfl⟩
/-- Pages -/
theorem pages_any {D : Doc Int} (h : Pool kind w τ g D) (id : Int) : Calls Try.prog 15 #[.pointer (some ⟨g, 0, none⟩), .int .i64 id] w fun e w' => ∃ sq cq b', e = .returned (.slice sq ((rowAt D id).elim [] (·.2)).length cq) ∧ Row w' 3 (.slice sq ((rowAt D id).elim [] (·.2)).length cq) b' (((rowAt D id).elim [] (·.2)).map natV) ∧ Below w.heap.size w w' := by
  obtain ⟨ly, pg, h0, hG⟩ := h
  cases hrow : rowAt D id with
  | none =>
    have HN := Lib.hid (rowAt_no hrow)
    have H0 := Lib.hid h0
    clear hrow h0 hG
    go_enter Try.func15, Try.ntmps15
    go_wp2_with fail
    refine (row_no H0.out id HN.out).mono ?_
    rintro e w1 ⟨rfl, rfl⟩
    go_wp2
    go_ret
    exact ⟨none, 0, none, rfl, Row.nil _ _ _, Below.refl _ _⟩
  | some r =>
    obtain ⟨L, P⟩ := r
    obtain ⟨k, rfl, hk⟩ := rowAt_yes hrow
    have hsh := (hG.row k L P hk).short hG.s0
    have hp1 := hG.p1
    have HOp := Lib.hid ((isOpen_roOf D.rows k).2 ⟨_, hk⟩)
    have HRo := Lib.hid (roOf_at hk)
    have H0 := Lib.hid h0
    obtain ⟨_, r1⟩ := h0.rowC HRo.out
    obtain ⟨_, _, hrw, _⟩ := h0.row k _ _ HRo.out
    obtain ⟨sp, cap, hpv, _⟩ := hrw.slice
    rw [hpv] at r1 hrw
    have HR := Lib.hid hrw
    obtain ⟨N, hN⟩ : ∃ N, P.length = N := ⟨_, rfl⟩
    have hN2 : (P.map natV).length = N := by simpa using hN
    rw [hN2] at r1 HR
    have HN := Lib.hid hN
    have HN2 := Lib.hid hN2
    obtain ⟨rb, hrb⟩ : ∃ rb, ly.rb k = rb := ⟨_, rfl⟩
    rw [hrb] at r1
    have HRb := Lib.hid hrb
    clear hrow h0 hG hk hrw hpv hN2 hrb
    show Calls _ _ _ _ fun e w' => ∃ sq cq b', e = .returned (.slice sq P.length cq) ∧ Row w' 3 (.slice sq P.length cq) b' (P.map natV) ∧ Below w.heap.size w w'
    rw [hN]
    clear hN
    go_enter Try.func15, Try.ntmps15
    go_wp2_with fail
    refine (row_yes H0.out k HOp.out).mono ?_
    rintro e w1 ⟨rfl, rfl⟩
    rw [HRb.out]
    go_wp2_with fail
    refine (clone_any w _ _ _ HR.out (one_nats _) N HN2.out (by have := HN.out; omega)).mono ?_
    rintro e w2 ⟨sq, cq, b', rfl, k1, _, k2⟩
    have K1 := Lib.hid k1
    have K2 := Lib.hid k2
    clear k1 k2
    go_wp2
    go_ret
    exact ⟨sq, cq, b', rfl, K1.out, K2.out⟩
set_option maxHeartbeats 4000000 in
/-- Share -/
theorem shareD_any {D : Doc Int} (h : Pool kind w τ g D) (id n : Int) : Calls Try.prog 21 #[.pointer (some ⟨g, 0, none⟩), .int .i64 id, .int .i64 n] w fun e w' => e = .returned (.tuple #[.int .i64 (shareD D id n).1.1, .int .i64 (shareD D id n).1.2]) ∧ ∃ τ', Pool kind w' τ' g (shareD D id n).2 ∧ Step Tag.mine τ τ' w w' := by
  have HP := Lib.hid h
  obtain ⟨ly, pg, h0, hG⟩ := h
  cases hrow : rowAt D id with
  | none =>
    have e1 : shareD D id n = ((0, 14), D) := by unfold shareD; rw [hrow]
    rw [e1]
    have HN := Lib.hid (rowAt_no hrow)
    have H0 := Lib.hid h0
    clear e1 hrow h0 hG
    go_enter Try.func21, Try.ntmps21
    go_wp2_with fail
    refine (row_no H0.out id HN.out).mono ?_
    rintro e w1 ⟨rfl, rfl⟩
    go_wp2
    go_ret2
    exact ⟨rfl, τ, HP.out, Step.refl _ _ _⟩
  | some r =>
    obtain ⟨L, P⟩ := r
    obtain ⟨k, rfl, hk⟩ := rowAt_yes hrow
    have hOK := hG.row k L P hk
    have hsh := hOK.short hG.s0
    have hp1 := hG.p1
    have hs0 := hG.s0
    have hs1 := hG.s1
    have hL64 : L.length ≤ 16384 := Nat.le_trans hsh.2 (Nat.le_trans (Nat.mul_le_mul hG.p1 hG.s1) (by decide))
    have HOp := Lib.hid ((isOpen_roOf D.rows k).2 ⟨_, hk⟩)
    have HRo := Lib.hid (roOf_at hk)
    have H0 := Lib.hid h0
    have e1 : shareD D (k : Int) n = if n < 0 ∨ (L.length : Int) < n then ((0, 10), D) else if D.rows.length = 1024 then ((0, 16), D)
      else (((D.rows.length : Int), 0), addRow D (L.take n.toNat) (P.take ((n.toNat + D.size - 1) / D.size))) := by unfold shareD; rw [hrow]
    rw [e1]
    obtain ⟨q0, _, _, _⟩ := h0.cells
    obtain ⟨r0, r1⟩ := h0.rowC HRo.out
    obtain ⟨N, hN⟩ : ∃ N, L.length = N := ⟨_, rfl⟩
    obtain ⟨s, hs⟩ : ∃ s, D.size = s := ⟨_, rfl⟩
    obtain ⟨rb, hrb⟩ : ∃ rb, ly.rb k = rb := ⟨_, rfl⟩
    rw [hrb, hN] at r0
    rw [hrb] at r1
    have HRb := Lib.hid hrb
    rw [hN] at hL64 HRo ⊢
    rw [hs] at hs0 hs1 q0 H0 ⊢
    have HNn := Lib.hid hN
    have HSs := Lib.hid hs
    clear e1 hrow hrb hN hs
    by_cases h1 : n < 0
    · rw [if_pos (Or.inl h1)]
      have d1 : decide (n < 0) = true := by simpa using h1
      clear h0 hG hk hOK
      go_enter Try.func21, Try.ntmps21
      go_wp2_with fail
      refine (row_yes H0.out k HOp.out).mono ?_
      rintro e w1 ⟨rfl, rfl⟩
      rw [HRb.out]
      go_wp2
      go_ret2
      exact ⟨rfl, τ, HP.out, Step.refl _ _ _⟩
    · have d1 : decide (n < 0) = false := by simpa using h1
      by_cases h2 : (N : Int) < n
      · rw [if_pos (Or.inr h2)]
        have d2 : decide ((N : Int) < n) = true := by simpa using h2
        clear h0 hG hk hOK
        go_enter Try.func21, Try.ntmps21
        go_wp2_with fail
        refine (row_yes H0.out k HOp.out).mono ?_
        rintro e w1 ⟨rfl, rfl⟩
        rw [HRb.out]
        go_wp2
        go_ret2
        exact ⟨rfl, τ, HP.out, Step.refl _ _ _⟩
      · have d2 : decide ((N : Int) < n) = false := by simpa using h2
        rw [if_neg (by omega)]
        obtain ⟨m, rfl⟩ := Int.eq_ofNat_of_zero_le (show 0 ≤ n by omega)
        have hmN : m ≤ N := by omega
        have hrw := (h0.row k _ _ HRo.out)
        rw [HNn.out.symm] at hrw
        obtain ⟨_, _, hrw, htg⟩ := hrw
        obtain ⟨sp, cap, hpv, hcp, hcm, _⟩ := hrw.slice
        rw [hpv] at r1 hrw
        rw [List.length_map] at r1 hcp
        unfold maxLen at hcm
        have hh : (m + s - 1) / s ≤ P.length := by
          rw [hOK.pl, HNn.out, HSs.out]
          exact div_up m N s hs0 hmN
        have HCut := Lib.hid (Row.cut hrw ((m + s - 1) / s) (by rw [List.length_map]; exact hh))
        have htake := hOK.take (by rw [HSs.out]; exact hs0) m (by rw [HNn.out]; exact hmN)
        have HTl : Hid ((L.take m).length = m) := Lib.hid (by rw [List.length_take, HNn.out]; omega)
        have HTake := Lib.hid htake
        have HGd := Lib.hid hG
        have HHh := Lib.hid hh
        have HOKl := Lib.hid hOK.lt
        obtain ⟨M, hM⟩ : ∃ M, P.length = M := ⟨_, rfl⟩
        rw [hM] at r1 hcp hh hsh
        obtain ⟨H, hH⟩ : ∃ H, (m + s - 1) / s = H := ⟨_, rfl⟩
        have w1' : IntKind.i64.wrap ((m : Int) + (s : Int)) = ((m + s : Nat) : Int) := by rw [IntWalk.i64_in _ (by omega)]; omega
        have w2' : IntKind.i64.wrap (((m + s : Nat) : Int) - 1) = ((m + s - 1 : Nat) : Int) := by rw [IntWalk.i64_in _ (by omega)]; omega
        have w3' : ((m + s - 1 : Nat) : Int).tdiv (s : Int) = (H : Int) := by rw [divw, hH]
        have hz : ((s : Int) == 0) = false := by
          have : (s : Int) ≠ 0 := by omega
          simpa using this
        rw [hH] at hh HCut
        have hH0 : (0 : Int) ≤ (H : Int) := by omega
        have hH1 : (H : Int) ≤ (cap : Int) := by omega
        have hHw : IntKind.i64.wrap (H : Int) = (H : Int) := by rw [IntWalk.i64_in _ (by omega)]
        have HH := Lib.hid hH
        have HTg := Lib.hid htg
        obtain ⟨ms1, hms1⟩ : ∃ z, m + s - 1 = z := ⟨_, rfl⟩
        rw [hms1] at w2' w3'
        obtain ⟨ms, hms⟩ : ∃ z, m + s = z := ⟨_, rfl⟩
        rw [hms] at w1' w2'
        clear hms1 hms
        clear h0 hG hk hOK hrw hpv htake hM hH htg
        obtain ⟨R, hR⟩ : ∃ R : (Int × Int) × Doc Int, (if D.rows.length = 1024 then ((0, 16), D) else (((D.rows.length : Int), 0), addRow D (L.take (m : Int).toNat) (P.take (((m : Int).toNat + s - 1) / s)))) = R := ⟨_, rfl⟩
        rw [hR]
        have HRr := Lib.hid hR
        clear hR
        go_enter Try.func21, Try.ntmps21
        go_wp2_with fail
        refine (row_yes H0.out k HOp.out).mono ?_
        rintro e w1 ⟨rfl, rfl⟩
        rw [HRb.out]
        go_wp2
        go_quiet (fail)
        go_wp2_with fail
        have HPd := Lib.hid (HP.out.below (set_drewN w nq))
        have H0d := Lib.hid (H0.out.below (set_drewN w nq))
        by_cases hl : D.rows.length = 1024
        · have HX : Hid (R = ((0, 16), D)) := Lib.hid (by rw [← HRr.out, if_pos hl])
          have H0e := H0d.out
          rw [hl] at H0e
          refine (open_full H0e (m : Int) _).mono ?_
          clear H0e q0 r0 r1
          rintro e w2 ⟨rfl, rfl⟩
          go_wp2
          go_ret2
          rw [HX.out]
          exact ⟨rfl, τ, HPd.out, Step.below (set_drewN w nq)⟩
        · have HX : Hid (R = (((D.rows.length : Int), 0), addRow D (L.take (m : Int).toNat) (P.take (((m : Int).toNat + s - 1) / s)))) := Lib.hid (by rw [← HRr.out, if_neg hl])
          have hlen := HGd.out.len
          have HGo := Lib.hid (good_open HGd.out (by omega) (L.take m) (P.take ((m + D.size - 1) / D.size)) HTake.out)
          have hPe : P.take ((m + D.size - 1) / D.size) = P.take H := by rw [← HH.out, HSs.out]
          rw [hPe] at HGo
          have HCut' : Hid (Row (w.drewN nq) 3 (.slice sp H cap) (ly.pb k) ((P.take H).map natV)) := Lib.hid (by rw [List.map_take]; exact HCut.out.kept fun _ _ => rfl)
          refine (open_any H0d.out (roOf_length _).symm (by omega) m _ _ _ HCut'.out (fun d hd => ⟨k, HTg.out d hd⟩) (fun j hj => by rw [HGd.out.plen]; exact HOKl.out j (List.mem_of_mem_take hj)) (by rw [List.length_take]; omega) (fun j c hc => Nat.le_trans (HGd.out.count_le j c hc) (by decide)) (by have := HGd.out.plen; omega)).mono ?_
          clear q0 r0 r1
          rintro e w2 ⟨rfl, τ', ly', k1, k2⟩
          have K1 := Lib.hid k1
          have K2 := Lib.hid k2
          clear k1 k2
          go_wp2
          go_ret2
          rw [HX.out]
          refine ⟨by rw [roOf_length]; rfl, τ', ⟨ly', holds pg (P.take H), ?_, ?_⟩, (Step.below (set_drewN w nq)).trans K2.out⟩
          · have := K1.out
            rw [roOf_length] at this
            show PoolAt kind _ τ' g ly' D.size (D.rows ++ _).length _ (roOf (D.rows ++ _))
            rw [List.length_append, List.length_singleton, roOf_snoc, HSs.out]
            have e1 : (L.take (m : Int).toNat).length = m := HTl.out
            have e2 : P.take (((m : Int).toNat + s - 1) / s) = P.take H := by rw [← HH.out]; rfl
            rw [e1, e2]
            exact this
          · have e2 : P.take (((m : Int).toNat + s - 1) / s) = P.take H := by rw [← HH.out]; rfl
            show Good ⟨D.size, D.pages, D.rows ++ [some (L.take m, P.take (((m : Int).toNat + s - 1) / s))]⟩ _
            rw [e2]
            exact HGo.out
set_option maxHeartbeats 4000000 in
/-- Close -/
theorem closeD_any {D : Doc Int} (h : Pool kind w τ g D) (id : Int) : Calls Try.prog 19 #[.pointer (some ⟨g, 0, none⟩), .int .i64 id] w fun e w' => e = .returned (.int .i64 (closeD D id).1) ∧ ∃ τ', Pool kind w' τ' g (closeD D id).2 ∧ Step Tag.mine τ τ' w w' := by
  have HP := Lib.hid h
  obtain ⟨ly, pg, h0, hG⟩ := h
  cases hrow : rowAt D id with
  | none =>
    have e1 : closeD D id = (14, D) := by unfold closeD; rw [hrow]
    rw [e1]
    have HN := Lib.hid (rowAt_no hrow)
    have H0 := Lib.hid h0
    clear e1 hrow h0 hG
    go_enter Try.func19, Try.ntmps19
    go_wp2_with fail
    refine (row_no H0.out id HN.out).mono ?_
    rintro e w1 ⟨rfl, rfl⟩
    go_wp2
    go_ret
    exact ⟨rfl, τ, HP.out, Step.refl _ _ _⟩
  | some r =>
    obtain ⟨L, P⟩ := r
    obtain ⟨k, rfl, hk⟩ := rowAt_yes hrow
    have e1 : closeD D (k : Int) = (0, putRow D k none) := by unfold closeD; rw [hrow]; rfl
    rw [e1]
    have hOK := hG.row k L P hk
    have hsh := hOK.short hG.s0
    have hp1 := hG.p1
    have HOp := Lib.hid ((isOpen_roOf D.rows k).2 ⟨_, hk⟩)
    have HRo := Lib.hid (roOf_at hk)
    have H0 := Lib.hid h0
    obtain ⟨_, r1⟩ := h0.rowC HRo.out
    obtain ⟨_, _, hrw, htg⟩ := h0.row k _ _ HRo.out
    obtain ⟨sp, cap, hpv, _, hcm, _⟩ := hrw.slice
    rw [hpv] at r1
    have HPv := Lib.hid hpv
    obtain ⟨N, hN⟩ : ∃ N, P.length = N := ⟨_, rfl⟩
    have hN2 : (P.map natV).length = N := by simpa using hN
    rw [hN2] at r1
    rw [hN] at hsh
    have HN := Lib.hid hN
    have HN2 := Lib.hid hN2
    obtain ⟨rb, hrb⟩ : ∃ rb, ly.rb k = rb := ⟨_, rfl⟩
    rw [hrb] at r1
    have HRb := Lib.hid hrb
    have HOK := Lib.hid hOK
    have HGd := Lib.hid hG
    have HK := Lib.hid hk
    have HGc := Lib.hid (good_close hG hk)
    clear e1 hrow h0 hG hk hrw hpv hN hN2 hrb hOK
    go_enter Try.func19, Try.ntmps19
    go_wp2_with fail
    refine (row_yes H0.out k HOp.out).mono ?_
    rintro e w1 ⟨rfl, rfl⟩
    rw [HRb.out]
    go_wp2
    go_loopw [23] (fun iv wr => ∃ (i : Nat) (τi : Tags) (lyi : Lay), i ≤ N ∧ iv = .int .i64 i ∧ PoolAt kind wr τi g lyi D.size D.rows.length (leaves pg (P.take i)) (roOf D.rows) ∧ Step Tag.mine τ τi w wr ∧ lyi.rb = ly.rb ∧ lyi.pv = ly.pv ∧ lyi.pb = ly.pb) (fun iv _ => N - (intOf iv).toNat)
    case atStart => exact ⟨0, τ, ly, by omega, rfl, H0.out, Step.refl _ _ _, rfl, rfl, rfl⟩
    case round =>
      obtain ⟨i, τi, lyi, hi, rfl, k1, k2, k3, k4, k5⟩ := hrel
      have K1 := Lib.hid k1
      have K2 := Lib.hid k2
      have K3 := Lib.hid k3
      have K4 := Lib.hid k4
      have K5 := Lib.hid k5
      clear k1 k2 k3 k4 k5
      by_cases hil : i < N
      · have hdl : decide (i < N) = true := by simpa using hil
        have hdl2 : decide ((i : Int) < (N : Int)) = true := by simp; omega
        obtain ⟨j, hj⟩ : ∃ j, P[i]? = some j := ⟨_, List.getElem?_eq_getElem (by rw [HN.out]; exact hil)⟩
        obtain ⟨_, _, hrw, _⟩ := K1.out.row k _ _ HRo.out
        rw [K4.out, K5.out, HPv.out, HN2.out] at hrw
        obtain ⟨sp', cap', he, _, _, _, hcl⟩ := hrw.toSl
        injection he with e1 e2 e3
        subst e1
        subst e3
        clear e2
        obtain ⟨d, hbd, rfl, hcl2⟩ := hcl (by rw [HN2.out]; omega)
        have q4 : wr.cell? ⟨d, i, none⟩ = some (.int .i64 (j : Int)) := hcl2 i _ (by rw [List.getElem?_map, hj]; rfl)
        have hjl := HOK.out.lt j (List.mem_of_getElem? hj)
        obtain ⟨c0, hc0⟩ : ∃ c0, pg[j]? = some c0 := ⟨_, List.getElem?_eq_getElem (by rw [HGd.out.plen]; exact hjl)⟩
        have hcnt : (P.take i).count j = 0 := by
          rw [List.count_eq_zero]
          intro hm
          obtain ⟨i', hi'⟩ := List.getElem?_of_mem hm
          have h9 := (List.getElem?_eq_some_iff.1 hi').1
          rw [List.length_take] at h9
          rw [List.getElem?_take] at hi'
          split at hi'
          · have := nodup_at HOK.out.nd hi' hj
            omega
          · cases hi'
        have hc1 : 1 ≤ c0.2 := by
          rw [HGd.out.cnts j c0 hc0]
          have h1 := one_le j D.rows k _ HK.out
          have h2 : 0 < P.count j := List.count_pos_iff.2 (List.mem_of_getElem? hj)
          simp only [one] at h1
          omega
        have hc2 := HGd.out.count_le j c0 hc0
        obtain ⟨c', hc3, hc4, _⟩ := leaves_at j (P.take i) pg c0 hc0 (by omega)
        have HL := Lib.hid (leave_any K1.out j c' hc3 (by omega) (by rw [leaves_length, HGd.out.plen]; omega) (by omega))
        have HE : Hid (leaves pg (P.take (i + 1)) = leave (leaves pg (P.take i)) j) := Lib.hid (by
          obtain ⟨hi9, rfl⟩ := List.getElem?_eq_some_iff.1 hj
          rw [List.take_succ_eq_append_getElem hi9]
          show List.foldl leave pg (P.take i ++ [P[i]]) = _
          rw [List.foldl_append]
          rfl)
        clear hj hrw hcl hcl2 hjl hc0 hcnt hc1 hc2 hc3 hc4 r1
        go_wp2_with fail
        refine HL.out.mono ?_
        rintro e w2 ⟨rfl, τ', ly', m1, m2, m3, m4, m5⟩
        have M1 := Lib.hid m1
        have M2 := Lib.hid m2
        have M3 := Lib.hid m3
        have M4 := Lib.hid m4
        have M5 := Lib.hid m5
        clear m1 m2 m3 m4 m5 q4
        go_wp2
        go_roundw
        case rel => exact ⟨i + 1, τ', ly', by omega, by go_num, by rw [HE.out]; exact M1.out, K2.out.trans M2.out, M3.out.trans K3.out, M4.out.trans K4.out, M5.out.trans K5.out⟩
        case measure => simp [intOf]; omega
      · have hdl : decide (i < N) = false := by simpa using hil
        have hdl2 : decide ((i : Int) < (N : Int)) = false := by simp; omega
        obtain rfl : i = N := by omega
        have HE : Hid (P.take i = P) := Lib.hid (List.take_of_length_le (by rw [HN.out]; exact Nat.le_refl _))
        have HD := Lib.hid (K1.out.dropRow k)
        obtain ⟨W3, hW3⟩ : ∃ W3, setBlock wr lyi.m (.map (ents lyi.rb 0 ((roOf D.rows).set k none)).toArray (roOf D.rows).length) = W3 := ⟨_, rfl⟩
        have hdel := run_drop K1.out.mp k HOp.out 0
        rw [hW3] at hdel HD
        obtain ⟨_, _, q2, _⟩ := K1.out.cells
        clear r1 hW3
        go_wp2
        go_ret
        obtain ⟨m1, m2⟩ := HD.out
        rw [HE.out] at m1
        refine ⟨rfl, τi, ⟨lyi, leaves pg P, ?_, HGc.out⟩, K2.out.trans m2⟩
        show PoolAt kind _ τi g lyi D.size (D.rows.set k none).length _ (roOf (D.rows.set k none))
        rw [List.length_set, roOf_none]
        exact m1
end
end Go.Proofs.Ytcfhchdkohjbfaa.Kv.I
