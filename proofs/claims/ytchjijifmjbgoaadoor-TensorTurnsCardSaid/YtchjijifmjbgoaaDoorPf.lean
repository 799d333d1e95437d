import Derived.Test.YtchjijifmjbgoaaDoorPe
import Derived.Test.YtchjijifmjbgoaaDoorJh
namespace Go.Proofs.YtchjijifmjbgoaaDoor.Tn
set_option maxRecDepth 100000
open Go.ChangeShapes Go.WideShapes Go.ChangeAt Go.RowKit Go.Proofs.YtchjijifmjbgoaaDoor.Fx Go.Proofs.YtchjijifmjbgoaaDoor.Rf

/-! ### the landed code: Rotate -/
def trnR (p : Option (Int × Int)) : Int × Int := p.getD (0, 0)
def trnE (p : Option (Int × Int)) : Int := if p.isSome then 0 else 17
theorem pairV_eq (p : Option (Int × Int)) : pairV p = .tuple #[.agg #[.int .i64 (trnR p).1, .int .i64 (trnR p).2], .int .i64 (trnE p)] := by
  cases p <;> rfl
theorem exec_extractP {P : Program} {a : Act} {o : Oper} {W : World} (x : Operand) (i : Nat) (ho : o.op = .extract x i) (vs : Array Value) (v : Value) (hx : a.eval x = .tuple vs) (hv : vs[i]? = some v) : (execOp a.eval o).run P W = .ok (.value v) W := by
  unfold execOp
  simp only [ho, hx]
  simp [Instr.extract, hv]
theorem exec_load_pairT {a : Act} {o : Oper} {W : World} (x : Operand) (ho : o.op = .load 72 x) (c k : Nat) (hx : a.eval x = .pointer (some ⟨c, k, none⟩)) (u v : Int) (hr : W.rangeAt c k [.int .i64 u, .int .i64 v]) : (execOp a.eval o).run Tryd.prog W = .ok (.value (.agg #[.int .i64 u, .int .i64 v])) W := by
  have h := run_loadVar_mid (P := Tryd.prog) W c k 72 [.int .i64 u, .int .i64 v] _ hr Tryd.underlying72 rfl (by simpa using size_pairT)
  unfold execOp
  simp only [ho, hx, Instr.loadAt, Instr.sureAddr, Sem.run_bind, Sem.run_pure, Result.andThen_ok, h]
set_option maxHeartbeats 4000000 in
theorem rot1_any (w : World) (b : Nat) (x y c d : Int) (hx : isN x) (hy : isN y) (hc : isN c) (hd : isN d) (hr : RowP w b [(x, y), (c, d)]) :
    Calls Tryd.prog 56 #[.slice (some ⟨b, 0, none⟩) 2 2] w fun e w' => e = .returned (.tuple #[.agg (pairC (trnR (trn x y c d))), .int .i64 (trnE (trn x y c d))]) ∧ Below w.heap.size w w' := by
  have HT := Lib.hid (fun W => turned_any W x y c d hx hy hc hd)
  rw [pairV_eq] at HT
  obtain ⟨R, hR⟩ : ∃ R, trnR (trn x y c d) = R := ⟨_, rfl⟩
  obtain ⟨E, hE⟩ : ∃ E, trnE (trn x y c d) = E := ⟨_, rfl⟩
  rw [hR, hE] at HT ⊢
  obtain ⟨p, q⟩ := R
  dsimp only at HT
  have HR := Lib.hid hr
  clear hx hy hc hd hr hR hE
  go_enter Tryd.func56, Tryd.ntmps56
  go_upto_region 1 with fail
  refine gen_world (Q := fun w => Code.wp _ _ _ _ w) _ (fun W => Below w.heap.size w W ∧ W.heap[w.heap.size]? = some (.cells #[.int .i64 0, .int .i64 0] 72 (0, 0))) ⟨(Below.refl _ _).alloc (Nat.le_refl _) _, heap_alloc_new _ _⟩ ?_
  intro w1 hw1
  have HB1 := Lib.hid hw1.1
  have HZ1 := Lib.hid hw1.2
  clear hw1
  have hw : ∀ W, Below w1.heap.size w1 W → Below w.heap.size w W := fun W h => HB1.out.trans (h.mono HB1.out.size)
  refine wp_region_quiet_tail (C := fun W => Below w1.heap.size w1 W) 9 (by kernel_rfl) (by kernel_rfl) ⟨rfl, rfl, rfl, Nat.le_refl _, fun _ _ => rfl⟩ ?_
  simp only [List.take_succ_cons, List.take_zero, List.drop_succ_cons, List.drop_zero]
  refine q_val _ rfl (fun _ _ => rfl) ?_
  simp only [Act.put, List.setIfInBounds_toArray, List.set_cons_succ, List.set_cons_zero]
  refine q_val (.pointer (some ⟨b, 0 * 2, none⟩)) rfl (fun W _ => exec_pairT_at (.tmp 4) (.const (.int .i64 0)) rfl b 2 2 0 rfl rfl (by omega)) ?_
  simp only [Act.put, List.setIfInBounds_toArray, List.set_cons_succ, List.set_cons_zero]
  refine q_val (.agg #[.int .i64 x, .int .i64 y]) rfl (fun W hW => exec_load_pairT (.tmp 5) rfl b (0 * 2) rfl x y ((HR.out.below (hw W hW)).lies 0 (by simp))) ?_
  simp only [Act.put, List.setIfInBounds_toArray, List.set_cons_succ, List.set_cons_zero]
  refine q_val _ rfl (fun _ _ => rfl) ?_
  simp only [Act.put, List.setIfInBounds_toArray, List.set_cons_succ, List.set_cons_zero]
  refine q_val (.pointer (some ⟨b, 1 * 2, none⟩)) rfl (fun W _ => exec_pairT_at (.tmp 7) (.const (.int .i64 1)) rfl b 2 2 1 rfl rfl (by omega)) ?_
  simp only [Act.put, List.setIfInBounds_toArray, List.set_cons_succ, List.set_cons_zero]
  refine q_val (.agg #[.int .i64 c, .int .i64 d]) rfl (fun W hW => exec_load_pairT (.tmp 8) rfl b (1 * 2) rfl c d ((HR.out.below (hw W hW)).lies 1 (by simp))) ?_
  simp only [Act.put, List.setIfInBounds_toArray, List.set_cons_succ, List.set_cons_zero]
  refine q_call 57 #[.agg #[.int .i64 x, .int .i64 y], .agg #[.int .i64 c, .int .i64 d]] (.tuple #[.agg #[.int .i64 p, .int .i64 q], .int .i64 E]) rfl (fun _ _ => exec_call2 57 (.tmp 6) (.tmp 9) #[72, 72] _ _ rfl rfl rfl (cf Tryd.func57 (by kernel_rfl) (by kernel_rfl) _ _)) (fun W hW => (HT.out W).mono fun e W' h => ⟨h.1, hW.trans (h.2.mono hW.size)⟩) ?_
  simp only [Act.put, List.setIfInBounds_toArray, List.set_cons_succ, List.set_cons_zero]
  refine q_val (.agg #[.int .i64 p, .int .i64 q]) rfl (fun W _ => exec_extractP (.tmp 10) 0 rfl _ _ rfl rfl) ?_
  simp only [Act.put, List.setIfInBounds_toArray, List.set_cons_succ, List.set_cons_zero]
  refine q_val (.int .i64 E) rfl (fun W _ => exec_extractP (.tmp 10) 1 rfl _ _ rfl rfl) ?_
  simp only [Act.put, List.setIfInBounds_toArray, List.set_cons_succ, List.set_cons_zero]
  refine wpQuiet_nil ?_
  intro w2 hw2
  have HZ2 : Hid (w2.heap[w.heap.size]? = some (.cells #[.int .i64 0, .int .i64 0] 72 (0, 0))) := Lib.hid ((hw2.block _ (Array.getElem?_eq_some_iff.1 HZ1.out).1).trans HZ1.out)
  have HB2 := Lib.hid (hw _ hw2)
  clear hw2 hw
  go_wp2_with (refine wpList_store_row rfl 72 (.tmp 2) (.tmp 11) rfl w.heap.size #[.int .i64 p, .int .i64 q] rfl rfl 72 _ HZ2.out size_pairT rfl (one_xy p q) ?_)
  (try simp only [Act.put])
  exact bodyPost_ret (v := .tuple #[.agg #[.int .i64 p, .int .i64 q], .int .i64 E]) (results_two Tryd.results56 _ _ w.heap.size 72 _ (0, 0) _ _ rfl rfl (setRow_heap _ _ _ _ _ _ HZ2.out) Tryd.underlying72 rfl size_pairT) rfl ⟨rfl, below_setRow HB2.out (Nat.le_refl _) _⟩
theorem rotP_eq {l : List Int} {at_ j : Nat} (h : at_ ≤ 1023) : rotP l at_ j = trn (prsF l j).1 (prsF l j).2 (angD at_ j).1 (angD at_ j).2 := by
  unfold rotP angD prsF
  obtain ⟨p, hp⟩ := Option.isSome_iff_exists.1 (angP_some j at_ h)
  rw [hp]
  rfl
theorem rot_first (l : List Int) (at_ h : Nat) : firstN (fun j => trnE (rotP l at_ j)) h = if rotOk l at_ h then 0 else 17 := by
  have hE : ∀ j, trnE (rotP l at_ j) = 0 ↔ (rotP l at_ j).isSome = true := fun j => by
    unfold trnE
    split
    · simp_all
    · simp_all
  by_cases ho : rotOk l at_ h
  · rw [if_pos ho]
    exact firstN_all fun j hj => (hE j).2 (ho j hj)
  · rw [if_neg ho]
    refine firstN_bad (fun j _ => ?_) (fun hh => ho fun j hj => (hE j).1 (hh j hj))
    show trnE _ = 0 ∨ trnE _ = 17
    unfold trnE
    split
    · exact Or.inl rfl
    · exact Or.inr rfl
theorem flat_rot {l : List Int} {at_ : Nat} : ∀ h : Nat, rotOk l at_ h → flatP (fun j => trnR (rotP l at_ j)) h = rotL l at_ h
  | 0, _ => rfl
  | h + 1, ho => by
    obtain ⟨p, hp⟩ := Option.isSome_iff_exists.1 (ho h (by omega))
    rw [flatP_succ, rotL_succ hp, flat_rot h (fun j hj => ho j (by omega)), hp]
    rfl
theorem angD_in {at_ j : Nat} (h : at_ ≤ 1023) : isN (angD at_ j).1 ∧ isN (angD at_ j).2 := by
  unfold angD
  obtain ⟨p, hp⟩ := Option.isSome_iff_exists.1 (angP_some j at_ h)
  rw [hp]
  exact ang_in _ _ _ _ hp
set_option maxHeartbeats 4000000 in
theorem rot_any (w : World) (sp : Option Addr) (cap N : Nat) (l : List Int) (at_ : Int) (hN : l.length = N) (hA : AngTab w) (hl : Nums w sp cap l) (h1 : -9223372036854775808 ≤ at_) (h2 : at_ ≤ 9223372036854775807) :
    Calls Tryd.prog 28 #[.slice sp N cap, .int .i64 at_] w (AnsE w (rotV l at_) (rotE l at_)) := by
  have HB0 := Lib.hid (Below.refl w.heap.size w)
  have HC := Lib.hid (fun W g (hg : g = W.heap.size) (hb : Below w.heap.size w W) => check_any _ _ 1 1 [l] rfl (vecs_new1 W g hg sp cap N l hN (hl.below hb)))
  simp only [chkL1] at HC
  have hNm : N ≤ 9223372036854775807 := by rw [← hN]; exact hl.len
  have hno : rotE l at_ ≠ 0 → rotV l at_ = [] := fun h => by unfold rotV; rw [if_neg h]
  have hq : (N : Int).tmod 2 = ((N % 2 : Nat) : Int) := by rw [Int.tmod_eq_emod_of_nonneg (by omega)]; omega
  by_cases hodd : N % 2 = 1
  · have hE : rotE l at_ = 13 := by unfold rotE; rw [if_pos (by omega)]
    rw [hno (by omega), hE]
    rw [hodd] at hq
    have d0 : decide (((1 : Nat) : Int) = 0) = false := by decide
    clear hno hE hl hA hN HC h1 h2 hodd
    go_enter Tryd.func28, Tryd.ntmps28
    go_wp2
    go_ret2
    exact AnsE.no HB0.out
  · have hev : N % 2 = 0 := by omega
    rw [hev] at hq
    have hln : ¬ l.length % 2 ≠ 0 := by rw [hN]; omega
    by_cases hc : chkV l = 0
    · obtain ⟨z1, z2, z3⟩ := chkV_zero hc
      rw [hc] at HC
      have hc' : ¬ chkV l ≠ 0 := by omega
      by_cases hr : 0 ≤ at_ ∧ at_ ≤ 1023
      · obtain ⟨n, rfl⟩ : ∃ n : Nat, at_ = (n : Int) := ⟨at_.toNat, by omega⟩
        have hn : n ≤ 1023 := by omega
        obtain ⟨h, hh⟩ : ∃ h, N = 2 * h := ⟨N / 2, by omega⟩
        have hh2 : h ≤ 256 := by omega
        have hlh : l.length / 2 = h := by omega
        have hnat : (n : Int).toNat = n := by omega
        have hE : rotE l (n : Int) = firstN (fun j => trnE (rotP l n j)) h := by
          unfold rotE
          rw [if_neg hln, if_neg hc', if_neg (by omega), hlh, hnat, rot_first]
        have HFl : Hid (firstN (fun j => trnE (rotP l n j)) h = 0 → flatP (fun j => trnR (rotP l n j)) h = rotV l (n : Int)) := Lib.hid (fun h0 => by
          unfold rotV
          rw [hE, if_pos h0, hlh, hnat]
          rw [rot_first] at h0
          exact flat_rot h (by
            by_cases ho : rotOk l n h
            · exact ho
            · rw [if_neg ho] at h0; omega))
        have HLen : Hid ((flatP (fun j => trnR (rotP l n j)) h).length = 2 * h) := Lib.hid (flatP_length _ h)
        have HNo : Hid (firstN (fun j => trnE (rotP l n j)) h ≠ 0 → rotV l (n : Int) = []) := Lib.hid (fun h0 => hno (by rw [hE]; exact h0))
        rw [hE]
        have HPr := Lib.hid (fun W (hb : Below w.heap.size w W) => pairs_any W sp cap N h l hN hh hh2 (hl.below hb))
        have HAn := Lib.hid (fun W (hb : Below w.heap.size w W) => angles_any W n h hh2 hn (hA.below hb))
        have HTg := Lib.hid (fun W c G (hv : TwoP W c G h (fun k => if k = 0 then prsF l else angD n) W) => tog_pairs W 56 c h hh2 G (fun k => if k = 0 then prsF l else angD n) hv (fun j => trnR (rotP l n j)) (fun j => trnE (rotP l n j)) (eg_of Tryd.func56 (by kernel_rfl) (by kernel_rfl)) (fun i hi W' b hW' hrow => by
          have hx := in_of z3 (2 * i) (by omega)
          have hy := in_of z3 (2 * i + 1) (by omega)
          have ha := angD_in (j := i) hn
          have := rot1_any W' b (prsF l i).1 (prsF l i).2 (angD n i).1 (angD n i).2 hx hy ha.1 ha.2 hrow
          rw [← rotP_eq hn] at this
          exact this))
        have HNu := Lib.hid (fun W g (hr : RowP W g ((List.range h).map (fun j => trnR (rotP l n j)))) => numbers_any W g h (fun j => trnR (rotP l n j)) hh2 hr)
        obtain ⟨R, hR⟩ : ∃ R, (fun j => trnR (rotP l n j)) = R := ⟨_, rfl⟩
        obtain ⟨E, hEE⟩ : ∃ E, firstN (fun j => trnE (rotP l n j)) h = E := ⟨_, rfl⟩
        obtain ⟨V, hV⟩ : ∃ V, rotV l (n : Int) = V := ⟨_, rfl⟩
        rw [hR, hEE] at HTg HFl
        rw [hR] at HNu HLen
        rw [hEE] at HNo ⊢
        rw [hV] at HFl HNo ⊢
        have dn0 : decide ((n : Int) < 0) = false := by simp
        have dn1 : decide ((1024 : Int) ≤ (n : Int)) = false := by simp; omega
        have g1 : N ≤ 2 * h := by omega
        have g2 : 2 * h ≤ N := by omega
        clear hc hc' z1 z2 z3 hr hh hlh hnat hE hno hN hA hl hln hodd hR hEE hV hev h1 h2
        go_enter Tryd.func28, Tryd.ntmps28
        go_wp2_with fail
        refine (HC.out _ _ rfl HB0.out).mono ?_
        rintro e w1 ⟨rfl, hb1⟩
        have HB1 := Lib.hid ((HB0.out.alloc (Nat.le_refl _) (.cells #[.slice sp N cap] 22)).trans (hb1.mono (by simp)))
        clear hb1
        go_wp2_with fail
        refine (HPr.out _ HB1.out).mono ?_
        rintro e w2 ⟨rfl, hr2, hb2⟩
        have HR2 := Lib.hid hr2
        have HB2 := Lib.hid (HB1.out.trans (hb2.mono HB1.out.size))
        clear hr2 hb2 HPr
        go_wp2_with fail
        refine (HAn.out _ HB2.out).mono ?_
        rintro e w3 ⟨rfl, hr3, hb3⟩
        have HR3 := Lib.hid hr3
        have HR4 := Lib.hid (HR2.out.below hb3)
        have HB3 := Lib.hid (HB2.out.trans (hb3.mono HB2.out.size))
        clear hr3 hb3 HAn HR2
        generalize w1.heap.size = g0 at HR4 ⊢
        generalize w2.heap.size = g3 at HR3 ⊢
        have HB4 := Lib.hid (HB3.out.alloc HB3.out.size (.cells #[.slice (some ⟨g0, 0, none⟩) h h, .slice (some ⟨g3, 0, none⟩) h h] 67))
        have HTw : Hid (TwoP (w3.alloc (.cells #[.slice (some ⟨g0, 0, none⟩) h h, .slice (some ⟨g3, 0, none⟩) h h] 67)) w3.heap.size (fun k => if k = 0 then g0 else g3) h (fun k => if k = 0 then prsF l else angD n) (w3.alloc (.cells #[.slice (some ⟨g0, 0, none⟩) h h, .slice (some ⟨g3, 0, none⟩) h h] 67))) := Lib.hid ⟨fun k hk => by
          rw [cell_of_row _ _ _ _ _ _ (heap_alloc_new _ _)]
          rcases k with _ | _ | k
          · rfl
          · rfl
          · omega, fun k hk => by
          have hb : Below w3.heap.size w3 (w3.alloc (.cells #[.slice (some ⟨g0, 0, none⟩) h h, .slice (some ⟨g3, 0, none⟩) h h] 67)) := (Below.refl _ _).alloc (Nat.le_refl _) _
          rcases k with _ | _ | k
          · exact HR4.out.below hb
          · exact HR3.out.below hb
          · omega⟩
        have HCl := Lib.hid (HTg.out _ _ _ HTw.out)
        clear HR3 HR4 HTw HTg HB3
        go_wp2_with fail
        refine HCl.out.mono ?_
        rintro e w5 ⟨v, rfl, hv, hb5⟩
        have HV := Lib.hid hv
        have HB5 := Lib.hid (HB4.out.trans (hb5.mono HB4.out.size))
        clear hv hb5 HCl HB4
        by_cases h0 : E = 0
        · subst h0
          obtain ⟨hv2, hrow⟩ := HV.out rfl
          obtain ⟨g7, hg7⟩ : ∃ g7, (w3.alloc (.cells #[.slice (some ⟨g0, 0, none⟩) h h, .slice (some ⟨g3, 0, none⟩) h h] 67)).heap.size = g7 := ⟨_, rfl⟩
          rw [hg7] at hv2 hrow
          clear hg7
          subst hv2
          have HCl := Lib.hid (HNu.out _ _ hrow)
          have HVe := Lib.hid (HFl.out rfl)
          clear hrow HV HNu HFl HNo
          go_wp2_with fail
          refine HCl.out.mono ?_
          rintro e w6 ⟨sp6, cap6, rfl, hnum, hb6⟩
          have HNm := Lib.hid hnum
          have HB6 := Lib.hid (HB5.out.trans (hb6.mono HB5.out.size))
          clear hnum hb6 HCl
          go_wp2
          go_ret2
          rw [← HVe.out]
          exact ⟨sp6, cap6, by rw [HLen.out]; rfl, HNm.out, HB6.out⟩
        · have hne := ne0 h0
          have HVe := Lib.hid (HNo.out h0)
          clear HV h0 HFl HNo
          go_wp2
          go_ret2
          rw [HVe.out]
          exact AnsE.no HB5.out
      · have hE : rotE l at_ = 10 := by unfold rotE; rw [if_neg hln, if_neg hc', if_pos (by omega)]
        rw [hno (by omega), hE]
        clear hno hE hl hA hN hodd hev hc hc' z1 z2 z3 hln
        by_cases hlt : at_ < 0
        · have dn0 : decide (at_ < 0) = true := by simpa using hlt
          go_enter Tryd.func28, Tryd.ntmps28
          go_wp2_with fail
          refine (HC.out _ _ rfl HB0.out).mono ?_
          rintro e w1 ⟨rfl, hb1⟩
          have HB1 := Lib.hid ((HB0.out.alloc (Nat.le_refl _) (.cells #[.slice sp N cap] 22)).trans (hb1.mono (by simp)))
          clear hb1
          go_wp2
          go_ret2
          exact AnsE.no HB1.out
        · have dn0 : decide (at_ < 0) = false := by simpa using hlt
          have dn1 : decide (1024 ≤ at_) = true := by simp; omega
          go_enter Tryd.func28, Tryd.ntmps28
          go_wp2_with fail
          refine (HC.out _ _ rfl HB0.out).mono ?_
          rintro e w1 ⟨rfl, hb1⟩
          have HB1 := Lib.hid ((HB0.out.alloc (Nat.le_refl _) (.cells #[.slice sp N cap] 22)).trans (hb1.mono (by simp)))
          clear hb1
          go_wp2
          go_ret2
          exact AnsE.no HB1.out
    · have hE : rotE l at_ = chkV l := by unfold rotE; rw [if_neg hln, if_pos hc]
      rw [hno (by rw [hE]; exact hc), hE]
      have hne := ne0 hc
      obtain ⟨E, hEE⟩ : ∃ E, chkV l = E := ⟨_, rfl⟩
      rw [hEE] at HC hne ⊢
      clear hno hE hl hA hN hodd hev hc hEE hln
      go_enter Tryd.func28, Tryd.ntmps28
      go_wp2_with fail
      refine (HC.out _ _ rfl HB0.out).mono ?_
      rintro e w1 ⟨rfl, hb1⟩
      have HB1 := Lib.hid ((HB0.out.alloc (Nat.le_refl _) (.cells #[.slice sp N cap] 22)).trans (hb1.mono (by simp)))
      clear hb1
      go_wp2
      go_ret2
      exact AnsE.no HB1.out
end Go.Proofs.YtchjijifmjbgoaaDoor.Tn
