import Derived.Test.YtllaecliaojmjaaDoorDc
namespace Go.Proofs.YtllaecliaojmjaaDoor.Bp
set_option maxRecDepth 100000
open Go.ChangeShapes Go.WideShapes Go.ChangeAt Go.RowKit Go.Proofs.YtllaecliaojmjaaDoor.Tn

/-! ### Encode -/
def lenW (rb : Nat) (W : World) : Nat := match W.cell? ⟨rb, 0, none⟩ with
  | some v => lenV v
  | none => 0
theorem Mb.lenW {rb c L cap : Nat} {K : List Int} {W : World} (h : Mb rb c L cap K W) : Bp.lenW rb W = L := by
  unfold Bp.lenW
  rw [h.c0]
  rfl
theorem Mb.nums {rb c L cap : Nat} {K : List Int} {W : World} (h : Mb rb c L cap K W) (hc : cap ≤ maxLen) : Nums W (some ⟨c, 0, none⟩) cap (K.take L) := by
  have hl := h.len
  have hle := h.le
  refine ⟨by simp; omega, hc, fun e => by (cases e), fun _ => ⟨c, 0, rfl, fun k v hv => ?_⟩⟩
  rw [List.getElem?_map, List.getElem?_take] at hv
  by_cases hk : k < L
  · rw [if_pos hk] at hv
    rcases hq : K[k]? with _ | x
    · rw [hq] at hv; cases hv
    · rw [hq] at hv
      cases hv
      obtain ⟨hk2, e⟩ := List.getElem?_eq_some_iff.1 hq
      rw [Nat.zero_add, Rw.cell h.row hk2]
      simp [hk2, e]
  · rw [if_neg hk] at hv
    cases hv
theorem Mb.made {w : World} {c N : Nat} {l : List Int} (hr : Rw c l w) (hl : l.length = N) : Mb w.heap.size c N N l (w.alloc (.cells #[.slice (some ⟨c, 0, none⟩) N N] 72)) :=
  ⟨heap_alloc_new _ _, hr.later ((Below.refl _ _).alloc (Nat.le_refl _) _), hl, Nat.le_refl _, by have := (Array.getElem?_eq_some_iff.1 hr).1; omega⟩
section
variable {a : Act} {o : Oper} {W : World}
theorem run_pf0 (g : Nat) : (Instr.fieldAt 46 (.pointer (some ⟨g, 0, none⟩)) 0).run Tryd.prog W = .ok (.pointer (some ⟨g, 0, none⟩)) W := by kernel_rfl
theorem run_pf1 (g : Nat) : (Instr.fieldAt 46 (.pointer (some ⟨g, 0, none⟩)) 1).run Tryd.prog W = .ok (.pointer (some ⟨g, 1, none⟩)) W := by kernel_rfl
theorem exec_pf0 (x : Operand) (ho : o.op = .fieldAddr 46 x 0) (g : Nat) (hx : a.eval x = .pointer (some ⟨g, 0, none⟩)) : (execOp a.eval o).run Tryd.prog W = .ok (.value (.pointer (some ⟨g, 0, none⟩))) W := by
  unfold execOp
  simp only [ho, hx, Sem.run_bind, run_pf0, Result.andThen_ok, Sem.run_pure]
theorem exec_pf1 (x : Operand) (ho : o.op = .fieldAddr 46 x 1) (g : Nat) (hx : a.eval x = .pointer (some ⟨g, 0, none⟩)) : (execOp a.eval o).run Tryd.prog W = .ok (.value (.pointer (some ⟨g, 1, none⟩))) W := by
  unfold execOp
  simp only [ho, hx, Sem.run_bind, run_pf1, Result.andThen_ok, Sem.run_pure]
theorem exec_loadP (x : Operand) (ho : o.op = .load 46 x) (g : Nat) (hx : a.eval x = .pointer (some ⟨g, 0, none⟩)) (u v : Int) (h : Pk g u v W) : (execOp a.eval o).run Tryd.prog W = .ok (.value (.agg #[.int .i64 u, .int .i64 v])) W := by
  unfold execOp
  simp only [ho, hx, Instr.loadAt, Instr.sureAddr, Sem.run_bind, Sem.run_pure, Result.andThen_ok, h.load]
theorem exec_look (x y : Operand) (ho : o.op = .lookup 54 x y false) (m : Nat) (u v t : Int) (hx : a.eval x = .map (some m)) (hy : a.eval y = .agg #[.int .i64 u, .int .i64 v])
    (h : (Instr.lookup 54 (.map (some m)) (.agg #[.int .i64 u, .int .i64 v]) false).run Tryd.prog W = .ok (.int .i64 t) W) : (execOp a.eval o).run Tryd.prog W = .ok (.value (.int .i64 t)) W := by
  unfold execOp
  simp only [ho, hx, hy, Sem.run_bind, h, Result.andThen_ok, Sem.run_pure]
end
def daX (D g m : Nat) (a b1 t : Int) : Nat → Option Value
  | 0 => some (.pointer (some ⟨D, 0, none⟩))
  | 1 => some (.int .i64 a)
  | 2 => some (.pointer (some ⟨D, 1, none⟩))
  | 3 => some (.int .i64 b1)
  | 4 => some (.pointer (some ⟨g, 0, none⟩))
  | 5 => some (.pointer (some ⟨g, 0, none⟩))
  | 6 => some (.pointer (some ⟨g, 257, none⟩))
  | 7 => some (.map (some m))
  | 8 => some (.agg #[.int .i64 a, .int .i64 b1])
  | 9 => some (.int .i64 t)
  | _ => none
set_option maxHeartbeats 4000000 in
theorem nilEncode_any (w : World) (v : Value) : Calls Tryd.prog 11 #[.pointer none, v] w fun e w' => e = .returned (.tuple #[.slice none 0 0, .int .i64 0, .int .i64 2]) ∧ w' = w := by
  go_enter Tryd.func11, Tryd.ntmps11
  go_wp2
  go_ret3
  exact ⟨rfl, rfl⟩
set_option maxHeartbeats 8000000 in
theorem encode_any (w : World) (g : Nat) (bp : Option Addr) (cb N n P : Nat) (al : List Int) (ps : List (Int × Int)) (T : List (List Int)) (b : List Int) (hC : Cd g al ps T w) (hT : Texts al.length ps T) (hb : Byts w bp cb b) (hN : b.length = N) (hn : al.length = n) (hP : ps.length = P) (hnP : n + P ≤ 512) :
    Calls Tryd.prog 11 #[.pointer (some ⟨g, 0, none⟩), .slice bp N cb] w (EncA w (encD al ps b)) := by
  have HN := Lib.hid hN
  have Hn := Lib.hid hn
  have HP := Lib.hid hP
  have HnP := Lib.hid hnP
  have HCd := Lib.hid hC
  have HBw := Lib.hid hb
  have HTx := Lib.hid hT
  have hNm : N ≤ 9223372036854775807 := by rw [← hN]; have := Tn.Sl.len hb.sl; simpa using this
  by_cases hlong : 4096 < N
  · have hE : encD al ps b = ([], 0, 20) := by unfold encD; rw [if_pos (by omega)]
    rw [hE]
    have d1 : decide (4096 < N) = true := by simpa using hlong
    have d2 : decide ((4096 : Int) < (N : Int)) = true := by simp; omega
    clear hC hT hb hN hn hP hnP hE
    go_enter Tryd.func11, Tryd.ntmps11
    go_wp2
    go_ret3
    exact ⟨none, 0, rfl, Tn.Nums.nil _, Below.refl _ _⟩
  have hE : encD al ps b = match badAt al b with | some i => ([], i, 14) | none => (enc ps al.length b.length (firsts al b), 0, 0) := by unfold encD; rw [if_neg (by omega)]; rfl
  obtain ⟨R, hR⟩ : ∃ R, encD al ps b = R := ⟨_, rfl⟩
  rw [hR] at hE ⊢
  have HE := Lib.hid hE
  have d1 : decide (4096 < N) = false := by simpa using hlong
  have d2 : decide ((4096 : Int) < (N : Int)) = false := by simp; omega
  have HNs : Hid (N ≤ 4096) := Lib.hid (by omega)
  clear hC hT hb hN hn hP hnP hE hR hlong
  go_enter Tryd.func11, Tryd.ntmps11
  go_wp2_with fail
  refine (letters_any w g bp cb N al ps T b HCd.out HBw.out HN.out HNs.out (by have := HnP.out; have := Hn.out; omega)).mono ?_
  rintro e w1 ⟨hb1, ⟨i, hbad, rfl⟩ | ⟨hbad, c, hc, rfl, hr⟩⟩
  · have HB1 := Lib.hid hb1
    have hRr : R = ([], i, 14) := by rw [HE.out, hbad]
    subst hRr
    clear hb1 hbad HE
    go_wp2
    go_ret3
    exact ⟨none, 0, rfl, Tn.Nums.nil _, HB1.out⟩
  · have HB1 := Lib.hid hb1
    have HCc := Lib.hid hc
    have HR1 := Lib.hid hr
    have hRr : R = (enc ps n N (firsts al b), 0, 0) := by rw [HE.out, hbad, HN.out, Hn.out]
    rw [HN.out]
    obtain ⟨E0, hE0⟩ : ∃ E0, enc ps n N (firsts al b) = E0 := ⟨_, rfl⟩
    rw [hE0] at hRr
    subst hRr
    have HE0 := Lib.hid hE0
    have HMb := Lib.hid (Mb.made hr (show (firsts al b).length = N by rw [firsts_length, HN.out]))
    have HB2 : Hid (Below w.heap.size w (w1.alloc (.cells #[.slice (some ⟨c, 0, none⟩) N N] 72))) := Lib.hid (hb1.alloc (by have := hb1.size; omega) _)
    have HCd1 := Lib.hid (HCd.out.later hb1)
    have HRb : Hid (w.heap.size ≤ w1.heap.size) := Lib.hid hb1.size
    have HcR : Hid (c < w1.heap.size) := Lib.hid (Array.getElem?_eq_some_iff.1 hr).1
    have hbx : Below w1.heap.size w1 (w1.alloc (.cells #[.slice (some ⟨c, 0, none⟩) N N] 72)) := (Below.refl _ _).alloc (Nat.le_refl _) _
    have HCd2 := Lib.hid (HCd1.out.later hbx)
    clear hb1 hc hr hbad HE hE0 hbx
    go_upto_region 9 with fail
    refine gen_w (Q := fun w => Code.wp _ _ _ _ w) _ (fun W => Mb w1.heap.size c N N (firsts al b) W ∧ Cd g al ps T W ∧ Below w.heap.size w W) ⟨HMb.out, HCd2.out, HB2.out⟩ ?_
    obtain ⟨rb, hrb⟩ : ∃ rb, w1.heap.size = rb := ⟨_, rfl⟩
    rw [hrb] at HMb HRb HcR ⊢
    clear hrb HMb HCd2 HB2
    rintro W2 ⟨hm2, hc2, hb2⟩
    have HM2 := Lib.hid hm2
    have HC2 := Lib.hid hc2
    have HB2 := Lib.hid hb2
    have q0 := hm2.c0
    have HF := Lib.hid (firsts_length al b)
    have HtF : Hid ((firsts al b).take N = firsts al b) := Lib.hid (List.take_of_length_le (by rw [firsts_length, HN.out]; exact Nat.le_refl _))
    have HT2 : Hid (T.length = n + P) := Lib.hid (by rw [HTx.out.len, Hn.out, HP.out])
    have HNu : Hid (Nums W2 (some ⟨c, 0, none⟩) N (firsts al b)) := Lib.hid (by
      have h := hm2.nums (by unfold maxLen; have := HNs.out; omega)
      rwa [HtF.out] at h)
    clear hm2 hc2 hb2 HR1
    go_wp2_with fail
    refine (first_any W2 g c N N n P al ps T (firsts al b) HC2.out HNu.out (by rw [firsts_length, HN.out]) HNs.out Hn.out HP.out HnP.out HT2.out).mono ?_
    rintro e w3 ⟨hb3, a, b', rfl, hbest⟩
    have HB3 := Lib.hid (HB2.out.trans (hb3.mono HB2.out.size))
    have HM3 := Lib.hid (HM2.out.later hb3)
    have HC3 := Lib.hid (HC2.out.later hb3)
    have HBest := Lib.hid hbest
    obtain ⟨so, hso⟩ : ∃ so, (fst ps (firsts al b)).isSome = so := ⟨_, rfl⟩
    rw [hso]
    have HSo := Lib.hid hso
    have hbx : Below w3.heap.size w3 (w3.alloc (.cells #[.int .i64 a, .int .i64 b'] 46)) := (Below.refl _ _).alloc (Nat.le_refl _) _
    have HM4 := Lib.hid (HM3.out.later hbx)
    have HC4 := Lib.hid (HC3.out.later hbx)
    have HB4 := Lib.hid (HB3.out.trans (hbx.mono HB3.out.size))
    have HP4 : Hid (Pk w3.heap.size a b' (w3.alloc (.cells #[.int .i64 a, .int .i64 b'] 46))) := Lib.hid ⟨heap_alloc_new _ _⟩
    have HD4 : Hid (w.heap.size ≤ w3.heap.size) := Lib.hid HB3.out.size
    clear hb3 hbest hso hbx q0
    have HDr : Hid (rb < w3.heap.size) := Lib.hid (Array.getElem?_eq_some_iff.1 HM3.out.box).1
    go_upto_region 10 with fail
    refine gen_w (Q := fun w => Code.wp _ _ _ _ w) _ (fun W => Mb rb c N N (firsts al b) W ∧ Pk w3.heap.size a b' W ∧ Below w.heap.size w W) ⟨HM4.out, HP4.out, HB4.out⟩ ?_
    obtain ⟨D0, hD0⟩ : ∃ D0, w3.heap.size = D0 := ⟨_, rfl⟩
    rw [hD0] at HDr HD4 ⊢
    clear HM4 HP4 HB4 hD0 HM3 HC3 HB3
    rintro W5 ⟨hm5, hp5, hb5⟩
    have HM5 := Lib.hid hm5
    have HP5 := Lib.hid hp5
    have HB5 := Lib.hid hb5
    clear hm5 hp5 hb5
    go_loopw [11, 12] (fun pv tv wr => ∃ (D L : Nat) (K : List Int) (a b : Int) (so : Bool), pv = .pointer (some ⟨D, 0, none⟩) ∧ tv = .bool so ∧ rb < D ∧ Pk D a b wr ∧ Mb rb c L N K wr ∧ Below w.heap.size w wr ∧ (fst ps (K.take L)).isSome = so ∧ (∀ k, fst ps (K.take L) = some k → ps.getD k (0, 0) = (a, b)) ∧ enc ps n L (K.take L) = E0) (fun _ _ wr => lenW rb wr)
    case atStart => exact ⟨D0, N, firsts al b, a, b', so, rfl, rfl, HDr.out, HP5.out, HM5.out, HB5.out, by rw [HtF.out]; exact HSo.out, by rw [HtF.out]; exact HBest.out, by rw [HtF.out]; exact HE0.out⟩
    case round =>
      clear HM5 HP5 HB5 HSo HBest HDr HD4 HE0
      obtain ⟨D, L, K, a, b1, so, rfl, rfl, hD, hp, hm, hb, hso, hbest, hE⟩ := hrel
      have HDr := Lib.hid hD
      have HP1 := Lib.hid hp
      have HM := Lib.hid hm
      have HB := Lib.hid hb
      have HSo := Lib.hid hso
      have HBest := Lib.hid hbest
      have HEn := Lib.hid hE
      have HKl : Hid ((K.take L).length = L) := Lib.hid (by rw [List.length_take, hm.len]; exact Nat.min_eq_left hm.le)
      have HLw := Lib.hid hm.lenW
      clear hD hp hm hb hso hbest hE
      by_cases hs : so = true
      · subst hs
        obtain ⟨k, hk⟩ : ∃ k, fst ps (K.take L) = some k := Option.isSome_iff_exists.1 HSo.out
        have hpk := HBest.out k hk
        obtain ⟨hk1, hk2, hk3⟩ := fst_some hk
        have HK := Lib.hid hk
        have HPk := Lib.hid hpk
        have HK1 := Lib.hid hk1
        have HK2 := Lib.hid hk2
        obtain ⟨m, sp, ct, hcr, _⟩ := HCd.out.later HB.out
        have hmem : (a, b1) ∈ ps := by
          rw [← hpk, List.getD_eq_getElem?_getD, List.getElem?_eq_getElem hk1]
          exact List.getElem_mem hk1
        have hidx : ps.idxOf (a, b1) = k := by
          have h1 := HTx.out.nodup.idxOf_getElem k hk1
          rwa [show ps[k] = (a, b1) by rw [← hpk, List.getD_eq_getElem?_getD, List.getElem?_eq_getElem hk1]; rfl] at h1
        obtain ⟨t, ht⟩ : ∃ t : Int, (n : Int) + (k : Int) = t := ⟨_, rfl⟩
        have hlk : ∀ W, Below wr.heap.size wr W → (Instr.lookup 54 (.map (some m)) (.agg #[.int .i64 a, .int .i64 b1]) false).run Tryd.prog W = .ok (.int .i64 t) W := fun W hW => by
          have h9 := look_one (hcr.mp.later hW) a b1
          have h8 : tokP al.length ps (a, b1) = t := by unfold tokP; rw [if_pos hmem, hidx, Hn.out, ht]
          rw [h8] at h9
          exact h9
        have Hlk := Lib.hid hlk
        have HCr := Lib.hid hcr
        have HTt := Lib.hid ht
        clear hk hpk hk1 hk2 hk3 hcr hmem hidx ht hlk
        go_upto_region 12 with fail
        refine Tn.wp_region_spec (C := fun W => Below wr.heap.size wr W) (Le := fun w w' => Below w.heap.size w w') 10 (fun _ ixx W yy => True ∧ ∀ z, daX D g m a b1 t ixx = some z → yy = z) (by kernel_rfl) (by kernel_rfl) ⟨rfl, rfl, rfl, Nat.le_refl _, fun _ _ => rfl⟩ (fun _ _ _ _ _ _ h => h) (fun _ _ _ _ _ hb h => ⟨trivial, h.2⟩) (fun ixx yy => ∀ z, daX D g m a b1 t ixx = some z → yy = z) (fun _ _ _ _ h => h.2) (fun ixx => (daX D g m a b1 t ixx).getD undef) (fun ixx z h => by simp [h]) ?_ ?_
        · intro u hu
          have h0 : u 0 = .pointer (some ⟨D, 0, none⟩) := hu 0 _ rfl
          have h1 : u 1 = .int .i64 a := hu 1 _ rfl
          have h2 : u 2 = .pointer (some ⟨D, 1, none⟩) := hu 2 _ rfl
          have h3 : u 3 = .int .i64 b1 := hu 3 _ rfl
          have h4 : u 4 = .pointer (some ⟨g, 0, none⟩) := hu 4 _ rfl
          have h5 : u 5 = .pointer (some ⟨g, 0, none⟩) := hu 5 _ rfl
          have h6 : u 6 = .pointer (some ⟨g, 257, none⟩) := hu 6 _ rfl
          have h7 : u 7 = .map (some m) := hu 7 _ rfl
          have h8 : u 8 = .agg #[.int .i64 a, .int .i64 b1] := hu 8 _ rfl
          have h9 : u 9 = .int .i64 t := hu 9 _ rfl
          simp only [List.take_succ_cons, List.take_zero]
          refine Tn.spec_cons (fun W hC hd => ⟨by rfl, ?_⟩) ?_
          · exact Tn.gives_val (.pointer (some ⟨D, 0, none⟩)) W (exec_pf0 (.tmp 11) rfl D rfl) ⟨hC, Below.refl _ _, trivial, fun z hz => by cases hz; rfl⟩
          simp only [Act.put, List.setIfInBounds_toArray, List.set_cons_succ, List.set_cons_zero, Nat.reduceAdd]
          rw [h0]
          refine Tn.spec_cons (fun W hC hd => ⟨by rfl, ?_⟩) ?_
          · exact Tn.gives_val (.int .i64 a) W (exec_load1 3 (.tmp 46) rfl ⟨D, 0, none⟩ rfl _ (HP1.out.later hC).cells.1 _ Tryd.underlying3 rfl) ⟨hC, Below.refl _ _, trivial, fun z hz => by cases hz; rfl⟩
          simp only [Act.put, List.setIfInBounds_toArray, List.set_cons_succ, List.set_cons_zero, Nat.reduceAdd]
          rw [h1]
          refine Tn.spec_cons (fun W hC hd => ⟨by rfl, ?_⟩) ?_
          · exact Tn.gives_val (.pointer (some ⟨D, 1, none⟩)) W (exec_pf1 (.tmp 11) rfl D rfl) ⟨hC, Below.refl _ _, trivial, fun z hz => by cases hz; rfl⟩
          simp only [Act.put, List.setIfInBounds_toArray, List.set_cons_succ, List.set_cons_zero, Nat.reduceAdd]
          rw [h2]
          refine Tn.spec_cons (fun W hC hd => ⟨by rfl, ?_⟩) ?_
          · exact Tn.gives_val (.int .i64 b1) W (exec_load1 3 (.tmp 48) rfl ⟨D, 1, none⟩ rfl _ (HP1.out.later hC).cells.2 _ Tryd.underlying3 rfl) ⟨hC, Below.refl _ _, trivial, fun z hz => by cases hz; rfl⟩
          simp only [Act.put, List.setIfInBounds_toArray, List.set_cons_succ, List.set_cons_zero, Nat.reduceAdd]
          rw [h3]
          refine Tn.spec_cons (fun W hC hd => ⟨by rfl, ?_⟩) ?_
          · exact Tn.gives_val (.pointer (some ⟨g, 0, none⟩)) W (by rfl) ⟨hC, Below.refl _ _, trivial, fun z hz => by cases hz; rfl⟩
          simp only [Act.put, List.setIfInBounds_toArray, List.set_cons_succ, List.set_cons_zero, Nat.reduceAdd]
          rw [h4]
          refine Tn.spec_cons (fun W hC hd => ⟨by rfl, ?_⟩) ?_
          · exact Tn.gives_val (.pointer (some ⟨g, 0, none⟩)) W (exec_nilc (.tmp 50) rfl g rfl) ⟨hC, Below.refl _ _, trivial, fun z hz => by cases hz; rfl⟩
          simp only [Act.put, List.setIfInBounds_toArray, List.set_cons_succ, List.set_cons_zero, Nat.reduceAdd]
          rw [h5]
          refine Tn.spec_cons (fun W hC hd => ⟨by rfl, ?_⟩) ?_
          · exact Tn.gives_val (.pointer (some ⟨g, 257, none⟩)) W (exec_cf2 (.tmp 51) rfl g rfl) ⟨hC, Below.refl _ _, trivial, fun z hz => by cases hz; rfl⟩
          simp only [Act.put, List.setIfInBounds_toArray, List.set_cons_succ, List.set_cons_zero, Nat.reduceAdd]
          rw [h6]
          refine Tn.spec_cons (fun W hC hd => ⟨by rfl, ?_⟩) ?_
          · exact Tn.gives_val (.map (some m)) W (exec_load1 54 (.tmp 52) rfl ⟨g, 257, none⟩ rfl _ (HCr.out.later hC).c2 _ under_map rfl) ⟨hC, Below.refl _ _, trivial, fun z hz => by cases hz; rfl⟩
          simp only [Act.put, List.setIfInBounds_toArray, List.set_cons_succ, List.set_cons_zero, Nat.reduceAdd]
          rw [h7]
          refine Tn.spec_cons (fun W hC hd => ⟨by rfl, ?_⟩) ?_
          · exact Tn.gives_val (.agg #[.int .i64 a, .int .i64 b1]) W (exec_loadP (.tmp 11) rfl D rfl a b1 (HP1.out.later hC)) ⟨hC, Below.refl _ _, trivial, fun z hz => by cases hz; rfl⟩
          simp only [Act.put, List.setIfInBounds_toArray, List.set_cons_succ, List.set_cons_zero, Nat.reduceAdd]
          rw [h8]
          refine Tn.spec_cons (fun W hC hd => ⟨by rfl, ?_⟩) ?_
          · exact Tn.gives_val (.int .i64 t) W (exec_look (.tmp 53) (.tmp 54) rfl m a b1 t rfl rfl (Hlk.out W hC)) ⟨hC, Below.refl _ _, trivial, fun z hz => by cases hz; rfl⟩
          simp only [Act.put, List.setIfInBounds_toArray, List.set_cons_succ, List.set_cons_zero, Nat.reduceAdd]
          rw [h9]
          exact Tn.spec_nil
        · intro u W hu hC hP
          have h0 : u 0 = .pointer (some ⟨D, 0, none⟩) := hu 0 _ rfl
          have h1 : u 1 = .int .i64 a := hu 1 _ rfl
          have h2 : u 2 = .pointer (some ⟨D, 1, none⟩) := hu 2 _ rfl
          have h3 : u 3 = .int .i64 b1 := hu 3 _ rfl
          have h4 : u 4 = .pointer (some ⟨g, 0, none⟩) := hu 4 _ rfl
          have h5 : u 5 = .pointer (some ⟨g, 0, none⟩) := hu 5 _ rfl
          have h6 : u 6 = .pointer (some ⟨g, 257, none⟩) := hu 6 _ rfl
          have h7 : u 7 = .map (some m) := hu 7 _ rfl
          have h8 : u 8 = .agg #[.int .i64 a, .int .i64 b1] := hu 8 _ rfl
          have h9 : u 9 = .int .i64 t := hu 9 _ rfl
          simp only [List.take_succ_cons, List.take_zero, List.drop_succ_cons, List.drop_zero, Tn.putAll, Act.put, List.setIfInBounds_toArray, List.set_cons_succ, List.set_cons_zero, Nat.reduceAdd]
          rw [h0, h1, h2, h3, h4, h5, h6, h7, h8, h9]
          have HCw : Hid (Below wr.heap.size wr W) := Lib.hid hC
          clear hu hC hP h0 h1 h2 h3 h4 h5 h6 h7 h8 h9
          have HMw := Lib.hid (HM.out.later HCw.out)
          have HPw := Lib.hid (HP1.out.later HCw.out)
          have HBw := Lib.hid (HB.out.trans (HCw.out.mono HB.out.size))
          clear HCr HCw HM HP1 HB
          go_wp2_with fail
          refine (merge_any W w.heap.size rb c L N K a b1 t HMw.out HRb.out HCc.out HNs.out).mono ?_
          rintro e w6 ⟨rfl, hfr, L', K', hm6, hk6, hl6⟩
          have HM6 := Lib.hid hm6
          have HK6 := Lib.hid hk6
          have HL6 := Lib.hid hl6
          have HB6 := Lib.hid (HBw.out.trans hfr.below)
          have HP6 : Hid (Pk D a b1 w6) := Lib.hid ⟨(hfr.others D (by have := HDr.out; omega) (by have := HDr.out; have := HcR.out; omega)).trans HPw.out.row⟩
          obtain ⟨q1, q2⟩ := HP6.out.cells
          have hbx : Below w6.heap.size w6 (w6.alloc (.cells #[.int .i64 a, .int .i64 b1] 46)) := (Below.refl _ _).alloc (Nat.le_refl _) _
          have HX7 : Hid (Mb rb c L' N K' (w6.alloc (.cells #[.int .i64 a, .int .i64 b1] 46)) ∧ Pk w6.heap.size a b1 (w6.alloc (.cells #[.int .i64 a, .int .i64 b1] 46)) ∧ Below w.heap.size w (w6.alloc (.cells #[.int .i64 a, .int .i64 b1] 46))) := Lib.hid ⟨hm6.later hbx, ⟨heap_alloc_new _ _⟩, HB6.out.trans (hbx.mono HB6.out.size)⟩
          have HDn : Hid (rb < w6.heap.size) := Lib.hid (Array.getElem?_eq_some_iff.1 hm6.box).1
          clear hfr hm6 hk6 hl6 hbx
          go_upto_region 11 with fail
          refine gen_w (Q := fun w => Code.wp _ _ _ _ w) _ (fun W => Mb rb c L' N K' W ∧ Pk w6.heap.size a b1 W ∧ Below w.heap.size w W) HX7.out ?_
          obtain ⟨D7, hD7⟩ : ∃ D7, w6.heap.size = D7 := ⟨_, rfl⟩
          rw [hD7] at HDn ⊢
          clear HX7 q1 q2 hD7 HM6 HB6 HP6 HMw HPw HBw
          rintro w7 ⟨hm7, hp7, hb7⟩
          have HM7 := Lib.hid hm7
          have HP7 := Lib.hid hp7
          have HB7 := Lib.hid hb7
          have q0 := hm7.c0
          clear hm7 hp7 hb7
          have HLt : Hid (L' < L) := Lib.hid (by
            rw [HL6.out]
            have h1 := merg_less (a, b1) t (K.take L) (by have h2 := HK2.out; rwa [HPk.out] at h2)
            rw [List.length_take] at h1
            omega)
          have HLn : Hid (L' ≤ N) := Lib.hid HM7.out.le
          go_wp2_with fail
          refine (first_any w7 g c L' N n P al ps T (K'.take L') (HCd.out.later HB7.out) (HM7.out.nums (by unfold maxLen; have := HNs.out; omega)) (by rw [List.length_take, HM7.out.len]; exact Nat.min_eq_left HLn.out) (by have := HLn.out; have := HNs.out; omega) Hn.out HP.out HnP.out HT2.out).mono ?_
          rintro e w8 ⟨hb8, a', b8, rfl, hbest8⟩
          have HM8 := Lib.hid (HM7.out.later hb8)
          have HP8 := Lib.hid (HP7.out.later hb8)
          have HB8 := Lib.hid (HB7.out.trans (hb8.mono HB7.out.size))
          have HBest8 := Lib.hid hbest8
          obtain ⟨s8, hs8⟩ : ∃ s8, (fst ps (K'.take L')).isSome = s8 := ⟨_, rfl⟩
          rw [hs8]
          have HS8 := Lib.hid hs8
          clear hb8 hbest8 hs8 q0
          have HP9 : Hid (Pk D7 a' b8 (w8.setRow D7 #[.int .i64 a', .int .i64 b8])) := Lib.hid ⟨setRow_heap _ _ _ _ _ _ HP8.out.row⟩
          have HM9 : Hid (Mb rb c L' N K' (w8.setRow D7 #[.int .i64 a', .int .i64 b8])) := Lib.hid ⟨(setRow_other _ _ _ _ (by have := HDn.out; omega)).trans HM8.out.box, (setRow_other _ _ _ _ (by have := HDn.out; have := HcR.out; omega)).trans HM8.out.row, HM8.out.len, HM8.out.le, HM8.out.ne⟩
          have HB9 : Hid (Below w.heap.size w (w8.setRow D7 #[.int .i64 a', .int .i64 b8])) := Lib.hid (below_setRow HB8.out (by have := HDn.out; have := HRb.out; omega) _)
          go_wp2_with (refine wpList_store_row rfl 46 (.tmp 11) (.tmp 44) rfl D7 #[.int .i64 a', .int .i64 b8] rfl rfl 46 _ HP8.out.row (size_bpair2 _ _) rfl (two_one _ _ rfl rfl) ?_)
          go_roundw
          case rel => exact ⟨D7, L', K', a', b8, s8, rfl, rfl, HDn.out, HP9.out, HM9.out, HB9.out, HS8.out, HBest8.out, by
            have h1 := enc_step (base := (n : Int)) HK.out
            rw [HPk.out, HTt.out, ← HK6.out] at h1
            have e1 : (K.take L).length = L := HKl.out
            have e2 : (K'.take L').length = L' := by rw [List.length_take, HM9.out.len]; exact Nat.min_eq_left HLn.out
            rw [e1, e2] at h1
            rw [← h1]
            exact HEn.out⟩
          case measure => rw [HM9.out.lenW, HLw.out]; exact HLt.out
      · have hs : so = false := by simpa using hs
        subst hs
        have hf : fst ps (K.take L) = none := by
          have := HSo.out
          rcases h : fst ps (K.take L) with _ | k
          · rfl
          · rw [h] at this; cases this
        have hEl : E0 = K.take L := by rw [← HEn.out]; exact enc_stop hf _
        have HA : Hid (EncA w (E0, 0, 0) (.returned (.tuple #[.slice (some ⟨c, 0, none⟩) L N, .int .i64 0, .int .i64 0])) wr) := Lib.hid ⟨some ⟨c, 0, none⟩, N, by rw [hEl, HKl.out]; rfl, by rw [hEl]; exact HM.out.nums (by unfold maxLen; have := HNs.out; omega), HB.out⟩
        have q0 := HM.out.c0
        clear hf hEl
        go_wp2
        go_ret3
        exact HA.out
end Go.Proofs.YtllaecliaojmjaaDoor.Bp
