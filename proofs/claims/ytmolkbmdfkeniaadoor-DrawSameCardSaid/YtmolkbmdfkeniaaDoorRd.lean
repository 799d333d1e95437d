import Derived.Test.YtmolkbmdfkeniaaDoorRc
import Derived.Test.YtmolkbmdfkeniaaDoorNh
namespace Go.Proofs.YtmolkbmdfkeniaaDoor.Dr
set_option maxRecDepth 100000
open Go.ChangeShapes Go.WideShapes Go.ChangeAt Go.RowKit Go.Proofs.YtmolkbmdfkeniaaDoor.Tn

/-! ### the document's answer: Pick -/
theorem exec_call3' {P : Program} {a : Act} {o : Oper} {W : World} (f : FuncId) (x y z : Operand) (ats : Array TypeId) (u v r : Value) (ho : o.op = .call { callee := .value (.func f), args := #[x, y, z], argTypes := ats }) (hx : a.eval x = u) (hy : a.eval y = v) (hz : a.eval z = r)
    (hf : (callFunc f #[u, v, r]).run P W = .ok (.enter f #[u, v, r]) W) : (execOp a.eval o).run P W = .ok (.enter f #[u, v, r]) W :=
  Tn.exec_call f #[x, y, z] ats #[u, v, r] ho (by simp [hx, hy, hz]) hf
theorem exec_load_blk {a : Act} {o : Oper} {W : World} (x : Operand) (ho : o.op = .load 23 x) (g : Nat) (hx : a.eval x = .pointer (some ⟨g, 0, none⟩)) (d : List Int) (hd : d.length = 32) (hr : Dg W g d) : (execOp a.eval o).run Tryd.prog W = .ok (.value (.agg (rowB d))) W :=
  exec_load_seed x ho g hx d hd (fun j v hv => by
    rw [Nat.zero_add, cell_of_row _ _ _ _ _ _ hr, ← hv]
    simp [rowB])
def pkX (s : List Int) (c : Int) (sv : Option Addr) (cv j : Nat) (x : Int) (f : Nat) (er : Int) : Nat → Option Value
  | 0 => some (.agg (rowB s))
  | 1 => some (.int .i64 c)
  | 2 => some (.slice sv j cv)
  | 4 => some (.tuple #[.int .i64 x, .int .i64 (f : Int), .int .i64 er])
  | 5 => some (.tuple #[.int .i64 x, .int .i64 (f : Int), .int .i64 er])
  | 6 => some (.int .i64 x)
  | 7 => some (.int .i64 (f : Int))
  | 8 => some (.int .i64 er)
  | 9 => some (.int .i64 x)
  | 10 => some (.int .i64 (f : Int))
  | _ => none
structure PkO (w : World) (q : List Int) (k : Nat) (v : Value) (W : World) : Prop where
  below : Below w.heap.size w W
  own : W.ownsRow w.heap.size 3 1 v k ((q.take k).map (Value.int .i64))
theorem takeQ_snoc (l : List Int) (k : Nat) (h : k < l.length) : l.take (k + 1) = l.take k ++ [l.getD k 0] := by
  have e : l.getD k 0 = l[k] := by simp [h]
  rw [e, List.take_succ_eq_append_getElem h]
set_option maxHeartbeats 4000000 in
theorem rpick_any (w : World) (s : List Int) (c : Int) (sp : Option Addr) (cap N : Nat) (v : List Int) (k : Int) (hs : Seed s) (h0 : 0 ≤ c) (h1 : c ≤ mostC) (hN : v.length = N) (hl : Nums w sp cap v) :
    Calls Tryd.prog 22 #[dgV s, .int .i64 c, .slice sp N cap, .int .i64 k] w fun e w' => e = .returned (three (pickD (numV s) c v k)) ∧ Below w.heap.size w w' := by
  have hNm : N ≤ 9223372036854775807 := by rw [← hN]; exact hl.len
  have HSd : Hid (Seed s) := Lib.hid hs
  have HN := Lib.hid hN
  have HL := Lib.hid hl
  have HB0 : Hid (H1 w s (w.alloc (.cells (rowB s) 23))) := Lib.hid (H1.made w s)
  have HL0 := Lib.hid (HL.out.below HB0.out.below)
  have HCk := Lib.hid (fun W h => rcheck_any W sp cap N v hN h)
  change Calls Tryd.prog 22 #[.agg (rowB s), .int .i64 c, .slice sp N cap, .int .i64 k] w _
  by_cases hc0 : chkV v = 0
  · rw [hc0] at HCk
    by_cases hk1 : k < 1
    · have hD : pickD (numV s) c v k = (0, 0, 10) := by
        have : topE8 v k = 10 := by unfold topE8; rw [if_neg (by omega), if_pos (by omega)]
        unfold pickD
        rw [if_pos (by omega), this]
      rw [hD]
      have d1 : decide (k < 1) = true := by simpa using hk1
      clear hN hl hs hD hc0 hk1
      go_enter Tryd.func22, Tryd.ntmps22
      go_wp2_with fail
      refine (HCk.out _ HL0.out).mono ?_
      rintro e w' ⟨rfl, rfl⟩
      go_wp2
      go_ret3
      exact ⟨rfl, HB0.out.below⟩
    have d1 : decide (k < 1) = false := by simpa using hk1
    by_cases hk2 : (N : Int) < k
    · have hD : pickD (numV s) c v k = (0, 0, 10) := by
        have : topE8 v k = 10 := by unfold topE8; rw [if_neg (by omega), if_pos (by omega)]
        unfold pickD
        rw [if_pos (by omega), this]
      rw [hD]
      have d2 : decide ((N : Int) < k) = true := by simpa using hk2
      clear hN hl hs hD hc0 hk1 hk2
      go_enter Tryd.func22, Tryd.ntmps22
      go_wp2_with fail
      refine (HCk.out _ HL0.out).mono ?_
      rintro e w' ⟨rfl, rfl⟩
      go_wp2
      go_ret3
      exact ⟨rfl, HB0.out.below⟩
    have d2 : decide ((N : Int) < k) = false := by simpa using hk2
    have hT8 : topE8 v k = 0 := by unfold topE8; rw [if_neg (by omega), if_neg (by omega)]
    obtain ⟨K, hK⟩ : ∃ K : Nat, k = (K : Int) := ⟨k.toNat, by omega⟩
    subst hK
    have d2' : decide (N < K) = false := by simp; omega
    have hN5 : N ≤ 512 := by have := (chkV_all hc0).2.1; omega
    have HTp := Lib.hid (fun W h => rtop_any W sp cap N K v hN h hN5 (by omega) (by omega))
    have hTl := topI_length v K
    by_cases hk3 : K = 1
    · subst hk3
      have d2'' : decide ((N : Int) < 1) = false := by simp; omega
      have hD : pickD (numV s) c v ((1 : Nat) : Int) = ((((topN v 1).getD 0 0 : Nat) : Int), 0, 0) := by
        unfold pickD
        rw [if_neg (fun h => h hT8), if_pos (show ((1 : Nat) : Int) = 1 from rfl)]
      rw [hD]
      have hg := topI_get (v := v) (K := 1) (i := 0) (by omega)
      obtain ⟨x, hx⟩ : ∃ x, (topN v 1).getD 0 0 = x := ⟨_, rfl⟩
      rw [hx] at hg ⊢
      obtain ⟨T, hTT⟩ : ∃ T, topI v 1 = T := ⟨_, rfl⟩
      rw [hTT] at hTl hg HTp
      have HTl := Lib.hid hTl
      have HGt := Lib.hid hg
      clear hN hl hs hD hc0 hk1 hk2 hT8 hTl hg hTT hx
      go_enter Tryd.func22, Tryd.ntmps22
      go_wp2_with fail
      refine (HCk.out _ HL0.out).mono ?_
      rintro e w' ⟨rfl, rfl⟩
      go_wp2_with fail
      refine (HTp.out _ HL0.out).mono ?_
      rintro e w1 ⟨s1, q1, rfl, hn1, hb1⟩
      obtain ⟨⟨a1, a2⟩, e1⟩ := nums_at_ hn1 0 (by rw [HTl.out]; omega)
      subst e1
      have ct := Nums.cell hn1 0 (by rw [HTl.out]; omega)
      rw [HGt.out, Nat.add_zero] at ct
      have HB1 := Lib.hid (HB0.out.below.trans (hb1.mono HB0.out.below.size))
      rw [HTl.out]
      clear hn1 hb1
      go_wp2
      go_ret3
      exact ⟨rfl, HB1.out⟩
    have d3 : ((K : Int) == 1) = false := by simp; omega
    have hK1 : 1 ≤ K := by omega
    have hK5 : K ≤ 512 := by omega
    have hql := ownT_length v K
    have hsl : (smx (ownT v K)).length = K := by rw [smx_length, hql]
    have hin : ∀ x ∈ ownT v K, Fx.isN x := (chkV_all (chkV_own hc0 (show 1 ≤ K by omega) (show K ≤ v.length by omega))).2.2
    have HGet : Hid (∀ i, i < K → (topI v K).getD i 0 = (((topN v K).getD i 0 : Nat) : Int) ∧ (topN v K).getD i 0 < N ∧ (ownT v K).getD i 0 = v.getD ((topN v K).getD i 0) 0) := Lib.hid (fun i hi => ⟨topI_get hi, by rw [← hN]; exact topN_lt (by omega) hi, ownT_get hi⟩)
    have HSf := Lib.hid (fun W so co hq => rsoftmax_any W so co K (ownT v K) hql hq (by omega) (by omega) hin)
    have HCh := Lib.hid (fun W sq cq hq => rchoose_any W s c sq cq K (smx (ownT v K)) hs h0 h1 hsl hq)
    have HFit := Lib.hid (chooseD_fit (numV s) c (smx (ownT v K)) h1)
    have hD : pickD (numV s) c v ((K : Nat) : Int) = if (chooseD (numV s) c (smx (ownT v K))).2.2 = 0 then ((((topN v K).getD (chooseD (numV s) c (smx (ownT v K))).1.toNat 0 : Nat) : Int), (chooseD (numV s) c (smx (ownT v K))).2.1, 0) else (0, 0, (chooseD (numV s) c (smx (ownT v K))).2.2) := by
      unfold pickD
      rw [if_neg (fun h => h hT8), if_neg (by omega), Int.toNat_natCast]
    rw [hD]
    obtain ⟨T, hTT⟩ : ∃ T, topI v K = T := ⟨_, rfl⟩
    rw [hTT] at hTl HGet HTp
    obtain ⟨q, hq⟩ : ∃ q, ownT v K = q := ⟨_, rfl⟩
    rw [hq] at HGet HSf hql HCh HFit hsl ⊢
    obtain ⟨M, hM⟩ : ∃ M, smx q = M := ⟨_, rfl⟩
    rw [hM] at HSf HCh HFit hsl ⊢
    obtain ⟨D, hDD⟩ : ∃ D, chooseD (numV s) c M = D := ⟨_, rfl⟩
    rw [hDD] at HCh HFit ⊢
    obtain ⟨x, f, er⟩ := D
    dsimp only at HFit ⊢
    obtain ⟨RR, hRR⟩ : ∃ RR, (if er = 0 then ((((topN v K).getD x.toNat 0 : Nat) : Int), f, 0) else (0, 0, er)) = RR := ⟨_, rfl⟩
    rw [hRR]
    have HRR := Lib.hid hRR
    have HTl := Lib.hid hTl
    have HQl := Lib.hid hql
    have HMl := Lib.hid hsl
    clear hN hl hs hc0 hk1 hk2 hT8 hTl hTT hql hsl hin hD hq hM hDD hRR
    go_enter Tryd.func22, Tryd.ntmps22
    go_wp2_with fail
    refine (HCk.out _ HL0.out).mono ?_
    rintro e w' ⟨rfl, rfl⟩
    go_wp2_with fail
    refine (HTp.out _ HL0.out).mono ?_
    rintro e w1 ⟨s1, q1, rfl, hn1, hb1⟩
    rw [HTl.out]
    obtain ⟨⟨a1, a2⟩, e1⟩ := nums_at_ hn1 0 (by rw [HTl.out]; omega)
    subst e1
    have HN1 := Lib.hid hn1
    have HH1 := Lib.hid (HB0.out.later hb1)
    have HL1 := Lib.hid (HL0.out.below hb1)
    clear hn1 hb1
    go_wp2
    have hpo : PkO w1 q 0 (.slice none 0 0) w1 := ⟨Below.refl _ _, by simp only [List.take_zero, List.map_nil]; exact World.ownsRow_nil _ _ _ _⟩
    go_loopw [13, 14] (fun V i wr => ∃ j : Nat, j ≤ K ∧ i = .int .i64 j ∧ PkO w1 q j V wr) (fun _ i _ => K - (intOf i).toNat)
    case atStart => exact ⟨0, by omega, rfl, hpo⟩
    case round =>
      clear hpo
      obtain ⟨j, hj, rfl, hpo⟩ := hrel
      obtain ⟨sv, cv, rfl, _, _, _⟩ := Tn.Sl.all1 hpo.own
      have HPo := Lib.hid hpo
      clear hpo
      by_cases hlt : j < K
      · have hdt : decide (j < K) = true := by simp; omega
        obtain ⟨g1, g2, g3⟩ := HGet.out j hlt
        have ct := Nums.cell (HN1.out.below HPo.out.below) j (by rw [HTl.out]; exact hlt)
        rw [g1] at ct
        obtain ⟨p, hp⟩ : ∃ p, (topN v K).getD j 0 = p := ⟨_, rfl⟩
        rw [hp] at ct g2 g3
        have hlv := HL1.out.below HPo.out.below
        obtain ⟨b1, b2, e2, cv⟩ := hlv.at_ p (by rw [HN.out]; exact g2)
        rw [← g3] at cv
        have hts := takeQ_snoc q j (by rw [HQl.out]; exact hlt)
        obtain ⟨y, hy⟩ : ∃ y, q.getD j 0 = y := ⟨_, rfl⟩
        rw [hy] at cv hts
        have HTs := Lib.hid hts
        subst e2
        clear hp g1 g3 hlv hts hy
        go_wp2_with (refine Tn.wpList_push rfl (.tmp 44) (.tmp 52) rfl w1.heap.size _ j (q.take j) y rfl HPo.out.own rfl (by omega) HPo.out.below.size ?_; intro v' w' hown hbw)
        have HPo2 : Hid (PkO w1 q (j + 1) v' w') := Lib.hid ⟨HPo.out.below.trans hbw, by rw [HTs.out]; exact hown⟩
        clear hown hbw ct cv
        go_wp2
        go_roundw
        case rel => exact ⟨j + 1, by omega, by go_num, HPo2.out⟩
        case measure => simp [intOf]; omega
      · obtain rfl : j = K := by omega
        have hdf : decide (j < j) = false := by simp
        have how := HPo.out.own
        rw [List.take_of_length_le (by rw [HQl.out]; exact Nat.le_refl _)] at how
        obtain ⟨so, co, e2, _, hno⟩ := Tn.own_nums how
        cases e2
        have HOr := Lib.hid hno
        have HHr := Lib.hid (HH1.out.later HPo.out.below)
        have HTr := Lib.hid (HN1.out.below HPo.out.below)
        clear how hno hlt hj
        go_upto_region 14 with fail
        refine Tn.wp_region_spec (C := fun W => Below wr.heap.size wr W) (Le := fun w w' => Below w.heap.size w w') 11 (fun _ ixx W yy => (ixx = 3 → ∃ sp cap, yy = .slice sp j cap ∧ Nums W sp cap M) ∧ ∀ z, pkX s c sv cv j x f er ixx = some z → yy = z) (by kernel_rfl) (by kernel_rfl) ⟨rfl, rfl, rfl, Nat.le_refl _, fun _ _ => rfl⟩ (fun _ _ _ _ _ _ h => h) (fun _ _ W W' _ hb h => ⟨fun e => (h.1 e).elim fun sp h => h.elim fun cap h => ⟨sp, cap, h.1, Tn.Nums.below h.2 hb⟩, h.2⟩) (fun ixx yy => ∀ z, pkX s c sv cv j x f er ixx = some z → yy = z) (fun _ _ _ _ h => h.2) (fun ixx => (pkX s c sv cv j x f er ixx).getD undef) (fun ixx z h => by simp [h]) ?_ ?_
        · intro u hu
          have h0 : u 0 = .agg (rowB s) := hu 0 _ rfl
          have h1 : u 1 = .int .i64 c := hu 1 _ rfl
          have h2 : u 2 = .slice sv j cv := hu 2 _ rfl
          have h4 : u 4 = .tuple #[.int .i64 x, .int .i64 (f : Int), .int .i64 er] := hu 4 _ rfl
          have h5 : u 5 = .tuple #[.int .i64 x, .int .i64 (f : Int), .int .i64 er] := hu 5 _ rfl
          have h6 : u 6 = .int .i64 x := hu 6 _ rfl
          have h7 : u 7 = .int .i64 (f : Int) := hu 7 _ rfl
          have h8 : u 8 = .int .i64 er := hu 8 _ rfl
          have h9 : u 9 = .int .i64 x := hu 9 _ rfl
          have h10 : u 10 = .int .i64 (f : Int) := hu 10 _ rfl
          simp only [List.take_succ_cons, List.take_zero]
          refine Tn.spec_cons (fun W hC hd => ⟨by rfl, ?_⟩) ?_
          · exact Tn.gives_val (.agg (rowB s)) W (exec_load_blk (.tmp 4) rfl w.heap.size rfl s HSd.out.1 (HHr.out.d.below hC)) ⟨hC, Below.refl _ _, (fun h => absurd h (by decide)), fun x hx => by cases hx; rfl⟩
          simp only [Act.put, List.setIfInBounds_toArray, List.set_cons_succ, List.set_cons_zero, Nat.reduceAdd]
          rw [h0]
          refine Tn.spec_cons (fun W hC hd => ⟨by rfl, ?_⟩) ?_
          · exact Tn.gives_val (.int .i64 c) W (by rfl) ⟨hC, Below.refl _ _, (fun h => absurd h (by decide)), fun x hx => by cases hx; rfl⟩
          simp only [Act.put, List.setIfInBounds_toArray, List.set_cons_succ, List.set_cons_zero, Nat.reduceAdd]
          rw [h1]
          refine Tn.spec_cons (fun W hC hd => ⟨by rfl, ?_⟩) ?_
          · exact Tn.gives_val (.slice sv j cv) W (by rfl) ⟨hC, Below.refl _ _, (fun h => absurd h (by decide)), fun x hx => by cases hx; rfl⟩
          simp only [Act.put, List.setIfInBounds_toArray, List.set_cons_succ, List.set_cons_zero, Nat.reduceAdd]
          rw [h2]
          refine Tn.spec_cons (fun W hC hd => ⟨by rfl, ?_⟩) ?_
          · exact Tn.gives_call _ _ (Tn.exec_call1 36 (.tmp 57) #[39] _ rfl rfl (Tn.cf Tryd.func36 (by kernel_rfl) (by kernel_rfl) _ _)) ((HSf.out W _ _ (HOr.out.below hC)).mono fun e W' ⟨sp, cap, h1, h2, h3⟩ => ⟨_, h1, hC.trans (h3.mono hC.size), h3, (fun _ => ⟨sp, cap, by rw [HMl.out], h2⟩), fun x hx => by cases hx⟩)
          simp only [Act.put, List.setIfInBounds_toArray, List.set_cons_succ, List.set_cons_zero, Nat.reduceAdd]
          refine Tn.spec_cons (fun W hC hd => ⟨by rfl, ?_⟩) ?_
          · obtain ⟨sp3, cap3, e3, hn3⟩ := (hd ⟨3, .data⟩ (by simp) rfl).1 rfl
            exact Tn.gives_call _ _ (exec_call3' 20 (.tmp 55) (.tmp 56) (.tmp 58) #[23, 3, 39] _ _ _ rfl rfl rfl e3 (Tn.cf Tryd.func20 (by kernel_rfl) (by kernel_rfl) _ _)) ((HCh.out W sp3 cap3 hn3).mono fun e W' h => ⟨_, h.1, hC.trans (h.2.mono hC.size), h.2, (fun h => absurd h (by decide)), fun x hx => by cases hx; rfl⟩)
          simp only [Act.put, List.setIfInBounds_toArray, List.set_cons_succ, List.set_cons_zero, Nat.reduceAdd]
          rw [h4]
          refine Tn.spec_cons (fun W hC hd => ⟨by rfl, ?_⟩) ?_
          · exact Tn.gives_val (.tuple #[.int .i64 x, .int .i64 (f : Int), .int .i64 er]) W (by rfl) ⟨hC, Below.refl _ _, (fun h => absurd h (by decide)), fun x hx => by cases hx; rfl⟩
          simp only [Act.put, List.setIfInBounds_toArray, List.set_cons_succ, List.set_cons_zero, Nat.reduceAdd]
          rw [h5]
          refine Tn.spec_cons (fun W hC hd => ⟨by rfl, ?_⟩) ?_
          · exact Tn.gives_val (.int .i64 x) W (by rfl) ⟨hC, Below.refl _ _, (fun h => absurd h (by decide)), fun x hx => by cases hx; rfl⟩
          simp only [Act.put, List.setIfInBounds_toArray, List.set_cons_succ, List.set_cons_zero, Nat.reduceAdd]
          rw [h6]
          refine Tn.spec_cons (fun W hC hd => ⟨by rfl, ?_⟩) ?_
          · exact Tn.gives_val (.int .i64 (f : Int)) W (by rfl) ⟨hC, Below.refl _ _, (fun h => absurd h (by decide)), fun x hx => by cases hx; rfl⟩
          simp only [Act.put, List.setIfInBounds_toArray, List.set_cons_succ, List.set_cons_zero, Nat.reduceAdd]
          rw [h7]
          refine Tn.spec_cons (fun W hC hd => ⟨by rfl, ?_⟩) ?_
          · exact Tn.gives_val (.int .i64 er) W (by rfl) ⟨hC, Below.refl _ _, (fun h => absurd h (by decide)), fun x hx => by cases hx; rfl⟩
          simp only [Act.put, List.setIfInBounds_toArray, List.set_cons_succ, List.set_cons_zero, Nat.reduceAdd]
          rw [h8]
          refine Tn.spec_cons (fun W hC hd => ⟨by rfl, ?_⟩) ?_
          · exact Tn.gives_val (.int .i64 x) W (by rfl) ⟨hC, Below.refl _ _, (fun h => absurd h (by decide)), fun x hx => by cases hx; rfl⟩
          simp only [Act.put, List.setIfInBounds_toArray, List.set_cons_succ, List.set_cons_zero, Nat.reduceAdd]
          rw [h9]
          refine Tn.spec_cons (fun W hC hd => ⟨by rfl, ?_⟩) ?_
          · exact Tn.gives_val (.int .i64 (f : Int)) W (by rfl) ⟨hC, Below.refl _ _, (fun h => absurd h (by decide)), fun x hx => by cases hx; rfl⟩
          simp only [Act.put, List.setIfInBounds_toArray, List.set_cons_succ, List.set_cons_zero, Nat.reduceAdd]
          rw [h10]
          exact Tn.spec_nil
        · intro u W hu hC hP
          have h0 : u 0 = .agg (rowB s) := hu 0 _ rfl
          have h1 : u 1 = .int .i64 c := hu 1 _ rfl
          have h2 : u 2 = .slice sv j cv := hu 2 _ rfl
          have h4 : u 4 = .tuple #[.int .i64 x, .int .i64 (f : Int), .int .i64 er] := hu 4 _ rfl
          have h5 : u 5 = .tuple #[.int .i64 x, .int .i64 (f : Int), .int .i64 er] := hu 5 _ rfl
          have h6 : u 6 = .int .i64 x := hu 6 _ rfl
          have h7 : u 7 = .int .i64 (f : Int) := hu 7 _ rfl
          have h8 : u 8 = .int .i64 er := hu 8 _ rfl
          have h9 : u 9 = .int .i64 x := hu 9 _ rfl
          have h10 : u 10 = .int .i64 (f : Int) := hu 10 _ rfl
          obtain ⟨sp3, cap3, e3, _⟩ := (hP 3 (by omega)).1 rfl
          simp only [List.take_succ_cons, List.take_zero, List.drop_succ_cons, List.drop_zero, Tn.putAll, Act.put, List.setIfInBounds_toArray, List.set_cons_succ, List.set_cons_zero, Nat.reduceAdd]
          rw [h0, h1, h2, e3, h4, h5, h6, h7, h8, h9, h10]
          have HBw := Lib.hid (HHr.out.below.trans (hC.mono HHr.out.below.size))
          have HT3 := Lib.hid (HTr.out.below hC)
          clear hu h0 h1 h2 e3 h4 h5 h6 h7 h8 h9 h10 hC hP
          unfold three at *
          by_cases hE : er = 0
          · subst hE
            have hr := HRR.out
            rw [if_pos rfl] at hr
            obtain ⟨p, hxp, hpl, _⟩ := HFit.out.2.2.1 rfl
            subst hxp
            rw [Int.toNat_natCast] at hr
            rw [HMl.out] at hpl
            have ct := Nums.cell HT3.out p (by rw [HTl.out]; exact hpl)
            rw [(HGet.out p hpl).1] at ct
            obtain ⟨z, hz⟩ : ∃ z, (topN v j).getD p 0 = z := ⟨_, rfl⟩
            rw [hz] at ct hr
            have HR := Lib.hid hr
            clear hz hr
            go_wp2
            go_ret3
            exact ⟨by rw [← HR.out]; rfl, HBw.out⟩
          · have hr := HRR.out
            rw [if_neg hE] at hr
            have HR := Lib.hid hr
            have e1 := ne_of0 hE
            clear hE hr
            go_wp2
            go_ret3
            exact ⟨by rw [← HR.out]; rfl, HBw.out⟩
  · have hD : pickD (numV s) c v k = (0, 0, chkV v) := by
      have : topE8 v k = chkV v := by unfold topE8; rw [if_pos hc0]
      unfold pickD
      rw [this, if_pos hc0]
    rw [hD]
    have e1 := ne_of0 hc0
    obtain ⟨E, hE⟩ : ∃ E, chkV v = E := ⟨_, rfl⟩
    rw [hE] at HCk e1 ⊢
    clear hN hl hs hD hc0 hE
    go_enter Tryd.func22, Tryd.ntmps22
    go_wp2_with fail
    refine (HCk.out _ HL0.out).mono ?_
    rintro e w' ⟨rfl, rfl⟩
    go_wp2
    go_ret3
    exact ⟨rfl, HB0.out.below⟩
end Go.Proofs.YtmolkbmdfkeniaaDoor.Dr
