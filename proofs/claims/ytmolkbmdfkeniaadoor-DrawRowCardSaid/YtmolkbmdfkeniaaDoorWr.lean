import Derived.Test.YtmolkbmdfkeniaaDoorWa
namespace Go.Proofs.YtmolkbmdfkeniaaDoor.Dr
set_option maxRecDepth 100000
open Go.ChangeShapes Go.WideShapes Go.ChangeAt Go.RowKit Go.Proofs.YtmolkbmdfkeniaaDoor.Tn

/-- the seed's block, and that of two numbers -/
structure H2 (w : World) (s : List Int) (a b : Int) (W : World) : Prop where
  below : Below w.heap.size w W
  d : Dg W w.heap.size s
  t : W.heap[w.heap.size + 1]? = some (.cells #[.int .i64 a, .int .i64 b] 52 (0, 0))
section
variable {w W W' : World} {s : List Int} {a b : Int}
theorem H2.later (h : H2 w s a b W) (hb : Below W.heap.size W W') : H2 w s a b W' := ⟨h.below.trans (hb.mono h.below.size), h.d.below hb, (hb.block _ (Array.getElem?_eq_some_iff.1 h.t).1).trans h.t⟩
theorem H2.lt (h : H2 w s a b W) : w.heap.size + 1 < W.heap.size := (Array.getElem?_eq_some_iff.1 h.t).1
theorem H2.grown {g : Nat} (h : H2 w s a b W) (h2 : W.grownBy W' (some g)) (hg : w.heap.size + 1 < g) : H2 w s a b W' :=
  ⟨below_grown h.below h2 (by omega) (Nat.le_refl _), (h2.block _ h.d.lt (fun e => by have := Option.some.inj e; omega)).trans h.d, (h2.block _ h.lt (fun e => by have := Option.some.inj e; omega)).trans h.t⟩
theorem H2.cells (h : H2 w s a b W) : W.cell? ⟨w.heap.size + 1, 0, none⟩ = some (.int .i64 a) ∧ W.cell? ⟨w.heap.size + 1, 1, none⟩ = some (.int .i64 b) := by
  constructor
  · rw [cell_of_row _ _ _ _ _ _ h.t]; rfl
  · rw [cell_of_row _ _ _ _ _ _ h.t]; rfl
end
section
variable {a : Act} {o : Oper} {W : World}
theorem guardI (op : BinOp) (x y : Operand) (u v : Int) : (eqGuard op 3 x y (.int .i64 u) (.int .i64 v)).run Tryd.prog W = .ok () W := by
  unfold eqGuard
  cases op <;> simp
theorem exec_addI (x y : Operand) (ho : o.op = .binOp .add 3 x y 3) (u v z : Int) (hx : a.eval x = .int .i64 u) (hy : a.eval y = .int .i64 v) (hz : IntKind.i64.wrap (u + v) = z) : (execOp a.eval o).run Tryd.prog W = .ok (.value (.int .i64 z)) W :=
  Tn.exec_binOp .add 3 3 x y ho _ _ _ hx hy (guardI _ _ _ _ _) (by simp [go_sem, hz])
theorem exec_eqI (x y : Operand) (ho : o.op = .binOp .eql 3 x y 3) (u : Int) (hx : a.eval x = .int .i64 u) (hy : a.eval y = .int .i64 u) : (execOp a.eval o).run Tryd.prog W = .ok (.value (.bool true)) W :=
  Tn.exec_binOp .eql 3 3 x y ho _ _ _ hx hy (guardI _ _ _ _ _) (by simp [go_sem])
theorem run_two0 (g : Nat) : (Instr.indexAt 52 (.pointer (some ⟨g, 0, none⟩)) (.int .i64 0)).run Tryd.prog W = .ok (.pointer (some ⟨g, 0, none⟩)) W := by kernel_rfl
theorem exec_two0 (x : Operand) (ho : o.op = .indexAddr 52 x (.const (.int .i64 0))) (g : Nat) (hx : a.eval x = .pointer (some ⟨g, 0, none⟩)) : (execOp a.eval o).run Tryd.prog W = .ok (.value (.pointer (some ⟨g, 0, none⟩))) W := by
  unfold execOp
  simp only [ho, hx, BigFrame.eval_const, Sem.run_bind, run_two0, Result.andThen_ok, Sem.run_pure]
end
set_option maxHeartbeats 4000000 in
theorem row_walk {Pk : List Int → Prop} (T : DrawOK E8 numV St8 Pk) (hP : Pk [3, 9, 9]) (w : World) (s : List Int) (c a b : Int) (hs : Seed s) (k1 : -9223372036854775808 ≤ c) (k2 : c ≤ 9223372036854775807) (he : E8 w) : Calls Tryd.prog 10 #[dgV s, .int .i64 c, .agg #[.int .i64 a, .int .i64 b]] w fun e w' => e = .returned (.bool true) ∧ Below w.heap.size w w' := by
  have HZ := Lib.hid (row_dig hs.1)
  have HE := Lib.hid he
  have HT := Lib.hid T
  have HSd : Hid (Seed s) := Lib.hid hs
  have HPk : Hid (Pk [3, 9, 9]) := Lib.hid hP
  have HB0 : Hid (H2 w s a b ((w.alloc (.cells (rowB s) 23)).alloc (.cells #[.int .i64 a, .int .i64 b] 52))) := Lib.hid ⟨((Below.refl _ _).alloc (Nat.le_refl _) _).alloc (by simp) _, heap_alloc2_old _ _ _, heap_alloc2_new _ _ _⟩
  have HE0 := Lib.hid (HE.out.below HB0.out.below)
  obtain ⟨q1, q2⟩ := HB0.out.cells
  change Calls Tryd.prog 10 #[.agg (rowB s), .int .i64 c, .agg #[.int .i64 a, .int .i64 b]] w _
  by_cases z0 : c < 0
  · skip
    have e0 : decide (c < 0) = true := by simpa using z0
    clear he T hs hP z0
    go_enter Tryd.func10, Tryd.ntmps10
    go_wp2_with fail
    refine (awake_any HT.out HPk.out _ HE0.out).mono ?_
    rintro e wa ⟨rfl, hba⟩
    have HBa := Lib.hid (HB0.out.below.trans (hba.mono HB0.out.below.size))
    clear hba
    go_wp2
    go_ret
    exact ⟨rfl, HBa.out⟩
  have e0 : decide (c < 0) = false := by simpa using z0
  by_cases z1 : 4611686018427387904 < c
  · skip
    have e1 : decide (4611686018427387904 < c) = true := by simpa using z1
    clear he T hs hP z0 z1
    go_enter Tryd.func10, Tryd.ntmps10
    go_wp2_with fail
    refine (awake_any HT.out HPk.out _ HE0.out).mono ?_
    rintro e wa ⟨rfl, hba⟩
    have HBa := Lib.hid (HB0.out.below.trans (hba.mono HB0.out.below.size))
    clear hba
    go_wp2
    go_ret
    exact ⟨rfl, HBa.out⟩
  have e1 : decide (4611686018427387904 < c) = false := by simpa using z1
  by_cases z2 : a < 0
  · skip
    have e2 : decide (a < 0) = true := by simpa using z2
    clear he T hs hP z0 z1 z2
    go_enter Tryd.func10, Tryd.ntmps10
    go_wp2_with fail
    refine (awake_any HT.out HPk.out _ HE0.out).mono ?_
    rintro e wa ⟨rfl, hba⟩
    have HBa := Lib.hid (HB0.out.below.trans (hba.mono HB0.out.below.size))
    clear hba
    go_wp2
    go_ret
    exact ⟨rfl, HBa.out⟩
  have e2 : decide (a < 0) = false := by simpa using z2
  by_cases z3 : 40 < a
  · skip
    have e3 : decide (40 < a) = true := by simpa using z3
    clear he T hs hP z0 z1 z2 z3
    go_enter Tryd.func10, Tryd.ntmps10
    go_wp2_with fail
    refine (awake_any HT.out HPk.out _ HE0.out).mono ?_
    rintro e wa ⟨rfl, hba⟩
    have HBa := Lib.hid (HB0.out.below.trans (hba.mono HB0.out.below.size))
    clear hba
    go_wp2
    go_ret
    exact ⟨rfl, HBa.out⟩
  have e3 : decide (40 < a) = false := by simpa using z3
  by_cases z4 : b < 0
  · skip
    have e4 : decide (b < 0) = true := by simpa using z4
    clear he T hs hP z0 z1 z2 z3 z4
    go_enter Tryd.func10, Tryd.ntmps10
    go_wp2_with fail
    refine (awake_any HT.out HPk.out _ HE0.out).mono ?_
    rintro e wa ⟨rfl, hba⟩
    have HBa := Lib.hid (HB0.out.below.trans (hba.mono HB0.out.below.size))
    clear hba
    go_wp2
    go_ret
    exact ⟨rfl, HBa.out⟩
  have e4 : decide (b < 0) = false := by simpa using z4
  by_cases z5 : 40 < b
  · skip
    have e5 : decide (40 < b) = true := by simpa using z5
    clear he T hs hP z0 z1 z2 z3 z4 z5
    go_enter Tryd.func10, Tryd.ntmps10
    go_wp2_with fail
    refine (awake_any HT.out HPk.out _ HE0.out).mono ?_
    rintro e wa ⟨rfl, hba⟩
    have HBa := Lib.hid (HB0.out.below.trans (hba.mono HB0.out.below.size))
    clear hba
    go_wp2
    go_ret
    exact ⟨rfl, HBa.out⟩
  have e5 : decide (40 < b) = false := by simpa using z5
  obtain ⟨A, hA⟩ : ∃ A : Nat, a = (A : Int) := ⟨a.toNat, by omega⟩
  obtain ⟨B, hB⟩ : ∃ B : Nat, b = (B : Int) := ⟨b.toNat, by omega⟩
  subst hA hB
  have hA40 : A ≤ 40 := by omega
  have hB40 : B ≤ 40 := by omega
  have hc0 : 0 ≤ c := by omega
  have hc1 : c ≤ 4611686018427387904 := by omega
  have HN1 := Lib.hid (fun W (h : E8 W) => T.new W s c h hs hc0 k2)
  have HN2 := Lib.hid (fun W (h : E8 W) => T.new W s (c + (B : Int)) h hs (by omega) (by unfold mostC; omega))
  have hwB := wrap_in (x := c + (B : Int)) (by omega) (by omega)
  have HW : Hid (IntKind.i64.wrap (c + (A : Int)) = c + (A : Int)) := Lib.hid (wrap_in (by omega) (by omega))
  have HNum := Lib.hid (fun W k (h : E8 W) (h1 : 0 ≤ c + (k : Int)) (h2 : c + (k : Int) ≤ mostC) => T.number W s (c + (k : Int)) h hs (by omega) h2)
  clear he T hs hP z0 z1 z2 z3 z4 z5
  go_enter Tryd.func10, Tryd.ntmps10
  go_wp2_with (refine wpList_load_row rfl 23 (.tmp 3) rfl w.heap.size rfl 23 (rowB s) (0, 0) _ HB0.out.d Tryd.underlying23 rfl HZ.out ?_)
  refine (HN1.out _ HE0.out).mono ?_
  rintro e w1 ⟨g, rfl, hg, hs1, hb1⟩
  have hgw : w.heap.size + 1 < g := Nat.lt_of_lt_of_le HB0.out.lt hg
  have HS1 := Lib.hid hs1
  have HH1 := Lib.hid (HB0.out.later hb1)
  have HE1 := Lib.hid (HE0.out.below hb1)
  obtain ⟨p1, p2⟩ := HH1.out.cells
  clear hb1 hs1 q1 q2
  unfold ptV
  go_wp2_with (refine wpList_load_row rfl 23 (.tmp 3) rfl w.heap.size rfl 23 (rowB s) (0, 0) _ HH1.out.d Tryd.underlying23 rfl HZ.out ?_)
  refine (HN2.out _ HE1.out).mono ?_
  rintro e w2 ⟨g2, rfl, hg2, hs2, hb2⟩
  have hgg : g < g2 := Nat.lt_of_lt_of_le HS1.out.lt hg2
  have HS2 := Lib.hid (HS1.out.later hb2)
  have HT2 := Lib.hid hs2
  have HH2 := Lib.hid (HH1.out.later hb2)
  have HE2 := Lib.hid (HE1.out.below hb2)
  clear hb2 hs2 p1 p2
  unfold ptV
  go_wp2
  go_loopw [11] (fun i wr => ∃ k : Nat, k ≤ A ∧ i = .int .i64 k ∧ St8 wr g s (c + (k : Int)) ∧ St8 wr g2 s (c + ((max k B : Nat) : Int)) ∧ E8 wr ∧ H2 w s A B wr) (fun i _ => A - (intOf i).toNat)
  case atStart => exact ⟨0, by omega, rfl, by simpa using HS2.out, by rw [show max 0 B = B by omega]; exact HT2.out, HE2.out, HH2.out⟩
  case round =>
    obtain ⟨k, hk, rfl, hS, hT, hE, hH⟩ := hrel
    have HSk := Lib.hid hS
    have HTk := Lib.hid hT
    have HEk := Lib.hid hE
    have HHk := Lib.hid hH
    obtain ⟨p1, p2⟩ := hH.cells
    clear hS hT hE hH
    by_cases hlt : k < A
    · have hdt : decide (k < A) = true := by simpa using hlt
      have hm : c + (k : Int) ≠ mostC := by unfold mostC; omega
      have hwk := wrap_in (x := c + (k : Int)) (by omega) (by omega)
      have HNx := HT.out.next wr g s (c + (k : Int)) HEk.out HSk.out
      rw [if_neg hm, if_neg hm, if_neg hm] at HNx
      have HNk := fun W h => HNum.out W k h (by omega) (by unfold mostC; omega)
      simp only [if_neg (show ¬ c + (k : Int) < 0 by omega)] at HNk
      have HTx := fun W (h : E8 W) (hS : St8 W g2 s (c + (k : Int))) => HT.out.next W g2 s (c + (k : Int)) h hS
      simp only [if_neg hm] at HTx
      obtain ⟨x, hx⟩ : ∃ x, numV s (c + (k : Int)) = x := ⟨_, rfl⟩
      rw [hx] at HNx
      simp only [hx] at HNk HTx
      have HNx := Lib.hid HNx
      have HNk := Lib.hid HNk
      have HTx := Lib.hid HTx
      have f1 := same_no x
      have f2 := same_no (c + (k : Int) + 1)
      clear hx hm
      go_wp2_with fail
      refine HNx.out.mono ?_
      rintro e w3 ⟨rfl, hs3, hg3⟩
      have HS3 := Lib.hid hs3
      have HT3 := Lib.hid (HTk.out.apart hg3 (by omega))
      have HE3 := Lib.hid (HEk.out.grown hg3 HSk.out.far)
      have HH3 := Lib.hid (HHk.out.grown hg3 hgw)
      clear hs3 hg3 p1 p2
      unfold two
      go_wp2_with (refine wpList_load_row rfl 23 (.tmp 3) rfl w.heap.size rfl 23 (rowB s) (0, 0) _ HH3.out.d Tryd.underlying23 rfl HZ.out ?_)
      refine (HNk.out _ HE3.out).mono ?_
      rintro e w4 ⟨rfl, hb4⟩
      have HS4 := Lib.hid (HS3.out.later hb4)
      have HT4 := Lib.hid (HT3.out.later hb4)
      have HE4 := Lib.hid (HE3.out.below hb4)
      have HH4 := Lib.hid (HH3.out.later hb4)
      obtain ⟨p1, p2⟩ := HH4.out.cells
      clear hb4
      unfold two
      by_cases hkb : B ≤ k
      · have hd : decide (B ≤ k) = true := by simpa using hkb
        have HT5 : Hid (St8 w4 g2 s (c + (k : Int))) := Lib.hid (by have := HT4.out; rwa [show max k B = k by omega] at this)
        go_wp2_with fail
        refine (HTx.out _ HE4.out HT5.out).mono ?_
        rintro e w5 ⟨rfl, hs5, hg5⟩
        have HT6 := Lib.hid hs5
        have HS6 := Lib.hid (HS4.out.apart hg5 (by omega))
        have HE6 := Lib.hid (HE4.out.grown hg5 HT5.out.far)
        have HH6 := Lib.hid (HH4.out.grown hg5 (by omega))
        clear hs5 hg5 p1 p2
        unfold two
        go_wp2_with fail
        refine (HT.out.count _ g2 s _ HE6.out HT6.out).mono ?_
        rintro e w7 ⟨rfl, hb7⟩
        have HT7 := Lib.hid (HT6.out.later hb7)
        have HS7 := Lib.hid (HS6.out.later hb7)
        have HE7 := Lib.hid (HE6.out.below hb7)
        have HH7 := Lib.hid (HH6.out.later hb7)
        clear hb7
        go_wp2_with fail
        refine (HT.out.count _ g s _ HE7.out HS7.out).mono ?_
        rintro e w8 ⟨rfl, hb8⟩
        have HT8 := Lib.hid (HT7.out.later hb8)
        have HS8 := Lib.hid (HS7.out.later hb8)
        have HE8 := Lib.hid (HE7.out.below hb8)
        have HH8 := Lib.hid (HH7.out.later hb8)
        have HKb := Lib.hid hkb
        clear hb8 hkb
        go_wp2
        go_roundw
        case rel => exact ⟨k + 1, by omega, by go_num, by rw [show c + ((k + 1 : Nat) : Int) = c + (k : Int) + 1 by omega]; exact HS8.out, by rw [show c + ((max (k + 1) B : Nat) : Int) = c + (k : Int) + 1 by have := HKb.out; omega]; exact HT8.out, HE8.out, HH8.out⟩
        case measure => simp [intOf]; omega
      · have hd : decide (B ≤ k) = false := by simpa using hkb
        have HKb := Lib.hid hkb
        clear hkb
        go_wp2
        go_roundw
        case rel => exact ⟨k + 1, by omega, by go_num, by rw [show c + ((k + 1 : Nat) : Int) = c + (k : Int) + 1 by omega]; exact HS4.out, by rw [show max (k + 1) B = max k B by have := HKb.out; omega]; exact HT4.out, HE4.out, HH4.out⟩
        case measure => simp [intOf]; omega
    · obtain rfl : k = A := by omega
      have hdf : decide (k < k) = false := by simp
      clear hlt hk
      go_upto_region 18 with fail
      refine Tn.wp_region_spec (C := fun W => Below wr.heap.size wr W) (Le := fun _ _ => True) 10 (fun _ ixx _ yy => yy = ([.pointer (some ⟨g, 0, none⟩), .int .i64 (c + (k : Int)), .int .i64 c, .pointer (some ⟨w.heap.size + 1, 0, none⟩), .int .i64 (k : Int), .int .i64 (c + (k : Int)), .bool true, .bool true, .bool true, .bool true] : List Value).getD ixx undef) (by kernel_rfl) (by kernel_rfl) ⟨rfl, rfl, rfl, Nat.le_refl _, fun _ _ => rfl⟩ (fun _ _ _ _ _ _ h => h) (fun _ _ _ _ _ _ h => h) (fun ixx yy => yy = ([.pointer (some ⟨g, 0, none⟩), .int .i64 (c + (k : Int)), .int .i64 c, .pointer (some ⟨w.heap.size + 1, 0, none⟩), .int .i64 (k : Int), .int .i64 (c + (k : Int)), .bool true, .bool true, .bool true, .bool true] : List Value).getD ixx undef) (fun _ _ _ _ h => h) (fun ixx => ([.pointer (some ⟨g, 0, none⟩), .int .i64 (c + (k : Int)), .int .i64 c, .pointer (some ⟨w.heap.size + 1, 0, none⟩), .int .i64 (k : Int), .int .i64 (c + (k : Int)), .bool true, .bool true, .bool true, .bool true] : List Value).getD ixx undef) (fun _ => rfl) ?_ ?_
      · intro u hu
        have h0 : u 0 = .pointer (some ⟨g, 0, none⟩) := hu 0
        have h1 : u 1 = .int .i64 (c + (k : Int)) := hu 1
        have h2 : u 2 = .int .i64 c := hu 2
        have h3 : u 3 = .pointer (some ⟨w.heap.size + 1, 0, none⟩) := hu 3
        have h4 : u 4 = .int .i64 (k : Int) := hu 4
        have h5 : u 5 = .int .i64 (c + (k : Int)) := hu 5
        have h6 : u 6 = .bool true := hu 6
        have h7 : u 7 = .bool true := hu 7
        have h8 : u 8 = .bool true := hu 8
        have h9 : u 9 = .bool true := hu 9
        simp only [List.take_succ_cons, List.take_zero]
        refine Tn.spec_cons (fun W hC hd => ⟨by rfl, ?_⟩) ?_
        · exact Tn.gives_val (.pointer (some ⟨g, 0, none⟩)) W (by rfl) ⟨hC, trivial, rfl⟩
        simp only [Act.put, List.setIfInBounds_toArray, List.set_cons_succ, List.set_cons_zero, Nat.reduceAdd]
        rw [h0]
        refine Tn.spec_cons (fun W hC hd => ⟨by rfl, ?_⟩) ?_
        · exact Tn.gives_call _ _ (Tn.exec_call1 15 (.tmp 127) #[27] _ rfl rfl (Tn.cf Tryd.func15 (by kernel_rfl) (by kernel_rfl) _ _)) ((HT.out.count W g s (c + (k : Int)) (HEk.out.below hC) (HSk.out.later hC)).mono fun e W' h => ⟨_, h.1, hC.trans (h.2.mono hC.size), trivial, rfl⟩)
        simp only [Act.put, List.setIfInBounds_toArray, List.set_cons_succ, List.set_cons_zero, Nat.reduceAdd]
        rw [h1]
        refine Tn.spec_cons (fun W hC hd => ⟨by rfl, ?_⟩) ?_
        · exact Tn.gives_val (.int .i64 c) W (by rfl) ⟨hC, trivial, rfl⟩
        simp only [Act.put, List.setIfInBounds_toArray, List.set_cons_succ, List.set_cons_zero, Nat.reduceAdd]
        rw [h2]
        refine Tn.spec_cons (fun W hC hd => ⟨by rfl, ?_⟩) ?_
        · exact Tn.gives_val (.pointer (some ⟨w.heap.size + 1, 0, none⟩)) W (exec_two0 (.tmp 5) rfl _ rfl) ⟨hC, trivial, rfl⟩
        simp only [Act.put, List.setIfInBounds_toArray, List.set_cons_succ, List.set_cons_zero, Nat.reduceAdd]
        rw [h3]
        refine Tn.spec_cons (fun W hC hd => ⟨by rfl, ?_⟩) ?_
        · exact Tn.gives_val (.int .i64 (k : Int)) W (Tn.exec_load1 3 (.tmp 130) rfl ⟨w.heap.size + 1, 0, none⟩ rfl _ (HHk.out.later hC).cells.1 _ Tryd.underlying3 rfl) ⟨hC, trivial, rfl⟩
        simp only [Act.put, List.setIfInBounds_toArray, List.set_cons_succ, List.set_cons_zero, Nat.reduceAdd]
        rw [h4]
        refine Tn.spec_cons (fun W hC hd => ⟨by rfl, ?_⟩) ?_
        · exact Tn.gives_val (.int .i64 (c + (k : Int))) W (exec_addI (.tmp 129) (.tmp 131) rfl _ _ _ rfl rfl HW.out) ⟨hC, trivial, rfl⟩
        simp only [Act.put, List.setIfInBounds_toArray, List.set_cons_succ, List.set_cons_zero, Nat.reduceAdd]
        rw [h5]
        refine Tn.spec_cons (fun W hC hd => ⟨by rfl, ?_⟩) ?_
        · exact Tn.gives_val (.bool true) W (exec_eqI (.tmp 128) (.tmp 132) rfl _ rfl rfl) ⟨hC, trivial, rfl⟩
        simp only [Act.put, List.setIfInBounds_toArray, List.set_cons_succ, List.set_cons_zero, Nat.reduceAdd]
        rw [h6]
        refine Tn.spec_cons (fun W hC hd => ⟨by rfl, ?_⟩) ?_
        · exact Tn.gives_val (.bool true) W (by rfl) ⟨hC, trivial, rfl⟩
        simp only [Act.put, List.setIfInBounds_toArray, List.set_cons_succ, List.set_cons_zero, Nat.reduceAdd]
        rw [h7]
        refine Tn.spec_cons (fun W hC hd => ⟨by rfl, ?_⟩) ?_
        · exact Tn.gives_call _ _ (Tn.exec_call 13 #[] #[] #[] rfl (by simp) (Tn.cf Tryd.func13 (by kernel_rfl) (by kernel_rfl) _ _)) ((awake_any HT.out HPk.out W (HEk.out.below hC)).mono fun e W' h => ⟨_, h.1, hC.trans (h.2.mono hC.size), trivial, rfl⟩)
        simp only [Act.put, List.setIfInBounds_toArray, List.set_cons_succ, List.set_cons_zero, Nat.reduceAdd]
        rw [h8]
        refine Tn.spec_cons (fun W hC hd => ⟨by rfl, ?_⟩) ?_
        · exact Tn.gives_val (.bool true) W (by rfl) ⟨hC, trivial, rfl⟩
        simp only [Act.put, List.setIfInBounds_toArray, List.set_cons_succ, List.set_cons_zero, Nat.reduceAdd]
        rw [h9]
        exact Tn.spec_nil
      · intro u W hu hC _
        have h0 : u 0 = .pointer (some ⟨g, 0, none⟩) := hu 0
        have h1 : u 1 = .int .i64 (c + (k : Int)) := hu 1
        have h2 : u 2 = .int .i64 c := hu 2
        have h3 : u 3 = .pointer (some ⟨w.heap.size + 1, 0, none⟩) := hu 3
        have h4 : u 4 = .int .i64 (k : Int) := hu 4
        have h5 : u 5 = .int .i64 (c + (k : Int)) := hu 5
        have h6 : u 6 = .bool true := hu 6
        have h7 : u 7 = .bool true := hu 7
        have h8 : u 8 = .bool true := hu 8
        have h9 : u 9 = .bool true := hu 9
        simp only [List.take_succ_cons, List.take_zero, List.drop_succ_cons, List.drop_zero, Tn.putAll, Act.put, List.setIfInBounds_toArray, List.set_cons_succ, List.set_cons_zero, Nat.reduceAdd]
        rw [h0, h1, h2, h3, h4, h5, h6, h7, h8, h9]
        clear hu h0 h1 h2 h3 h4 h5 h6 h7 h8 h9
        have HBe := Lib.hid (HHk.out.below.trans (hC.mono HHk.out.below.size))
        clear hC
        go_wp2
        go_ret
        exact ⟨rfl, HBe.out⟩
end Go.Proofs.YtmolkbmdfkeniaaDoor.Dr
