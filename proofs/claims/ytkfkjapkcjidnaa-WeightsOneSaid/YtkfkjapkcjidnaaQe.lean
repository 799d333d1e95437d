import Derived.Test.YtkfkjapkcjidnaaQg
import Derived.Test.YtkfkjapkcjidnaaWy
namespace Go.Proofs.Ytkfkjapkcjidnaa.Wg
set_option maxRecDepth 100000
open Go.ChangeShapes Go.WideShapes Go.ChangeAt Go.RowKit Go.Shelf Go.Proofs.Ytkfkjapkcjidnaa.Tn
attribute [local go_sem] Oper.semAt_some

/-! ### WeightsOne -/
structure OnI (w : World) (v : Wv) (k y r a b : Int) (W : World) : Prop where
  bk : BkI w v k y r W
  two : W.heap[w.heap.size + 2]? = some (.cells #[.int .i64 a, .int .i64 b] 54 (0, 0))
section
variable {w W W' : World} {v : Wv} {k y r a b : Int}
theorem OnI.later (h : OnI w v k y r a b W) (hb : Below W.heap.size W W') : OnI w v k y r a b W' := ⟨h.bk.later hb, (hb.block _ (Array.getElem?_eq_some_iff.1 h.two).1).trans h.two⟩
theorem OnI.new (w : World) (v : Wv) (k y r a b : Int) : OnI w v k y r a b (((w.alloc (.cells v.cells 31)).alloc (.cells #[.int .i64 k, .int .i64 y, .int .i64 r] 48)).alloc (.cells #[.int .i64 a, .int .i64 b] 54)) := by
  have h := BkI.new w v k y r
  have s1 : ((w.alloc (.cells v.cells 31)).alloc (.cells #[.int .i64 k, .int .i64 y, .int .i64 r] 48)).heap.size = w.heap.size + 2 := by simp
  obtain ⟨w1, e1⟩ : ∃ w1, (w.alloc (.cells v.cells 31)).alloc (.cells #[.int .i64 k, .int .i64 y, .int .i64 r] 48) = w1 := ⟨_, rfl⟩
  rw [e1] at h s1 ⊢
  have r2 := heap_alloc_new w1 (.cells #[.int .i64 a, .int .i64 b] 54)
  rw [s1] at r2
  exact ⟨h.later ((Below.refl _ _).alloc (Nat.le_refl _) _), r2⟩
theorem exec_neI {a : Act} {o : Oper} {W : World} (x y : Operand) (ho : o.op = .binOp .neq 3 x y 3) (u v : Int) (r : Bool) (hr : (u != v) = r) (hx : a.eval x = .int .i64 u) (hy : a.eval y = .int .i64 v) : (execOp a.eval o).run Try.prog W = .ok (.value (.bool r)) W := by
  unfold execOp
  have hg : (eqGuard .neq 3 x y (.int .i64 u) (.int .i64 v)).run Try.prog W = .ok () W := by
    unfold eqGuard
    simp
  have hb : (binOp .neq 3 (.int .i64 u) (.int .i64 v)).run Try.prog W = .ok (.bool (u != v)) W := by simp [go_sem]
  rw [← hr]
  simp [ho, hx, hy, hg, hb]
theorem exec_eqI {a : Act} {o : Oper} {W : World} (x y : Operand) (ho : o.op = .binOp .eql 3 x y 3) (u v : Int) (r : Bool) (hr : (u == v) = r) (hx : a.eval x = .int .i64 u) (hy : a.eval y = .int .i64 v) : (execOp a.eval o).run Try.prog W = .ok (.value (.bool r)) W := by
  unfold execOp
  have hg : (eqGuard .eql 3 x y (.int .i64 u) (.int .i64 v)).run Try.prog W = .ok () W := by
    unfold eqGuard
    simp
  have hb : (binOp .eql 3 (.int .i64 u) (.int .i64 v)).run Try.prog W = .ok (.bool (u == v)) W := by simp [go_sem]
  rw [← hr]
  simp [ho, hx, hy, hg, hb]
theorem exec_neB {a : Act} {o : Oper} {W : World} (x y : Operand) (ho : o.op = .binOp .neq 4 x y 4) (u : Bool) (hx : a.eval x = .bool u) (hy : a.eval y = .bool u) : (execOp a.eval o).run Try.prog W = .ok (.value (.bool false)) W := by
  unfold execOp
  have hg : (eqGuard .neq 4 x y (.bool u) (.bool u)).run Try.prog W = .ok () W := by
    unfold eqGuard
    simp
  have hb : (binOp .neq 4 (.bool u) (.bool u)).run Try.prog W = .ok (.bool false) W := by simp [go_sem, Try.underlying4]
  simp [ho, hx, hy, hg, hb]
theorem run_tw1 (g : Nat) (W : World) : (Instr.indexAt 54 (.pointer (some ⟨g, 0, none⟩)) (.int .i64 1)).run Try.prog W = .ok (.pointer (some ⟨g, 1, none⟩)) W := by kernel_rfl
theorem exec_tw1 {a : Act} {o : Oper} {W : World} (x : Operand) (ho : o.op = .indexAddr 54 x (.const (.int .i64 1))) (g : Nat) (hx : a.eval x = .pointer (some ⟨g, 0, none⟩)) : (execOp a.eval o).run Try.prog W = .ok (.value (.pointer (some ⟨g, 1, none⟩))) W := by
  have hc : a.eval (.const (.int .i64 1)) = .int .i64 1 := rfl
  unfold execOp
  simp only [ho, hx, hc, Sem.run_bind, run_tw1, Result.andThen_ok, Sem.run_pure]
theorem OnI.tw (h : OnI w v k y r a b W) (j : Nat) : W.cell? ⟨w.heap.size + 2, j, none⟩ = (#[.int .i64 a, .int .i64 b] : Array Value)[j]? := by rw [cell_of_row _ _ _ _ _ _ h.two]
end
set_option maxHeartbeats 16000000 in
theorem one_walk (w : World) (v : Wv) (m : Md) (hv : WvOK w v m) (hi : i64 (flatP m.ps)) (k y r a b : Int) : Calls Try.prog 5 #[.agg v.cells, .agg #[.int .i64 k, .int .i64 y, .int .i64 r], .agg #[.int .i64 a, .int .i64 b]] w fun e w' => e = .returned (.bool true) ∧ Below w.heap.size w w' := by
  have HX := Lib.hid (OnI.new w v k y r a b)
  have HV := Lib.hid hv
  have HI := Lib.hid hi
  clear hv hi
  go_enter Try.func5, Try.ntmps5
  go_upto_region 1 with fail
  refine gen_w (Q := fun w => Code.wp _ _ _ _ w) _ (OnI w v k y r a b) HX.out ?_
  clear HX
  intro w0 hx
  have HX := Lib.hid hx
  clear hx
  go_wp2_with (refine wpList_load_row rfl 31 (.tmp 3) rfl w.heap.size rfl 31 v.cells (0, 0) _ HX.out.bk.row Try.underlying31 rfl size_wts ?_)
  refine (few_any _ v m (HV.out.later HX.out.bk.below)).mono ?_
  rintro e w1 ⟨fb, rfl, hb1, hf⟩
  have HX1 := Lib.hid (HX.out.later hb1)
  clear hb1 HX
  cases fb with
  | false =>
    clear hf
    go_wp2_with (go_at_call 8; refine (awake_any _).mono ?_; rintro e wz ⟨rfl, hbz⟩; have HBz := Lib.hid hbz; clear hbz)
    go_ret
    exact ⟨rfl, (HX1.out.later HBz.out).bk.below⟩
  | true =>
    have HF := Lib.hid (hf rfl)
    clear hf
    have hal : m.al.length ≤ 300 := by have := HF.out.1; rw [← HV.out.na]; exact this
    have hps : m.ps.length ≤ 60 := by have := HF.out.2.1; rw [← HV.out.np]; exact this
    by_cases hE : m.chk = 0
    · have hfm := few_m HV.out HF.out hE
      have HE := Lib.hid hE
      have hbl := few_bytes hE hfm
      obtain ⟨hrok, hsame⟩ := read_back hE
      obtain ⟨hH, _⟩ := chk_zero hE
      obtain ⟨hck, _, _, hnl⟩ := headE_zero hH
      have hO := Cfg.ok_of_chk hck
      have HC := Lib.hid (fun W (h : OnI w v k y r a b W) => encode_any W v m (HV.out.later h.bk.below) (by omega) (by omega) hE (by omega))
      have HL := Lib.hid (fun W (h : OnI w v k y r a b W) => leaves_any W v m (HV.out.later h.bk.below) (by omega) (by omega) hE)
      have HPc := Lib.hid (fun W s q (h : Cd.Bytes W s q (Cd.join (leavesD m))) => parse_back W s q _ m hE hfm HI.out rfl h)
      have HTw := Lib.hid (hsame.twin hck (by omega))
      have HPl := Lib.hid (plc_at hE k y r)
      have HPa := Lib.hid (fun W => place_any W m.cfg k y r)
      unfold Cfg.cells at HPa
      have HPv : Hid (placeV m.cfg k y r = if plcB k y r 1 m.cfg.blks < 0 then (0, 10) else (plcB k y r 1 m.cfg.blks, 0)) := Lib.hid (by unfold placeV; rw [if_neg (by omega)])
      have HCf : Hid (v.c = m.cfg ∧ v.nl = m.n ∧ m.n ≤ 4 ∧ m.ps.length ≤ 60) := Lib.hid ⟨HV.out.c, HV.out.nl, by have := hO.l; omega, hps⟩
      have HM : Hid ((mdR m.cfg m.al m.ps (leavesT m)).chk = 0 ∧ leavesD (mdR m.cfg m.al m.ps (leavesT m)) = leavesD m ∧ (mdR m.cfg m.al m.ps (leavesT m)).cfg = m.cfg ∧ (mdR m.cfg m.al m.ps (leavesT m)).al = m.al ∧ (mdR m.cfg m.al m.ps (leavesT m)).ps = m.ps ∧ (mdR m.cfg m.al m.ps (leavesT m)).n = (mdR m.cfg m.al m.ps (leavesT m)).cfg.l.toNat) := Lib.hid ⟨by rw [← hsame.chk]; exact hE, hsame.leaves.symm, rfl, rfl, rfl, rfl⟩
      have HCk := Lib.hid hck
      have HAl := Lib.hid hal
      obtain ⟨M, hM⟩ : ∃ M, mdR m.cfg m.al m.ps (leavesT m) = M := ⟨_, rfl⟩
      rw [hM] at HPc HTw HM
      clear hal hps hfm hbl hrok hsame hM hE hH hck hnl hO
      obtain ⟨lb, hlb⟩ : ∃ lb, Cd.join (leavesD m) = lb := ⟨_, rfl⟩
      rw [hlb] at HC HPc
      obtain ⟨N, hN⟩ : ∃ N, lb.length = N := ⟨_, rfl⟩
      rw [hN] at HC HPc
      obtain ⟨LD, hLD⟩ : ∃ LD, leavesD m = LD := ⟨_, rfl⟩
      have HLD := Lib.hid hLD
      rw [hLD] at HL
      obtain ⟨LN, hLN⟩ : ∃ LN, LD.length = LN := ⟨_, rfl⟩
      have HLN := Lib.hid hLN
      clear hlb hN hLD hLN
      go_upto_region 4 with (first
        | (refine wpList_load_row rfl 31 (.tmp 3) rfl w.heap.size rfl 31 v.cells (0, 0) _ HX1.out.bk.row Try.underlying31 rfl size_wts ?_)
        | (go_at_call 18; refine (HL.out _ HX1.out).mono ?_; rintro e w3 ⟨val, base, rfl, hlv, hba, hb3⟩; have HX3 := Lib.hid (HX1.out.later hb3); have HLv := Lib.hid hlv; clear hb3 hlv hba))
      obtain ⟨sL, capL, eL, hpc⟩ := HLv.out.pieces
      rw [HLN.out] at eL
      subst eL
      have HPs := Lib.hid hpc
      clear hpc HLv HX1 HL
      have c0 : w3.cell? ⟨w.heap.size, 0, none⟩ = some (.int .i64 m.cfg.v) := (by have h9 := HX3.out.bk.cell 0; rw [h9]; simp only [Wv.cells, HCf.out.1]; rfl)
      have c1 : w3.cell? ⟨w.heap.size, 1, none⟩ = some (.int .i64 m.cfg.d) := (by have h9 := HX3.out.bk.cell 1; rw [h9]; simp only [Wv.cells, HCf.out.1]; rfl)
      have c2 : w3.cell? ⟨w.heap.size, 2, none⟩ = some (.int .i64 m.cfg.h) := (by have h9 := HX3.out.bk.cell 2; rw [h9]; simp only [Wv.cells, HCf.out.1]; rfl)
      have c3 : w3.cell? ⟨w.heap.size, 3, none⟩ = some (.int .i64 m.cfg.l) := (by have h9 := HX3.out.bk.cell 3; rw [h9]; simp only [Wv.cells, HCf.out.1]; rfl)
      have c4 : w3.cell? ⟨w.heap.size, 4, none⟩ = some (.int .i64 m.cfg.x) := (by have h9 := HX3.out.bk.cell 4; rw [h9]; simp only [Wv.cells, HCf.out.1]; rfl)
      have c5 : w3.cell? ⟨w.heap.size, 5, none⟩ = some (.int .i64 m.cfg.i) := (by have h9 := HX3.out.bk.cell 5; rw [h9]; simp only [Wv.cells, HCf.out.1]; rfl)
      have p0 : w3.cell? ⟨w.heap.size + 1, 0, none⟩ = some (.int .i64 k) := HX3.out.bk.pt 0
      have p1 : w3.cell? ⟨w.heap.size + 1, 1, none⟩ = some (.int .i64 y) := HX3.out.bk.pt 1
      have p2 : w3.cell? ⟨w.heap.size + 1, 2, none⟩ = some (.int .i64 r) := HX3.out.bk.pt 2
      go_upto_region 7 with (go_at_call 15; refine (HPa.out _).mono ?_; rintro e w4 ⟨rfl, hb4⟩; have HX4 := Lib.hid (HX3.out.later hb4); have HP4 := Lib.hid (HPs.out.below hb4); clear hb4)
      clear c0 c1 c2 c3 c4 c5 p0 p1 p2 HX3 HPs HPa
      obtain ⟨PV, hPV⟩ : ∃ PV, placeV m.cfg k y r = PV := ⟨_, rfl⟩
      have hpv := HPv.out
      rw [hPV] at hpv ⊢
      have HPV := Lib.hid hpv
      clear hPV HPv hpv
      go_upto_region 9 with (first
        | (refine wpList_load_row rfl 31 (.tmp 3) rfl w.heap.size rfl 31 v.cells (0, 0) _ HX4.out.bk.row Try.underlying31 rfl size_wts ?_)
        | (go_at_call 13; refine (HC.out _ HX4.out).mono ?_; rintro e w5 ⟨sp, cap, rfl, hby, hb5⟩; have HX5 := Lib.hid (HX4.out.later hb5); have HP5 := Lib.hid (HP4.out.below hb5); have HBy5 := Lib.hid hby; clear hb5 hby)
        | (go_at_call 11; refine (HPc.out w5 sp cap HBy5.out).mono ?_; rintro e w6 ⟨u, n2, β, rfl, hwv, hod, hn2, hga, hd, hb6⟩; have HX6 := Lib.hid (HX5.out.later hb6); have HP6 := Lib.hid (HP5.out.below hb6); have HB6 := Lib.hid hb6; have HW6 := Lib.hid hwv; have HOd := Lib.hid hod; have HN2 := Lib.hid hn2; have HGa := Lib.hid hga; have HDd := Lib.hid hd; clear hwv hod hn2 hga hd hb6)
        | (refine wpList_store_newW rfl 31 (.tmp 13) (.tmp 54) rfl u.cells zeroC 31 rfl rfl rfl size_wts rfl (wv_one u) ?_))
      have hal : Below w6.heap.size w6 (w6.alloc (.cells u.cells 31)) := (Below.refl _ _).alloc (Nat.le_refl _) _
      have HB7 := Lib.hid ((show Below w5.heap.size w5 w6 from HB6.out).trans (hal.mono HB6.out.size))
      have HW7 := Lib.hid (HW6.out.later hal)
      have HO7 := Lib.hid (owned_later HW6.out HOd.out (by rw [HM.out.2.2.1]; exact HCk.out) HM.out.2.2.2.2.2 hal)
      have HR7 := Lib.hid (heap_alloc_new w6 (.cells u.cells 31))
      have HSz : Hid (w5.heap.size ≤ w6.heap.size) := Lib.hid HB6.out.size
      obtain ⟨xb, hxb⟩ : ∃ xb, w6.heap.size = xb := ⟨_, rfl⟩
      obtain ⟨w7, hw7⟩ : ∃ w7, w6.alloc (.cells u.cells 31) = w7 := ⟨_, rfl⟩
      have HXb : Hid (w7.heap.size = xb + 1) := Lib.hid (by rw [← hw7, ← hxb]; simp)
      rw [hw7] at HB7 HW7 HO7 HR7 ⊢
      rw [hxb] at HR7 HSz ⊢
      clear hw7 hxb hal HW6 HOd HB6 HPc HBy5 HC HX6 HP6
      by_cases hp : plcB k y r 1 m.cfg.blks < 0
      · have hpv := HPV.out
        rw [if_pos hp] at hpv
        subst hpv
        clear HPl HPV
        go_wp2_with (go_at_call 8; refine (awake_any _).mono ?_; rintro e wz ⟨rfl, hbz⟩; have HBz := Lib.hid hbz; clear hbz)
        go_ret
        exact ⟨rfl, ((HX5.out.later HB7.out).later HBz.out).bk.below⟩
      · have hpv := HPV.out
        rw [if_neg hp] at hpv
        subst hpv
        clear HPV
        obtain ⟨K, Y, R, C, A, hpl⟩ := HPl.out (by omega)
        have hA := hpl.at_
        obtain rfl := hpl.ek
        obtain rfl := hpl.ey
        obtain rfl := hpl.er
        rw [hA]
        have HQ := Lib.hid hpl
        have hA2 : A < LN := by rw [← HLN.out, ← HLD.out]; exact hpl.alt
        have HA := Lib.hid hA2
        clear hp hA hA2 HPl hpl
        go_upto_region 13 with (first
          | (refine wpList_load_rowG rfl 31 (.tmp 3) rfl w.heap.size rfl 31 v.cells (0, 0) _ (HX5.out.later HB7.out).bk.row Try.underlying31 rfl size_wts ?_)
          | (refine wpList_load_rowG rfl 31 (.tmp 13) rfl xb rfl 31 u.cells (0, 0) _ HR7.out Try.underlying31 rfl size_wts ?_)
          | (go_at_call 19; refine (same_yes _ v u m M (HV.out.later (HX5.out.later HB7.out).bk.below) HW7.out HTw.out HCf.out.2.2.1 (by have := HCf.out.2.2.2; omega)).mono ?_; rintro e w8 ⟨rfl, hb8⟩; have HB8 := Lib.hid hb8; clear hb8))
        have HBw8 : Hid (Below w5.heap.size w5 w8) := Lib.hid (HB7.out.trans (HB8.out.mono HB7.out.size))
        have HX8 := Lib.hid (HX5.out.later HBw8.out)
        have HW8 := Lib.hid (HW7.out.later HB8.out)
        have HO8 := Lib.hid (owned_later HW7.out HO7.out (by rw [HM.out.2.2.1]; exact HCk.out) HM.out.2.2.2.2.2 HB8.out)
        have HR8 := Lib.hid ((HB8.out.block _ (by have := HXb.out; omega)).trans HR7.out)
        obtain ⟨gL, oL, s2, c2, hlf⟩ := lf_at (LN := LN) HP5.out (by rw [← HLD.out]; exact HQ.out.leaf)
        have HLf8 := Lib.hid (hlf.later HBw8.out)
        have hlen : (Cd.nums (((m.part K Y).l.drop (R * C)).take C)).length = 8 * C := by rw [numsQ_length, List.length_take, List.length_drop]; have := HQ.out.lt; omega
        have hsL := HLf8.out.e
        subst hsL
        have l0 := HLf8.out.cell
        rw [hlen] at l0
        have HAn := HA.out
        clear hlf hlen HB7 HB8 HW7 HO7 HR7
        have hwC : wrap64 (C : Int) = (C : Int) := wrapQ (by have := HQ.out.le; omega)
        go_upto_region 14 with fail
        rw [hwC]
        have t0 : w8.cell? ⟨w.heap.size + 1 + 1, 0, none⟩ = some (.int .i64 a) := HX8.out.tw 0
        have hC0 : ((C : Int) == 0) = false := by have := HQ.out.pos; simp; omega
        have hC1 : ¬ (C : Int) = 0 := by have := HQ.out.pos; omega
        have hC2 : ¬ C = 0 := by have := HQ.out.pos; omega
        clear l0 hwC HAn
        go_upto_region 15 with fail
        obtain ⟨s, hs, hse⟩ := turn_mod a HQ.out.pos HQ.out.le
        rw [hse]
        have HS := Lib.hid hs
        clear hse hs t0 hC0 hC1 hC2
        have p0 : w8.cell? ⟨w.heap.size + 1, 0, none⟩ = some (.int .i64 (K : Int)) := HX8.out.bk.pt 0
        have p1 : w8.cell? ⟨w.heap.size + 1, 1, none⟩ = some (.int .i64 (Y : Int)) := HX8.out.bk.pt 1
        go_upto_region 16 with (first
          | (refine wpList_load_row rfl 31 (.tmp 13) rfl xb rfl 31 u.cells (0, 0) _ HR8.out Try.underlying31 rfl size_wts ?_)
          | (refine wpList_exec rfl (.slice sG (M.part K Y).l.length cG) (exec_fieldG (.tmp 103) rfl gr gc sG _ cG rfl) ?_)
          | (refine wpList_buildPt rfl (.tmp 99) (.tmp 101) rfl (K : Int) (Y : Int) rfl rfl ?_)
          | (go_at_call 20; refine (given_partS w8 w8 (Below.refl _ _) u M HW8.out K Y (by rw [HW8.out.nl, ← HTw.out.n]; exact HQ.out.part) 0 0 false).mono ?_; rintro e w9 ⟨sG, cG, rfl, hnG, hb9, hsG⟩; obtain ⟨gr, hgr⟩ : ∃ z, (if isVec K then 0 else (M.part K Y).r) = z := ⟨_, rfl⟩; obtain ⟨gc, hgc⟩ : ∃ z, (if isVec K then 0 else (M.part K Y).c) = z := ⟨_, rfl⟩; rw [hgr, hgc]; clear hgr hgc; have HB9 := Lib.hid hb9; have HN8 := Lib.hid hnG; have HsG := Lib.hid hsG; clear hnG hb9 hsG))
        clear p0 p1
        have hpl := (HTw.out.part K Y HQ.out.part).1
        obtain ⟨i0, b0, hb0, hk0, hy0, hc0, hr0, hA0⟩ := HQ.out.blk
        obtain ⟨hn0, ⟨cs0, hcs0⟩, c0, hsl0, _⟩ := HO8.out.rows i0 b0 (by rw [HM.out.2.2.1]; exact hb0)
        have hsG := (HsG.out b0 hk0 hy0).symm.trans hsl0
        injection hsG with hsG
        have hs1 : sG = some ⟨β i0, 0, none⟩ := congrArg (fun v : Value => match v with | .slice a _ _ => a | _ => none) hsG
        subst hs1
        obtain ⟨gB, hgB⟩ : ∃ gB, β i0 = gB := ⟨_, rfl⟩
        have HGB := Lib.hid hgB
        rw [hgB] at hcs0 hn0 HN8 ⊢
        have HBk := Lib.hid (And.intro hb0 (And.intro hk0 (And.intro hy0 (And.intro hn0 hcs0))))
        clear hsG hsl0 hb0 hk0 hy0 hc0 hr0 hA0 hn0 hcs0 HsG hgB
        have hlt := HQ.out.lt
        rw [hpl] at hlt
        obtain ⟨l, hl⟩ : ∃ l, (M.part K Y).l = l := ⟨_, rfl⟩
        have HPl := Lib.hid hl
        rw [hl] at HN8 hlt ⊢
        obtain ⟨LG, hLG⟩ : ∃ LG, l.length = LG := ⟨_, rfl⟩
        have HLG := Lib.hid hLG
        rw [hLG] at hlt ⊢
        have hlm : LG ≤ 9223372036854775807 := by rw [← hLG]; exact Nums.len HN8.out
        have HX9 := Lib.hid (HX8.out.later HB9.out)
        have HN9 := Lib.hid (Sl.below HN8.out (Nat.le_refl _) HB9.out)
        have t1 : w9.cell? ⟨w.heap.size + 1 + 1, 1, none⟩ = some (.int .i64 b) := HX9.out.tw 1
        have p2 : w9.cell? ⟨w.heap.size + 1, 2, none⟩ = some (.int .i64 (R : Int)) := HX9.out.bk.pt 2
        have hs' := HS.out
        obtain ⟨Q, hQ⟩ : ∃ Q, R * C = Q := ⟨_, rfl⟩
        have hQi : (R : Int) * (C : Int) = (Q : Int) := by rw [← hQ]; simp
        rw [hQ] at hlt
        obtain ⟨T, hT⟩ : ∃ T, Q + s = T := ⟨_, rfl⟩
        have hTl : T < LG := by omega
        have HT : Hid (R * C + s = T) := Lib.hid (by omega)
        have m1 : IntKind.i64.wrap ((R : Int) * (C : Int)) = (Q : Int) := by rw [hQi]; exact IntWalk.i64_in _ (by omega)
        have m2 : IntKind.i64.wrap ((Q : Int) + (s : Int)) = (T : Int) := by rw [IntWalk.i64_in _ (by omega)]; omega
        have m3 : decide ((LG : Int) ≤ (T : Int)) = false := by simp; omega
        have m4 : decide ((T : Int) < (LG : Int)) = true := by simp; omega
        have m5 : decide (LG ≤ T) = false := by simp; omega
        have m6 : decide (T < LG) = true := by simp; omega
        have HTl := Lib.hid hTl
        clear hpl hl hLG hlm hs' hQ hQi hT hlt hTl HN8
        by_cases hlo : b < -16777216
        · have b1 : decide (b < -16777216) = true := by simpa using hlo
          clear hlo
          go_upto_region 17 with fail
          go_wp2_with (go_at_call 8; refine (awake_any _).mono ?_; rintro e wz ⟨rfl, hbz⟩; have HBz := Lib.hid hbz; clear hbz)
          go_ret
          exact ⟨rfl, (HX9.out.later HBz.out).bk.below⟩
        · have b1 : decide (b < -16777216) = false := by simpa using hlo
          by_cases hhi : 16777216 < b
          · have b2 : decide (16777216 < b) = true := by simpa using hhi
            clear hlo hhi
            go_upto_region 17 with fail
            go_wp2_with (go_at_call 8; refine (awake_any _).mono ?_; rintro e wz ⟨rfl, hbz⟩; have HBz := Lib.hid hbz; clear hbz)
            go_ret
            exact ⟨rfl, (HX9.out.later HBz.out).bk.below⟩
          · have b2 : decide (16777216 < b) = false := by simpa using hhi
            have HBb : Hid (-16777216 ≤ b ∧ b ≤ 16777216) := Lib.hid (by omega)
            clear hlo hhi
            go_upto_region 18 with fail
            clear b1 b2 m3 m4 m5
            have hTl := HTl.out
            obtain ⟨z, hz⟩ : ∃ z, l.getD T 0 = z := ⟨_, rfl⟩
            have l0 : w9.cell? ⟨gB, T, none⟩ = some (.int .i64 z) := by
              obtain ⟨c, o, e, h9⟩ := Nums.at_ HN9.out T (by rw [HLG.out]; exact hTl)
              cases e
              rw [Nat.zero_add, hz] at h9
              exact h9
            have HZ := Lib.hid hz
            clear hz
            go_upto_region 19 with fail
            have HR9 := Lib.hid ((HB9.out.block _ (Array.getElem?_eq_some_iff.1 HBk.out.2.2.2.2).1).trans HBk.out.2.2.2.2)
            have fz : w9.frozen? ⟨gB, T, none⟩ = false := frozen_row HR9.out
            go_upto_region 20 with fail
            have hB9 : Below w5.heap.size w5 w9 := HBw8.out.trans (HB9.out.mono HBw8.out.size)
            have hB10 : Below w5.heap.size w5 (w9.setCell ⟨gB, T, none⟩ (.int .i64 b)) := hB9.setCell (p := ⟨gB, T, none⟩) (by have := HN2.out; have := HBk.out.2.2.2.1; dsimp only; omega) _
            have hMc : M.cfg.chk = 0 := by rw [HM.out.2.2.1]; exact HCk.out
            have hW10 : WvOK (w9.setCell ⟨gB, T, none⟩ (.int .i64 b)) u (M.put K Y (l.set T b)) := by
              have h9 := owned_set (W := w9) (HW8.out.later HB9.out) (owned_later HW8.out HO8.out hMc HM.out.2.2.2.2.2 HB9.out) hMc HM.out.2.2.2.2.2 (i0 := i0) (b0 := b0) (by rw [HM.out.2.2.1]; exact HBk.out.1) (fun h0 c o e => by
                obtain ⟨ga, e1, _, h2⟩ := HGa.out
                rw [e1] at e
                cases e
                exact h2 h0) (fun h0 c o e => by
                obtain ⟨d, e1, _, h2⟩ := HDd.out
                rw [e1] at e
                cases e
                exact h2 h0) T b
              rw [HBk.out.2.1, HBk.out.2.2.1, HPl.out, HGB.out] at h9
              exact h9
            have hR10 : (w9.setCell ⟨gB, T, none⟩ (.int .i64 b)).heap[xb]? = some (.cells u.cells 31 (0, 0)) := by
              have hr9 := (HB9.out.block _ (Array.getElem?_eq_some_iff.1 HR8.out).1).trans HR8.out
              refine (heap_setCell_far (fun e => ?_)).trans hr9
              have h9 := HR9.out
              rw [← e, hr9] at h9
              exact absurd (Obj.cells.inj (Option.some.inj h9)).2.1 (by decide)
            have hPM := HQ.out.same HTw.out HM.out.2.1
            have hck10 : (M.put K Y (l.set T b)).chk = 0 := by rw [← HPl.out]; exact put_ok HM.out.1 hPM T HBb.out
            have hlen10 : (leavesD (M.put K Y (l.set T b))).length = LN := by rw [put_len, HM.out.2.1, HLD.out, HLN.out]
            have hsame10 : ∀ j, j < LN → ∃ x y, (leavesD (M.put K Y (l.set T b)))[j]? = some x ∧ LD[j]? = some y ∧ decide (x = y) = (if j = A then decide (z = b) else true) := fun j hj => by
              have h9 := put_same HM.out.1 hPM HS.out HBb.out j (by rw [HM.out.2.1, HLD.out, HLN.out]; exact hj)
              rw [HM.out.2.1, HLD.out, HT.out, HPl.out, HZ.out] at h9
              exact h9
            have hal10 : (M.put K Y (l.set T b)).al.length ≤ 1000 := by show M.al.length ≤ 1000; rw [HM.out.2.2.2.1]; have := HAl.out; omega
            have hps10 : (M.put K Y (l.set T b)).ps.length ≤ 400 := by show M.ps.length ≤ 400; rw [HM.out.2.2.2.2.1]; have := HCf.out.2.2.2; omega
            have HX10 := Lib.hid (HX5.out.later hB10)
            have HP10 := Lib.hid (HP5.out.below hB10)
            obtain ⟨w10, hw10⟩ : ∃ w10, w9.setCell ⟨gB, T, none⟩ (.int .i64 b) = w10 := ⟨_, rfl⟩
            rw [hw10] at hW10 hR10 HX10 HP10 ⊢
            obtain ⟨M', hM'⟩ : ∃ M', M.put K Y (l.set T b) = M' := ⟨_, rfl⟩
            rw [hM'] at hW10 hck10 hlen10 hsame10 hal10 hps10
            have HL10 := Lib.hid (leaves_any w10 u M' hW10 hal10 hps10 hck10)
            have HR10 := Lib.hid hR10
            have HSm := Lib.hid hsame10
            obtain ⟨LM, hLM⟩ : ∃ LM, leavesD M' = LM := ⟨_, rfl⟩
            rw [hLM] at HL10 HSm hlen10
            have HLM := Lib.hid hlen10
            have HAn := Lib.hid HA.out
            clear hB9 hB10 hMc hW10 hR10 hPM hck10 hlen10 hsame10 hal10 hps10 hw10 hM' hLM l0 fz t1 p2 m1 m2 m6 hTl HN9 HX9 HW8 HO8 HB9 HBw8 HX8 HR8 HR9 HLf8 HSz HTw
            go_upto_region 21 with (first
              | (refine wpList_load_row rfl 31 (.tmp 13) rfl xb rfl 31 u.cells (0, 0) _ HR10.out Try.underlying31 rfl size_wts ?_)
              | (go_at_call 18; refine HL10.out.mono ?_; rintro e w11 ⟨val, base, rfl, hlv, hba, hb11⟩; have HX11 := Lib.hid (HX10.out.later hb11); have HP11 := Lib.hid (HP10.out.below hb11); have HLv := Lib.hid hlv; clear hb11 hlv hba))
            obtain ⟨sM, capM, eM, hpM⟩ := HLv.out.pieces
            rw [HLM.out] at eM
            subst eM
            have HPM := Lib.hid hpM
            clear hpM HLv HX10 HP10 HL10
            have nn : ∀ x : Nat, (x != x) = false := fun x => by simp
            have nn2 : ∀ x : Int, (x != x) = false := fun x => by simp
            go_upto_region 23 with fail
            clear nn nn2
            go_upto_region 24 with fail
            have HLm : Hid (LN ≤ 9223372036854775807) := Lib.hid (by have := HP11.out.len; rw [HLN.out] at this; exact this)
            go_loopw [21] (fun jv wr => ∃ j : Nat, j ≤ LN ∧ jv = .int .i64 (j : Int) ∧ Below w11.heap.size w11 wr) (fun jv _ => LN - (intOf jv).toNat)
            case atStart => exact ⟨0, by omega, rfl, Below.refl _ _⟩
            case round =>
            obtain ⟨j, hj, rfl, hbr⟩ := hrel
            by_cases hlt : j < LN
            · have d1 : decide (j < LN) = true := by simpa using hlt
              have d2 : decide ((j : Int) < (LN : Int)) = true := by simp; omega
              have hw5 : IntKind.i64.wrap ((j : Int) + 1) = (j : Int) + 1 := IntWalk.i64_in _ (by have := HLm.out; omega)
              have HLt := Lib.hid hlt
              have HBr := Lib.hid hbr
              obtain ⟨x, yl, hx, hy, hxy⟩ := HSm.out j hlt
              obtain ⟨gM, oM, sx, cx, hfx⟩ := lf_at (LN := LN) HPM.out hx
              obtain ⟨gN, oN, sy, cy, hfy⟩ := lf_at (LN := LN) HP11.out hy
              have HFx := Lib.hid (hfx.later hbr)
              have HFy := Lib.hid (hfy.later hbr)
              have e1 := hfx.e
              subst e1
              have e2 := hfy.e
              cases e2
              have HXr := Lib.hid (HX11.out.later hbr)
              have HXy := Lib.hid hxy
              clear hlt hbr hx hy hfx hfy hxy hj
              go_upto_region 26 with fail
              by_cases hjA : j = A
              · subst hjA
                have hd := HXy.out
                rw [if_pos rfl] at hd
                obtain ⟨D, hD⟩ : ∃ D, decide (z = b) = D := ⟨_, rfl⟩
                have hD2 : (z == b) = D := by rw [← hD]; rfl
                rw [hD] at hd
                have HD := Lib.hid (And.intro hd hD2)
                clear hd hD hD2
                refine wp_region_quiet (C := fun W => Below wr.heap.size wr W) (by kernel_rfl) (by kernel_rfl) ⟨rfl, rfl, rfl, Nat.le_refl _, fun _ _ => rfl⟩ ?_
                refine q_val (.slice (some ⟨gM, oM, none⟩) LN capM) rfl (fun W hW => by rfl) ?_
                simp only [Act.put, List.setIfInBounds_toArray, List.set_cons_succ, List.set_cons_zero]
                refine q_val (.int .i64 (j : Int)) rfl (fun W hW => by rfl) ?_
                simp only [Act.put, List.setIfInBounds_toArray, List.set_cons_succ, List.set_cons_zero]
                refine q_val (.pointer (some ⟨gM, oM + j, none⟩)) rfl (fun W hW => Bp.exec_at1 39 24 Try.underlying39 size39 (.tmp 175) (.tmp 176) rfl gM oM LN capM j rfl rfl HLt.out) ?_
                simp only [Act.put, List.setIfInBounds_toArray, List.set_cons_succ, List.set_cons_zero]
                refine q_val (.slice sx x.length cx) rfl (fun W hW => Bp.exec_load1 24 (.tmp 177) rfl ⟨gM, oM + j, none⟩ rfl _ ((hW.cell (block_lt_of_cell HFx.out.cell)).trans HFx.out.cell) _ Try.underlying24 rfl) ?_
                simp only [Act.put, List.setIfInBounds_toArray, List.set_cons_succ, List.set_cons_zero]
                refine q_val (.slice (some ⟨gL, oL, none⟩) LN capL) rfl (fun W hW => by rfl) ?_
                simp only [Act.put, List.setIfInBounds_toArray, List.set_cons_succ, List.set_cons_zero]
                refine q_val (.int .i64 (j : Int)) rfl (fun W hW => by rfl) ?_
                simp only [Act.put, List.setIfInBounds_toArray, List.set_cons_succ, List.set_cons_zero]
                refine q_val (.pointer (some ⟨gL, oL + j, none⟩)) rfl (fun W hW => Bp.exec_at1 39 24 Try.underlying39 size39 (.tmp 179) (.tmp 180) rfl gL oL LN capL j rfl rfl HLt.out) ?_
                simp only [Act.put, List.setIfInBounds_toArray, List.set_cons_succ, List.set_cons_zero]
                refine q_val (.slice sy yl.length cy) rfl (fun W hW => Bp.exec_load1 24 (.tmp 181) rfl ⟨gL, oL + j, none⟩ rfl _ ((hW.cell (block_lt_of_cell HFy.out.cell)).trans HFy.out.cell) _ Try.underlying24 rfl) ?_
                simp only [Act.put, List.setIfInBounds_toArray, List.set_cons_succ, List.set_cons_zero]
                refine q_call 14 #[.slice sx x.length cx, .slice sy yl.length cy] (.bool D) rfl (fun W hW => exec_call2 14 (.tmp 178) (.tmp 182) #[24, 24] _ _ rfl rfl rfl (cf Try.func14 (by kernel_rfl) (by kernel_rfl) _ _)) (fun W hW => (Cd.bytes_any W sx sy x.length yl.length cx cy x yl rfl rfl (HFx.out.byt.below hW) (HFy.out.byt.below hW)).mono fun e2 W' h => by obtain ⟨h1, h2⟩ := h.below; rw [HD.out.1] at h1; exact ⟨h1, hW.trans (h2.mono hW.size)⟩) ?_
                simp only [Act.put, List.setIfInBounds_toArray, List.set_cons_succ, List.set_cons_zero]
                refine q_val (.int .i64 (j : Int)) rfl (fun W hW => by rfl) ?_
                simp only [Act.put, List.setIfInBounds_toArray, List.set_cons_succ, List.set_cons_zero]
                refine q_val (.int .i64 (j : Int)) rfl (fun W hW => by rfl) ?_
                simp only [Act.put, List.setIfInBounds_toArray, List.set_cons_succ, List.set_cons_zero]
                refine q_val (.bool false) rfl (fun W hW => exec_neI (.tmp 184) (.tmp 185) rfl (j : Int) (j : Int) false (by simp) rfl rfl) ?_
                simp only [Act.put, List.setIfInBounds_toArray, List.set_cons_succ, List.set_cons_zero]
                refine q_val (.bool false) rfl (fun W hW => by rfl) ?_
                simp only [Act.put, List.setIfInBounds_toArray, List.set_cons_succ, List.set_cons_zero]
                refine q_val (.int .i64 z) rfl (fun W hW => by rfl) ?_
                simp only [Act.put, List.setIfInBounds_toArray, List.set_cons_succ, List.set_cons_zero]
                refine q_val (.pointer (some ⟨w.heap.size + 1 + 1, 1, none⟩)) rfl (fun W hW => exec_tw1 (.tmp 5) rfl (w.heap.size + 1 + 1) rfl) ?_
                simp only [Act.put, List.setIfInBounds_toArray, List.set_cons_succ, List.set_cons_zero]
                refine q_val (.int .i64 b) rfl (fun W hW => Bp.exec_load1 3 (.tmp 189) rfl ⟨w.heap.size + 1 + 1, 1, none⟩ rfl _ ((HXr.out.later hW).tw 1) _ Try.underlying3 rfl) ?_
                simp only [Act.put, List.setIfInBounds_toArray, List.set_cons_succ, List.set_cons_zero]
                refine q_val (.bool D) rfl (fun W hW => exec_eqI (.tmp 188) (.tmp 190) rfl z b D HD.out.2 rfl rfl) ?_
                simp only [Act.put, List.setIfInBounds_toArray, List.set_cons_succ, List.set_cons_zero]
                refine q_val (.bool D) rfl (fun W hW => by rfl) ?_
                simp only [Act.put, List.setIfInBounds_toArray, List.set_cons_succ, List.set_cons_zero]
                refine q_val (.bool false) rfl (fun W hW => exec_neB (.tmp 183) (.tmp 192) rfl D rfl rfl) ?_
                simp only [Act.put, List.setIfInBounds_toArray, List.set_cons_succ, List.set_cons_zero]
                refine wpQuiet_nil ?_
                intro W3 hW3
                have HX3 := Lib.hid (HBr.out.trans (hW3.mono HBr.out.size))
                clear hW3
                go_wp2
                go_roundw
                case rel => exact ⟨j + 1, by have := HLt.out; omega, by go_num, HX3.out⟩
                case measure => simp [intOf]; have := HLt.out; omega
              · have hd := HXy.out
                rw [if_neg hjA] at hd
                have HD := Lib.hid hd
                have HNe : Hid (((j : Int) != (A : Int)) = true) := Lib.hid (by rw [bne_iff_ne]; omega)
                clear hd hjA
                refine wp_region_quiet (C := fun W => Below wr.heap.size wr W) (by kernel_rfl) (by kernel_rfl) ⟨rfl, rfl, rfl, Nat.le_refl _, fun _ _ => rfl⟩ ?_
                refine q_val (.slice (some ⟨gM, oM, none⟩) LN capM) rfl (fun W hW => by rfl) ?_
                simp only [Act.put, List.setIfInBounds_toArray, List.set_cons_succ, List.set_cons_zero]
                refine q_val (.int .i64 (j : Int)) rfl (fun W hW => by rfl) ?_
                simp only [Act.put, List.setIfInBounds_toArray, List.set_cons_succ, List.set_cons_zero]
                refine q_val (.pointer (some ⟨gM, oM + j, none⟩)) rfl (fun W hW => Bp.exec_at1 39 24 Try.underlying39 size39 (.tmp 175) (.tmp 176) rfl gM oM LN capM j rfl rfl HLt.out) ?_
                simp only [Act.put, List.setIfInBounds_toArray, List.set_cons_succ, List.set_cons_zero]
                refine q_val (.slice sx x.length cx) rfl (fun W hW => Bp.exec_load1 24 (.tmp 177) rfl ⟨gM, oM + j, none⟩ rfl _ ((hW.cell (block_lt_of_cell HFx.out.cell)).trans HFx.out.cell) _ Try.underlying24 rfl) ?_
                simp only [Act.put, List.setIfInBounds_toArray, List.set_cons_succ, List.set_cons_zero]
                refine q_val (.slice (some ⟨gL, oL, none⟩) LN capL) rfl (fun W hW => by rfl) ?_
                simp only [Act.put, List.setIfInBounds_toArray, List.set_cons_succ, List.set_cons_zero]
                refine q_val (.int .i64 (j : Int)) rfl (fun W hW => by rfl) ?_
                simp only [Act.put, List.setIfInBounds_toArray, List.set_cons_succ, List.set_cons_zero]
                refine q_val (.pointer (some ⟨gL, oL + j, none⟩)) rfl (fun W hW => Bp.exec_at1 39 24 Try.underlying39 size39 (.tmp 179) (.tmp 180) rfl gL oL LN capL j rfl rfl HLt.out) ?_
                simp only [Act.put, List.setIfInBounds_toArray, List.set_cons_succ, List.set_cons_zero]
                refine q_val (.slice sy yl.length cy) rfl (fun W hW => Bp.exec_load1 24 (.tmp 181) rfl ⟨gL, oL + j, none⟩ rfl _ ((hW.cell (block_lt_of_cell HFy.out.cell)).trans HFy.out.cell) _ Try.underlying24 rfl) ?_
                simp only [Act.put, List.setIfInBounds_toArray, List.set_cons_succ, List.set_cons_zero]
                refine q_call 14 #[.slice sx x.length cx, .slice sy yl.length cy] (.bool true) rfl (fun W hW => exec_call2 14 (.tmp 178) (.tmp 182) #[24, 24] _ _ rfl rfl rfl (cf Try.func14 (by kernel_rfl) (by kernel_rfl) _ _)) (fun W hW => (Cd.bytes_any W sx sy x.length yl.length cx cy x yl rfl rfl (HFx.out.byt.below hW) (HFy.out.byt.below hW)).mono fun e2 W' h => by obtain ⟨h1, h2⟩ := h.below; rw [HD.out] at h1; exact ⟨h1, hW.trans (h2.mono hW.size)⟩) ?_
                simp only [Act.put, List.setIfInBounds_toArray, List.set_cons_succ, List.set_cons_zero]
                refine q_val (.int .i64 (j : Int)) rfl (fun W hW => by rfl) ?_
                simp only [Act.put, List.setIfInBounds_toArray, List.set_cons_succ, List.set_cons_zero]
                refine q_val (.int .i64 (A : Int)) rfl (fun W hW => by rfl) ?_
                simp only [Act.put, List.setIfInBounds_toArray, List.set_cons_succ, List.set_cons_zero]
                refine q_val (.bool true) rfl (fun W hW => exec_neI (.tmp 184) (.tmp 185) rfl (j : Int) (A : Int) true HNe.out rfl rfl) ?_
                simp only [Act.put, List.setIfInBounds_toArray, List.set_cons_succ, List.set_cons_zero]
                refine q_val (.bool true) rfl (fun W hW => by rfl) ?_
                simp only [Act.put, List.setIfInBounds_toArray, List.set_cons_succ, List.set_cons_zero]
                refine q_skip rfl ?_
                simp only [Act.put, List.setIfInBounds_toArray, List.set_cons_succ, List.set_cons_zero]
                refine q_skip rfl ?_
                simp only [Act.put, List.setIfInBounds_toArray, List.set_cons_succ, List.set_cons_zero]
                refine q_skip rfl ?_
                simp only [Act.put, List.setIfInBounds_toArray, List.set_cons_succ, List.set_cons_zero]
                refine q_skip rfl ?_
                simp only [Act.put, List.setIfInBounds_toArray, List.set_cons_succ, List.set_cons_zero]
                refine q_val (.bool true) rfl (fun W hW => by rfl) ?_
                simp only [Act.put, List.setIfInBounds_toArray, List.set_cons_succ, List.set_cons_zero]
                refine q_val (.bool false) rfl (fun W hW => exec_neB (.tmp 183) (.tmp 192) rfl true rfl rfl) ?_
                simp only [Act.put, List.setIfInBounds_toArray, List.set_cons_succ, List.set_cons_zero]
                refine wpQuiet_nil ?_
                intro W3 hW3
                have HX3 := Lib.hid (HBr.out.trans (hW3.mono HBr.out.size))
                clear hW3
                go_wp2
                go_roundw
                case rel => exact ⟨j + 1, by have := HLt.out; omega, by go_num, HX3.out⟩
                case measure => simp [intOf]; have := HLt.out; omega
            · obtain rfl : j = LN := by omega
              have d1 : decide (j < j) = false := by simp
              have d2 : decide ((j : Int) < (j : Int)) = false := by simp
              clear hlt hj
              go_wp2_with (go_at_call 8; refine (awake_any _).mono ?_; rintro e wz ⟨rfl, hbz⟩; have HBz := Lib.hid hbz; clear hbz)
              go_ret
              exact ⟨rfl, ((HX11.out.later hbr).later HBz.out).bk.below⟩
    · have HC := Lib.hid (fun W (h : OnI w v k y r a b W) => leaves_no W v m (HV.out.later h.bk.below) (by omega) (by omega) hE)
      obtain ⟨E, hEE⟩ : ∃ E, m.chk = E := ⟨_, rfl⟩
      rw [hEE] at HC hE
      have n1 : (E == 0) = false := by simpa using hE
      have n2 : (E != 0) = true := by simpa using hE
      clear hal hps hE hEE
      go_wp2_with (first
        | (refine wpList_load_row rfl 31 (.tmp 3) rfl w.heap.size rfl 31 v.cells (0, 0) _ HX1.out.bk.row Try.underlying31 rfl size_wts ?_)
        | (go_at_call 18; refine (HC.out _ HX1.out).mono ?_; rintro e w2 ⟨rfl, hb2⟩; have HX2 := Lib.hid (HX1.out.later hb2); clear hb2)
        | (go_at_call 8; refine (awake_any _).mono ?_; rintro e wz ⟨rfl, hbz⟩; have HBz := Lib.hid hbz; clear hbz))
      go_ret
      exact ⟨rfl, (HX2.out.later HBz.out).bk.below⟩
end Go.Proofs.Ytkfkjapkcjidnaa.Wg
