/- Steps: the row of a part. -/
import Derived.Test.YtdffbjjiojheoaaSr
import Derived.Test.YtdffbjjiojheoaaZd
namespace Go.Proofs.Ytdffbjjiojheoaa.St
set_option maxRecDepth 100000
open Go.ChangeShapes Go.WideShapes Go.ChangeAt Go.RowKit Go.Shelf Go.Proofs.Ytdffbjjiojheoaa.Tn Go.Proofs.Ytdffbjjiojheoaa.Wg
theorem made_is (w : World) (s0 s1 s2 s3 s4 s5 : Int) (sf : Option Addr) (nf cf : Nat) (fl : List Int) (hfl : fl.length = nf) (hN : Nums w sf cf fl) :
    Calls Try.prog 25 #[.agg #[.int .i64 s0, .int .i64 s1, .int .i64 s2, .int .i64 s3, .int .i64 s4, .int .i64 s5, .slice sf nf cf]] w fun e W' => Below w.heap.size w W' ∧ ∃ v ok, e = .returned (.tuple #[.agg (Wv.cells v), .bool ok]) ∧ (ok = true → ∃ m, m.chk = 0 ∧ WvOK W' v m ∧ Mk.Small m) := by
  refine (Mk.made_any w s0 s1 s2 s3 s4 s5 sf nf cf fl hfl hN).mono ?_
  rintro e W' ⟨hb, h | ⟨v, m, h, h1, h2⟩⟩
  · exact ⟨hb, ⟨⟨0, 0, 0, 0, 0, 0⟩, none, 0, 0, none, 0, 0, 0, 0, none, 0, 0, none, 0, 0, none, 0, 0, 0, 0, none, 0, 0⟩, false, h, fun h => by cases h⟩
  · exact ⟨hb, v, _, h, fun hk => ⟨m, by simpa using hk, h1, h2⟩⟩
theorem wv_cfg {W : World} {g : Nat} {v : Wv} (h : W.heap[g]? = some (.cells v.cells 38 (0, 0))) : W.rangeAt g 0 v.c.cells.toList := by
  intro i u hu
  rw [Nat.zero_add, cell_of_row _ _ _ _ _ _ h]
  rcases i with _ | _ | _ | _ | _ | _ | i
  all_goals first | exact hu | (simp [Cfg.cells] at hu)
theorem size_spec : (Try.prog.info? 25).map (·.size) = some 7 := by kernel_rfl
theorem mo_any {w : World} {v : Wv} {m : Md} (hv : WvOK w v m) {k y r : Int} {K Y R C Q : Nat} (hP : RowAt m k y r K Y R C Q) : ∃ sp cap, Nums w sp cap (m.part K Y).l ∧ ∀ W, Below w.heap.size w W → Calls Try.prog 52 #[.agg v.cells, .agg #[.int .i64 k, .int .i64 y, .int .i64 r]] W fun e W' => e = .returned (.agg #[.int .i64 (Q : Int), .int .i64 (C : Int), .slice sp (Q * C) cap]) ∧ Below W.heap.size W W' := by
  have hl := hP.len
  have hm := hP.mat
  have hq := hP.vec
  have hk := hP.ek
  have hy := hP.ey
  subst hk hy
  rcases hP.part with ⟨rfl, rfl⟩ | ⟨rfl, rfl⟩ | ⟨rfl, rfl⟩ | ⟨hy, h2, h10⟩
  · have e : m.part 1 0 = m.em := rfl
    rw [e] at hl hm ⊢
    obtain ⟨m1, m2⟩ := hm rfl
    refine ⟨v.se, v.ce, hv.em, fun W _ => ?_⟩
    have h := moE_any W v (0 : Nat) r
    rw [hv.er, hv.ec, hv.ne, m1, m2, hl] at h
    exact h
  · have e : (m.part 11 0).l = m.nm := rfl
    rw [e] at hl ⊢
    have q1 := hq rfl
    subst q1
    rw [Nat.one_mul] at hl ⊢
    refine ⟨v.sn, v.cn, hv.nm, fun W _ => ?_⟩
    have h := moN_any W v (0 : Nat) r
    rw [hv.nn, hl] at h
    exact h
  · have e : m.part 12 0 = m.ou := rfl
    rw [e] at hl hm ⊢
    obtain ⟨m1, m2⟩ := hm rfl
    refine ⟨v.so, v.co, hv.ou, fun W _ => ?_⟩
    have h := moO_any W v (0 : Nat) r
    rw [hv.xr, hv.xc, hv.no, m1, m2, hl] at h
    exact h
  · have e : m.part K Y = m.ly Y K := by
      unfold Md.part
      rw [if_neg (by omega), if_neg (by omega), if_neg (by omega)]
    rw [e] at hl hm ⊢
    have hyn : Y < v.nl := by rw [hv.nl]; exact hy
    obtain ⟨b, o, cs, hs, hc, hr, hp⟩ := lay_range hv.ls hyn
    obtain ⟨R', C', sp, n, cap, h⟩ := hp K h2 h10
    have en : n = Q * C := h.len.trans hl
    have e2 : R' = (Q : Int) ∧ C' = (C : Int) := by
      cases hvc : isVec K with
      | true =>
        obtain ⟨_, a, b⟩ := h.vec hvc
        have := hq hvc
        subst this
        rw [Nat.one_mul] at en
        subst en
        exact ⟨a, b⟩
      | false =>
        obtain ⟨_, _, _, a, b⟩ := h.mat hvc
        obtain ⟨m1, m2⟩ := hm hvc
        exact ⟨a.trans m1, b.trans m2⟩
    obtain ⟨rfl, rfl⟩ := e2
    subst en
    exact ⟨sp, cap, h.nums, fun W hb => moL_any W v K Y r h2 h10 hyn b o cs hs hc (fun i u hu => (hb.cell (block_lt_of_cell (hr i u hu))).trans (hr i u hu)) h⟩
/-- the boxes of Row -/
structure RwI (w : World) (vs ps : Array Value) (W : World) : Prop where
  below : Below w.heap.size w W
  vb : W.heap[w.heap.size]? = some (.cells vs 38 (0, 0))
  pb : W.heap[w.heap.size + 1]? = some (.cells ps 76 (0, 0))
theorem RwI.later {w W W' : World} {vs ps : Array Value} (h : RwI w vs ps W) (hb : Below W.heap.size W W') : RwI w vs ps W' :=
  ⟨h.below.trans (hb.mono h.below.size), (hb.block _ (Array.getElem?_eq_some_iff.1 h.vb).1).trans h.vb, (hb.block _ (Array.getElem?_eq_some_iff.1 h.pb).1).trans h.pb⟩
theorem RwI.made (w : World) (vs ps : Array Value) : RwI w vs ps ((w.alloc (.cells vs 38)).alloc (.cells ps 76)) := by
  obtain ⟨O1, hO1⟩ : ∃ O, (Obj.cells vs 38 (0, 0)) = O := ⟨_, rfl⟩
  obtain ⟨O2, hO2⟩ : ∃ O, (Obj.cells ps 76 (0, 0)) = O := ⟨_, rfl⟩
  rw [hO1, hO2]
  have e1 : (w.alloc O1).heap.size = w.heap.size + 1 := by simp
  refine ⟨((Below.refl _ _).alloc (Nat.le_refl _) _).alloc (by simp) _, ?_, ?_⟩
  · rw [hO1, heap_alloc_old _ _ (by omega)]; exact heap_alloc_new _ _
  · rw [hO2, ← e1]; exact heap_alloc_new _ _
theorem RwI.pc {w W : World} {vs ps : Array Value} (h : RwI w vs ps W) {i : Nat} {v : Value} (hv : ps[i]? = some v) : W.cell? ⟨w.heap.size + 1, i, none⟩ = some v := by rw [cell_of_row _ _ _ _ _ _ h.pb]; exact hv
def RxI (w : World) (vs ps : Array Value) (g : Nat) (ms : Array Value) (W : World) : Prop := RwI w vs ps W ∧ W.heap[g]? = some (.cells ms 35 (0, 0))
theorem RxI.later {w W W' : World} {vs ps ms : Array Value} {g : Nat} (h : RxI w vs ps g ms W) (hb : Below W.heap.size W W') : RxI w vs ps g ms W' := ⟨h.1.later hb, (hb.block _ (Array.getElem?_eq_some_iff.1 h.2).1).trans h.2⟩
theorem gC {W : World} {ms : Array Value} {g : Nat} (h : W.heap[g]? = some (.cells ms 35 (0, 0))) {i : Nat} {v : Value} (hv : ms[i]? = some v) : W.cell? ⟨g, i, none⟩ = some v := by rw [cell_of_row _ _ _ _ _ _ h]; exact hv
theorem nums_cap {w : World} {sp : Option Addr} {c d : Nat} {l : List Int} (h : Nums w sp c l) (h1 : l.length ≤ d) (h2 : d ≤ c) : Nums w sp d l := ⟨by simpa using h1, Nat.le_trans h2 h.max, fun e => by have := h.nul e; omega, h.lies⟩
theorem exec_geqM {a : Act} {o : Oper} {W : World} (x y : Operand) (ho : o.op = .binOp .geq 3 x y 3) (u v : Int) (b : Bool) (hx : a.eval x = .int .i64 u) (hy : a.eval y = .int .i64 v) (h : decide (v ≤ u) = b) : (execOp a.eval o).run Try.prog W = .ok (.value (.bool b)) W := by
  subst h
  unfold execOp
  simp [ho, hx, hy, binOp, Op.intCmp, eqGuard]
theorem exec_subM {a : Act} {o : Oper} {W : World} (x y : Operand) (ho : o.op = .binOp .sub 3 x y 3) (u v z : Int) (hx : a.eval x = .int .i64 u) (hy : a.eval y = .int .i64 v) (h : IntKind.i64.wrap (u - v) = z) : (execOp a.eval o).run Try.prog W = .ok (.value (.int .i64 z)) W := by
  unfold execOp
  simp [ho, hx, hy, binOp, Op.intArith, h, eqGuard]
theorem exec_quoM {a : Act} {o : Oper} {W : World} (x y : Operand) (ho : o.op = .binOp .quo 3 x y 3) (u v z : Int) (hx : a.eval x = .int .i64 u) (hy : a.eval y = .int .i64 v) (hz : v ≠ 0) (h : IntKind.i64.wrap (u.tdiv v) = z) : (execOp a.eval o).run Try.prog W = .ok (.value (.int .i64 z)) W := by
  unfold execOp
  simp [ho, hx, hy, binOp, Op.intDiv, hz, h, eqGuard]
theorem size_part : (Try.prog.info? 76).map (·.size) = some 3 := by kernel_rfl
theorem run_three (sp : Option Addr) (m cap k h : Nat) (hk : k < h) (hh : h ≤ cap) (w : World) : (Instr.slice 23 (.slice sp m cap) (some (.int .i64 (k : Int))) (some (.int .i64 (h : Int))) (some (.int .i64 (h : Int)))).run Try.prog w = .ok (.slice (cutA sp cap k) (h - k) (h - k)) w := by
  cases hq : Try.prog.info? 3 with
  | none => have := size3; simp [hq] at this
  | some i =>
    have hi : i.size = 1 := by have := size3; simpa [hq] using this
    have hle : k ≤ h := by omega
    have hne : ¬ h = k := by omega
    have hne2 : ¬ cap = k := by omega
    simp only [Instr.slice, run_underlying Try.underlying23, Instr.sliceBounds, Instr.sliceBound, asIntOf, sizeOf, typeInfo, Sem.run_bind, Result.andThen_ok, Sem.run_pure, Sem.run_ite]
    simp [hq, hi, hle, hh, cutA, hne, hne2]
theorem Row_no (w : World) (v : Wv) (k y r : Int) (hp : (placeV v.c k y r).2 ≠ 0) : Calls Try.prog 27 #[.agg v.cells, .agg #[.int .i64 k, .int .i64 y, .int .i64 r]] w fun e w' => e = .returned (.tuple #[.slice none 0 0, .int .i64 10]) ∧ Below w.heap.size w w' := by
  have HPl := Lib.hid (fun W => place_any W v.c k y r)
  have HM := Lib.hid (RwI.made w v.cells #[.int .i64 k, .int .i64 y, .int .i64 r])
  go_enter Try.func27, Try.ntmps27
  go_upto_region 1 with fail
  refine Mk.genM (Q := fun w => Code.wp _ _ _ _ w) _ (RwI w v.cells #[.int .i64 k, .int .i64 y, .int .i64 r]) HM.out ?_
  clear HM
  intro w1 k1
  have HI1 := Lib.hid k1
  have HG := Lib.hid (wv_cfg k1.vb)
  clear k1
  obtain ⟨pe, hpe⟩ : ∃ pe, (placeV v.c k y r).2 = pe := ⟨_, rfl⟩
  rw [hpe] at HPl hp
  have hne := ne0 hp
  have dn : decide (pe = 0) = false := by simpa using hp
  clear hpe hp
  go_wp2_with (first
    | (refine wpList_load_mid rfl 31 (.tmp 12) rfl w.heap.size 0 rfl v.c.cells.toList _ HG.out Try.underlying31 rfl (by kernel_rfl) ?_)
    | (refine wpList_load_row rfl 76 (.tmp 3) rfl (w.heap.size + 1) rfl 76 _ (0, 0) _ HI1.out.pb Try.underlying76 rfl size_part ?_)
    | (go_at_call 28; refine (HPl.out _).mono ?_; rintro e w2 ⟨rfl, hb2⟩; have HI2 := Lib.hid (HI1.out.later hb2); clear hb2))
  go_ret2
  exact ⟨rfl, HI2.out.below⟩
set_option maxHeartbeats 2000000 in
theorem Row_yes (w : World) (v : Wv) (m : Md) (hv : WvOK w v m) (k y r : Int) (K Y R C Q : Nat) (hP : RowAt m k y r K Y R C Q) (hp : (placeV v.c k y r).2 = 0) : Calls Try.prog 27 #[.agg v.cells, .agg #[.int .i64 k, .int .i64 y, .int .i64 r]] w fun e w' => AnsE w (rowL (m.part K Y).l C R) 0 e w' := by
  obtain ⟨sp, cap, hN, hMo⟩ := mo_any hv hP
  have HMo := Lib.hid hMo
  have hlt := hP.lt
  have hpos := hP.pos
  have hC64 := hP.le
  have hQ := hP.q
  have hl := hP.len
  have hrl := rowL_length (l := (m.part K Y).l) (C := C) (i := R) (R := Q) hl hlt
  have hin := row_in (C := C) hlt
  have hq1 : (R + 1) * C = R * C + C := by rw [Nat.add_mul, Nat.one_mul]
  have hRn := row_nums hN C R (by omega)
  obtain ⟨a, ha⟩ := nums_some hRn (by omega)
  have hsz : Q * C ≤ 32768 := Nat.le_trans (Nat.mul_le_mul hQ hC64) (by decide)
  have hcap := Nums.cap hN
  rw [hl] at hcap
  obtain ⟨z, hz⟩ : ∃ z, R * C = z := ⟨_, rfl⟩
  obtain ⟨X, hX⟩ : ∃ X, rowL (m.part K Y).l C R = X := ⟨_, rfl⟩
  rw [hX] at hrl hRn ⊢
  rw [hz] at hin ha hq1 hRn
  rw [ha] at hRn
  have kC := run_three sp (Q * C) cap z (z + C) (by omega) (by omega)
  rw [show z + C - z = C by omega, ha] at kC
  have hRn2 : Nums w (some a) C X := nums_cap hRn (by omega) (by omega)
  have HCl := Lib.hid (fun W (hb : Below w.heap.size w W) => clone_any W a C C X hrl (Sl.below hRn2 (Nat.le_refl _) hb) (by omega))
  have hqc : (R : Int) * (C : Int) = (z : Int) := by rw [← hz, Int.natCast_mul]
  have hqc2 : ((R : Int) + 1) * (C : Int) = (z : Int) + (C : Int) := by
    have : (((R + 1) * C : Nat) : Int) = ((z + C : Nat) : Int) := by rw [hq1]
    rw [Int.natCast_mul, show ((R + 1 : Nat) : Int) = (R : Int) + 1 from rfl] at this
    rw [this]
    rfl
  have hzc : ((z + C : Nat) : Int) = (z : Int) + (C : Int) := by omega
  rw [hzc] at kC
  obtain ⟨C1, hC1⟩ : ∃ C1 : Nat, C = C1 + 1 := ⟨C - 1, by omega⟩
  have HF1 : Hid (decide ((Q : Int) ≤ (R : Int)) = false) := Lib.hid (by simp; omega)
  have HF2 : Hid (IntKind.i64.wrap ((C : Int) - 1) = (C1 : Int)) := Lib.hid (by rw [hC1, show (((C1 + 1 : Nat) : Int) - 1) = (C1 : Int) by omega]; exact IntWalk.i64_in _ (by omega))
  have HF3 : Hid (IntKind.i64.wrap (((Q * C : Nat) : Int).tdiv (C : Int)) = (Q : Int)) := Lib.hid (by rw [show ((Q * C : Nat) : Int).tdiv (C : Int) = (Q : Int) by rw [Int.natCast_mul]; exact Int.mul_tdiv_cancel _ (by omega)]; exact IntWalk.i64_in _ (by omega))
  have HF4 : Hid ((C : Int) ≠ 0) := Lib.hid (by omega)
  have HIp := Lib.hid (fun W => isPlace_any W (C1 : Int) ((Q * C : Nat) : Int))
  rw [show decide (0 ≤ (C1 : Int) ∧ (C1 : Int) < ((Q * C : Nat) : Int)) = true by have : 1 * C ≤ Q * C := Nat.mul_le_mul_right _ (by omega); simp only [decide_eq_true_eq]; omega] at HIp
  have hzN : z + C ≤ 32768 := by omega
  obtain ⟨Y0, hY0⟩ : ∃ Y0, Y = Y0 := ⟨_, rfl⟩
  have hk := hP.ek
  have hy := hP.ey
  have hr := hP.er
  subst hk hy hr
  rw [hY0] at HMo hp ⊢
  clear hMo hl hq1 hRn ha hcap hz hX hrl hRn2 hC1 hin hsz hv hP hzc
  have HN := Lib.hid hN
  clear hN
  have HPl := Lib.hid (fun W => place_any W v.c (K : Int) (Y0 : Int) (R : Int))
  have HM := Lib.hid (RwI.made w v.cells #[.int .i64 (K : Int), .int .i64 (Y0 : Int), .int .i64 (R : Int)])
  go_enter Try.func27, Try.ntmps27
  go_upto_region 1 with fail
  refine Mk.genM (Q := fun w => Code.wp _ _ _ _ w) _ (RwI w v.cells #[.int .i64 (K : Int), .int .i64 (Y0 : Int), .int .i64 (R : Int)]) HM.out ?_
  clear HM
  intro w1 k1
  have HI1 := Lib.hid k1
  have HG := Lib.hid (wv_cfg k1.vb)
  clear k1
  rw [hp] at HPl
  clear hp
  go_wp2_with (first
    | (refine wpList_load_mid rfl 31 (.tmp 12) rfl w.heap.size 0 rfl v.c.cells.toList _ HG.out Try.underlying31 rfl (by kernel_rfl) ?_)
    | (refine wpList_load_row rfl 76 (.tmp 3) rfl (w.heap.size + 1) rfl 76 _ (0, 0) _ HI1.out.pb Try.underlying76 rfl size_part ?_)
    | (go_at_call 28; refine (HPl.out _).mono ?_; rintro e w2 ⟨rfl, hb2⟩; have HI2 := Lib.hid (HI1.out.later hb2); clear hb2)
    | (refine wpList_load_row rfl 38 (.tmp 2) rfl w.heap.size rfl 38 _ (0, 0) _ HI2.out.vb Try.underlying38 rfl (Mk.size_wv v) ?_)
    | (refine wpList_load_row rfl 76 (.tmp 3) rfl (w.heap.size + 1) rfl 76 _ (0, 0) _ HI2.out.pb Try.underlying76 rfl size_part ?_)
    | (go_at_call 52; refine (HMo.out _ HI2.out.below).mono ?_; rintro e w3 ⟨rfl, hb3⟩; have HI3 := Lib.hid (HI2.out.later hb3); clear hb3))
  have hal : Below w3.heap.size w3 (w3.alloc (.cells #[.int .i64 (Q : Int), .int .i64 (C : Int), .slice sp (Q * C) cap] 35)) := (Below.refl _ _).alloc (Nat.le_refl _) _
  refine Mk.genM (Q := fun w => Code.wp _ _ _ _ w) _ (fun Y => RwI w v.cells #[.int .i64 (K : Int), .int .i64 (Y0 : Int), .int .i64 (R : Int)] Y ∧ Y.heap[w3.heap.size]? = some (.cells #[.int .i64 (Q : Int), .int .i64 (C : Int), .slice sp (Q * C) cap] 35 (0, 0))) ⟨HI3.out.later hal, heap_alloc_new _ _⟩ ?_
  clear hal HI1 HI2 HI3 HMo HPl HG
  obtain ⟨g, hg⟩ : ∃ g, w3.heap.size = g := ⟨_, rfl⟩
  rw [hg]
  clear hg
  intro w4 k4
  have HI4 := Lib.hid k4
  clear k4
  obtain ⟨UL, hUL⟩ : ∃ UL : List Value, ([.pointer (some ⟨w.heap.size + 1, 2, none⟩), .int .i64 (R : Int), .pointer (some ⟨g, 0, none⟩), .int .i64 (Q : Int), .bool false, .bool false, .pointer (some ⟨g, 1, none⟩), .int .i64 (C : Int), .int .i64 (C1 : Int), .pointer (some ⟨g, 2, none⟩), .slice sp (Q * C) cap, .int .i64 ((Q * C : Nat) : Int), .bool true, .bool false, .bool false, .bool false, .pointer (some ⟨w.heap.size + 1, 2, none⟩), .int .i64 (R : Int), .pointer (some ⟨g, 2, none⟩), .slice sp (Q * C) cap, .int .i64 ((Q * C : Nat) : Int), .pointer (some ⟨g, 1, none⟩), .int .i64 (C : Int), .int .i64 (Q : Int), .bool false] : List Value) = UL := ⟨_, rfl⟩
  have y0 : UL.getD 0 undef = .pointer (some ⟨w.heap.size + 1, 2, none⟩) := by rw [← hUL]; rfl
  have y1 : UL.getD 1 undef = .int .i64 (R : Int) := by rw [← hUL]; rfl
  have y2 : UL.getD 2 undef = .pointer (some ⟨g, 0, none⟩) := by rw [← hUL]; rfl
  have y3 : UL.getD 3 undef = .int .i64 (Q : Int) := by rw [← hUL]; rfl
  have y4 : UL.getD 4 undef = .bool false := by rw [← hUL]; rfl
  have y5 : UL.getD 5 undef = .bool false := by rw [← hUL]; rfl
  have y6 : UL.getD 6 undef = .pointer (some ⟨g, 1, none⟩) := by rw [← hUL]; rfl
  have y7 : UL.getD 7 undef = .int .i64 (C : Int) := by rw [← hUL]; rfl
  have y8 : UL.getD 8 undef = .int .i64 (C1 : Int) := by rw [← hUL]; rfl
  have y9 : UL.getD 9 undef = .pointer (some ⟨g, 2, none⟩) := by rw [← hUL]; rfl
  have y10 : UL.getD 10 undef = .slice sp (Q * C) cap := by rw [← hUL]; rfl
  have y11 : UL.getD 11 undef = .int .i64 ((Q * C : Nat) : Int) := by rw [← hUL]; rfl
  have y12 : UL.getD 12 undef = .bool true := by rw [← hUL]; rfl
  have y13 : UL.getD 13 undef = .bool false := by rw [← hUL]; rfl
  have y14 : UL.getD 14 undef = .bool false := by rw [← hUL]; rfl
  have y15 : UL.getD 15 undef = .bool false := by rw [← hUL]; rfl
  have y16 : UL.getD 16 undef = .pointer (some ⟨w.heap.size + 1, 2, none⟩) := by rw [← hUL]; rfl
  have y17 : UL.getD 17 undef = .int .i64 (R : Int) := by rw [← hUL]; rfl
  have y18 : UL.getD 18 undef = .pointer (some ⟨g, 2, none⟩) := by rw [← hUL]; rfl
  have y19 : UL.getD 19 undef = .slice sp (Q * C) cap := by rw [← hUL]; rfl
  have y20 : UL.getD 20 undef = .int .i64 ((Q * C : Nat) : Int) := by rw [← hUL]; rfl
  have y21 : UL.getD 21 undef = .pointer (some ⟨g, 1, none⟩) := by rw [← hUL]; rfl
  have y22 : UL.getD 22 undef = .int .i64 (C : Int) := by rw [← hUL]; rfl
  have y23 : UL.getD 23 undef = .int .i64 (Q : Int) := by rw [← hUL]; rfl
  have y24 : UL.getD 24 undef = .bool false := by rw [← hUL]; rfl
  clear hUL
  refine Tn.wp_region_spec (C := fun Z => RxI w v.cells #[.int .i64 (K : Int), .int .i64 (Y0 : Int), .int .i64 (R : Int)] g #[.int .i64 (Q : Int), .int .i64 (C : Int), .slice sp (Q * C) cap] Z) (Le := fun _ _ => True) 25 (fun _ j _ v => v = UL.getD j undef) (by kernel_rfl) (by kernel_rfl) (RxI.later HI4.out ⟨rfl, rfl, rfl, Nat.le_refl _, fun _ _ => rfl⟩) (fun _ _ _ _ _ _ h => h) (fun _ _ _ _ _ _ h => h) (fun j v => v = UL.getD j undef) (fun _ _ _ _ h => h) (fun j => UL.getD j undef) (fun _ => rfl) ?_ ?_
  · intro u hu
    have e0 : u 0 = .pointer (some ⟨w.heap.size + 1, 2, none⟩) := (hu 0).trans y0
    have e1 : u 1 = .int .i64 (R : Int) := (hu 1).trans y1
    have e2 : u 2 = .pointer (some ⟨g, 0, none⟩) := (hu 2).trans y2
    have e3 : u 3 = .int .i64 (Q : Int) := (hu 3).trans y3
    have e4 : u 4 = .bool false := (hu 4).trans y4
    have e5 : u 5 = .bool false := (hu 5).trans y5
    have e6 : u 6 = .pointer (some ⟨g, 1, none⟩) := (hu 6).trans y6
    have e7 : u 7 = .int .i64 (C : Int) := (hu 7).trans y7
    have e8 : u 8 = .int .i64 (C1 : Int) := (hu 8).trans y8
    have e9 : u 9 = .pointer (some ⟨g, 2, none⟩) := (hu 9).trans y9
    have e10 : u 10 = .slice sp (Q * C) cap := (hu 10).trans y10
    have e11 : u 11 = .int .i64 ((Q * C : Nat) : Int) := (hu 11).trans y11
    have e12 : u 12 = .bool true := (hu 12).trans y12
    have e13 : u 13 = .bool false := (hu 13).trans y13
    have e14 : u 14 = .bool false := (hu 14).trans y14
    have e15 : u 15 = .bool false := (hu 15).trans y15
    have e16 : u 16 = .pointer (some ⟨w.heap.size + 1, 2, none⟩) := (hu 16).trans y16
    have e17 : u 17 = .int .i64 (R : Int) := (hu 17).trans y17
    have e18 : u 18 = .pointer (some ⟨g, 2, none⟩) := (hu 18).trans y18
    have e19 : u 19 = .slice sp (Q * C) cap := (hu 19).trans y19
    have e20 : u 20 = .int .i64 ((Q * C : Nat) : Int) := (hu 20).trans y20
    have e21 : u 21 = .pointer (some ⟨g, 1, none⟩) := (hu 21).trans y21
    have e22 : u 22 = .int .i64 (C : Int) := (hu 22).trans y22
    have e23 : u 23 = .int .i64 (Q : Int) := (hu 23).trans y23
    have e24 : u 24 = .bool false := (hu 24).trans y24
    simp only [List.take_succ_cons, List.take_zero]
    refine Tn.spec_cons (fun Y hC hd => ⟨by rfl, Tn.gives_val (.pointer (some ⟨w.heap.size + 1, 2, none⟩)) Y (Mk.exec_fldM 76 2 (.tmp 3) rfl _ _ rfl (by kernel_rfl)) ⟨hC, trivial, y0.symm⟩⟩) ?_
    simp only [Act.put, List.setIfInBounds_toArray, List.set_cons_succ, List.set_cons_zero, Nat.reduceAdd]
    rw [e0]
    refine Tn.spec_cons (fun Y hC hd => ⟨by rfl, Tn.gives_val (.int .i64 (R : Int)) Y (Bp.exec_load1 3 (.tmp 23) rfl ⟨w.heap.size + 1, 2, none⟩ rfl _ (hC.1.pc rfl) _ Try.underlying3 rfl) ⟨hC, trivial, y1.symm⟩⟩) ?_
    simp only [Act.put, List.setIfInBounds_toArray, List.set_cons_succ, List.set_cons_zero, Nat.reduceAdd]
    rw [e1]
    refine Tn.spec_cons (fun Y hC hd => ⟨by rfl, Tn.gives_val (.pointer (some ⟨g, 0, none⟩)) Y (Mk.exec_fldM 35 0 (.tmp 8) rfl _ _ rfl (by kernel_rfl)) ⟨hC, trivial, y2.symm⟩⟩) ?_
    simp only [Act.put, List.setIfInBounds_toArray, List.set_cons_succ, List.set_cons_zero, Nat.reduceAdd]
    rw [e2]
    refine Tn.spec_cons (fun Y hC hd => ⟨by rfl, Tn.gives_val (.int .i64 (Q : Int)) Y (Bp.exec_load1 3 (.tmp 25) rfl ⟨g, 0, none⟩ rfl _ (gC hC.2 rfl) _ Try.underlying3 rfl) ⟨hC, trivial, y3.symm⟩⟩) ?_
    simp only [Act.put, List.setIfInBounds_toArray, List.set_cons_succ, List.set_cons_zero, Nat.reduceAdd]
    rw [e3]
    refine Tn.spec_cons (fun Y hC hd => ⟨by rfl, Tn.gives_val (.bool false) Y (exec_geqM (.tmp 24) (.tmp 26) rfl (R : Int) (Q : Int) false rfl rfl HF1.out) ⟨hC, trivial, y4.symm⟩⟩) ?_
    simp only [Act.put, List.setIfInBounds_toArray, List.set_cons_succ, List.set_cons_zero, Nat.reduceAdd]
    rw [e4]
    refine Tn.spec_cons (fun Y hC hd => ⟨by rfl, Tn.gives_val (.bool false) Y (by rfl) ⟨hC, trivial, y5.symm⟩⟩) ?_
    simp only [Act.put, List.setIfInBounds_toArray, List.set_cons_succ, List.set_cons_zero, Nat.reduceAdd]
    rw [e5]
    refine Tn.spec_cons (fun Y hC hd => ⟨by rfl, Tn.gives_val (.pointer (some ⟨g, 1, none⟩)) Y (Mk.exec_fldM 35 1 (.tmp 8) rfl _ _ rfl (by kernel_rfl)) ⟨hC, trivial, y6.symm⟩⟩) ?_
    simp only [Act.put, List.setIfInBounds_toArray, List.set_cons_succ, List.set_cons_zero, Nat.reduceAdd]
    rw [e6]
    refine Tn.spec_cons (fun Y hC hd => ⟨by rfl, Tn.gives_val (.int .i64 (C : Int)) Y (Bp.exec_load1 3 (.tmp 29) rfl ⟨g, 1, none⟩ rfl _ (gC hC.2 rfl) _ Try.underlying3 rfl) ⟨hC, trivial, y7.symm⟩⟩) ?_
    simp only [Act.put, List.setIfInBounds_toArray, List.set_cons_succ, List.set_cons_zero, Nat.reduceAdd]
    rw [e7]
    refine Tn.spec_cons (fun Y hC hd => ⟨by rfl, Tn.gives_val (.int .i64 (C1 : Int)) Y (exec_subM (.tmp 30) (.const (.int .i64 1)) rfl (C : Int) 1 (C1 : Int) rfl rfl HF2.out) ⟨hC, trivial, y8.symm⟩⟩) ?_
    simp only [Act.put, List.setIfInBounds_toArray, List.set_cons_succ, List.set_cons_zero, Nat.reduceAdd]
    rw [e8]
    refine Tn.spec_cons (fun Y hC hd => ⟨by rfl, Tn.gives_val (.pointer (some ⟨g, 2, none⟩)) Y (Mk.exec_fldM 35 2 (.tmp 8) rfl _ _ rfl (by kernel_rfl)) ⟨hC, trivial, y9.symm⟩⟩) ?_
    simp only [Act.put, List.setIfInBounds_toArray, List.set_cons_succ, List.set_cons_zero, Nat.reduceAdd]
    rw [e9]
    refine Tn.spec_cons (fun Y hC hd => ⟨by rfl, Tn.gives_val (.slice sp (Q * C) cap) Y (Bp.exec_load1 23 (.tmp 32) rfl ⟨g, 2, none⟩ rfl _ (gC hC.2 rfl) _ Try.underlying23 rfl) ⟨hC, trivial, y10.symm⟩⟩) ?_
    simp only [Act.put, List.setIfInBounds_toArray, List.set_cons_succ, List.set_cons_zero, Nat.reduceAdd]
    rw [e10]
    refine Tn.spec_cons (fun Y hC hd => ⟨by rfl, Tn.gives_val (.int .i64 ((Q * C : Nat) : Int)) Y (Mk.exec_lenM (.tmp 33) rfl sp (Q * C) cap rfl) ⟨hC, trivial, y11.symm⟩⟩) ?_
    simp only [Act.put, List.setIfInBounds_toArray, List.set_cons_succ, List.set_cons_zero, Nat.reduceAdd]
    rw [e11]
    refine Tn.spec_cons (fun Y hC hd => ⟨by rfl, Tn.gives_call _ _ (Mk.exec_call2M 44 (.tmp 31) (.tmp 34) _ _ _ rfl rfl rfl (Tn.cf Try.func44 (by kernel_rfl) (by kernel_rfl) _ _)) ((HIp.out Y).mono fun e Y' ⟨e3, hb3⟩ => ⟨_, e3, by rw [hb3]; exact hC, trivial, y12.symm⟩)⟩) ?_
    simp only [Act.put, List.setIfInBounds_toArray, List.set_cons_succ, List.set_cons_zero, Nat.reduceAdd]
    rw [e12]
    refine Tn.spec_cons (fun Y hC hd => ⟨by rfl, Tn.gives_val (.bool false) Y (by rfl) ⟨hC, trivial, y13.symm⟩⟩) ?_
    simp only [Act.put, List.setIfInBounds_toArray, List.set_cons_succ, List.set_cons_zero, Nat.reduceAdd]
    rw [e13]
    refine Tn.spec_cons (fun Y hC hd => ⟨by rfl, Tn.gives_val (.bool false) Y (by rfl) ⟨hC, trivial, y14.symm⟩⟩) ?_
    simp only [Act.put, List.setIfInBounds_toArray, List.set_cons_succ, List.set_cons_zero, Nat.reduceAdd]
    rw [e14]
    refine Tn.spec_cons (fun Y hC hd => ⟨by rfl, Tn.gives_val (.bool false) Y (by rfl) ⟨hC, trivial, y15.symm⟩⟩) ?_
    simp only [Act.put, List.setIfInBounds_toArray, List.set_cons_succ, List.set_cons_zero, Nat.reduceAdd]
    rw [e15]
    refine Tn.spec_cons (fun Y hC hd => ⟨by rfl, Tn.gives_val (.pointer (some ⟨w.heap.size + 1, 2, none⟩)) Y (Mk.exec_fldM 76 2 (.tmp 3) rfl _ _ rfl (by kernel_rfl)) ⟨hC, trivial, y16.symm⟩⟩) ?_
    simp only [Act.put, List.setIfInBounds_toArray, List.set_cons_succ, List.set_cons_zero, Nat.reduceAdd]
    rw [e16]
    refine Tn.spec_cons (fun Y hC hd => ⟨by rfl, Tn.gives_val (.int .i64 (R : Int)) Y (Bp.exec_load1 3 (.tmp 39) rfl ⟨w.heap.size + 1, 2, none⟩ rfl _ (hC.1.pc rfl) _ Try.underlying3 rfl) ⟨hC, trivial, y17.symm⟩⟩) ?_
    simp only [Act.put, List.setIfInBounds_toArray, List.set_cons_succ, List.set_cons_zero, Nat.reduceAdd]
    rw [e17]
    refine Tn.spec_cons (fun Y hC hd => ⟨by rfl, Tn.gives_val (.pointer (some ⟨g, 2, none⟩)) Y (Mk.exec_fldM 35 2 (.tmp 8) rfl _ _ rfl (by kernel_rfl)) ⟨hC, trivial, y18.symm⟩⟩) ?_
    simp only [Act.put, List.setIfInBounds_toArray, List.set_cons_succ, List.set_cons_zero, Nat.reduceAdd]
    rw [e18]
    refine Tn.spec_cons (fun Y hC hd => ⟨by rfl, Tn.gives_val (.slice sp (Q * C) cap) Y (Bp.exec_load1 23 (.tmp 41) rfl ⟨g, 2, none⟩ rfl _ (gC hC.2 rfl) _ Try.underlying23 rfl) ⟨hC, trivial, y19.symm⟩⟩) ?_
    simp only [Act.put, List.setIfInBounds_toArray, List.set_cons_succ, List.set_cons_zero, Nat.reduceAdd]
    rw [e19]
    refine Tn.spec_cons (fun Y hC hd => ⟨by rfl, Tn.gives_val (.int .i64 ((Q * C : Nat) : Int)) Y (Mk.exec_lenM (.tmp 42) rfl sp (Q * C) cap rfl) ⟨hC, trivial, y20.symm⟩⟩) ?_
    simp only [Act.put, List.setIfInBounds_toArray, List.set_cons_succ, List.set_cons_zero, Nat.reduceAdd]
    rw [e20]
    refine Tn.spec_cons (fun Y hC hd => ⟨by rfl, Tn.gives_val (.pointer (some ⟨g, 1, none⟩)) Y (Mk.exec_fldM 35 1 (.tmp 8) rfl _ _ rfl (by kernel_rfl)) ⟨hC, trivial, y21.symm⟩⟩) ?_
    simp only [Act.put, List.setIfInBounds_toArray, List.set_cons_succ, List.set_cons_zero, Nat.reduceAdd]
    rw [e21]
    refine Tn.spec_cons (fun Y hC hd => ⟨by rfl, Tn.gives_val (.int .i64 (C : Int)) Y (Bp.exec_load1 3 (.tmp 44) rfl ⟨g, 1, none⟩ rfl _ (gC hC.2 rfl) _ Try.underlying3 rfl) ⟨hC, trivial, y22.symm⟩⟩) ?_
    simp only [Act.put, List.setIfInBounds_toArray, List.set_cons_succ, List.set_cons_zero, Nat.reduceAdd]
    rw [e22]
    refine Tn.spec_cons (fun Y hC hd => ⟨by rfl, Tn.gives_val (.int .i64 (Q : Int)) Y (exec_quoM (.tmp 43) (.tmp 45) rfl ((Q * C : Nat) : Int) (C : Int) (Q : Int) rfl rfl HF4.out HF3.out) ⟨hC, trivial, y23.symm⟩⟩) ?_
    simp only [Act.put, List.setIfInBounds_toArray, List.set_cons_succ, List.set_cons_zero, Nat.reduceAdd]
    rw [e23]
    refine Tn.spec_cons (fun Y hC hd => ⟨by rfl, Tn.gives_val (.bool false) Y (exec_geqM (.tmp 40) (.tmp 46) rfl (R : Int) (Q : Int) false rfl rfl HF1.out) ⟨hC, trivial, y24.symm⟩⟩) ?_
    simp only [Act.put, List.setIfInBounds_toArray, List.set_cons_succ, List.set_cons_zero, Nat.reduceAdd]
    rw [e24]
    exact Tn.spec_nil
  · intro u Y hu hC hP
    have e0 : u 0 = .pointer (some ⟨w.heap.size + 1, 2, none⟩) := (hu 0).trans y0
    have e1 : u 1 = .int .i64 (R : Int) := (hu 1).trans y1
    have e2 : u 2 = .pointer (some ⟨g, 0, none⟩) := (hu 2).trans y2
    have e3 : u 3 = .int .i64 (Q : Int) := (hu 3).trans y3
    have e4 : u 4 = .bool false := (hu 4).trans y4
    have e5 : u 5 = .bool false := (hu 5).trans y5
    have e6 : u 6 = .pointer (some ⟨g, 1, none⟩) := (hu 6).trans y6
    have e7 : u 7 = .int .i64 (C : Int) := (hu 7).trans y7
    have e8 : u 8 = .int .i64 (C1 : Int) := (hu 8).trans y8
    have e9 : u 9 = .pointer (some ⟨g, 2, none⟩) := (hu 9).trans y9
    have e10 : u 10 = .slice sp (Q * C) cap := (hu 10).trans y10
    have e11 : u 11 = .int .i64 ((Q * C : Nat) : Int) := (hu 11).trans y11
    have e12 : u 12 = .bool true := (hu 12).trans y12
    have e13 : u 13 = .bool false := (hu 13).trans y13
    have e14 : u 14 = .bool false := (hu 14).trans y14
    have e15 : u 15 = .bool false := (hu 15).trans y15
    have e16 : u 16 = .pointer (some ⟨w.heap.size + 1, 2, none⟩) := (hu 16).trans y16
    have e17 : u 17 = .int .i64 (R : Int) := (hu 17).trans y17
    have e18 : u 18 = .pointer (some ⟨g, 2, none⟩) := (hu 18).trans y18
    have e19 : u 19 = .slice sp (Q * C) cap := (hu 19).trans y19
    have e20 : u 20 = .int .i64 ((Q * C : Nat) : Int) := (hu 20).trans y20
    have e21 : u 21 = .pointer (some ⟨g, 1, none⟩) := (hu 21).trans y21
    have e22 : u 22 = .int .i64 (C : Int) := (hu 22).trans y22
    have e23 : u 23 = .int .i64 (Q : Int) := (hu 23).trans y23
    have e24 : u 24 = .bool false := (hu 24).trans y24
    simp only [List.take_succ_cons, List.take_zero, List.drop_succ_cons, List.drop_zero, Tn.putAll, Act.put, List.setIfInBounds_toArray, List.set_cons_succ, List.set_cons_zero, Nat.reduceAdd]
    rw [e0, e1, e2, e3, e4, e5, e6, e7, e8, e9, e10, e11, e12, e13, e14, e15, e16, e17, e18, e19, e20, e21, e22, e23, e24]
    clear e0 y0 e1 y1 e2 y2 e3 y3 e4 y4 e5 y5 e6 y6 e7 y7 e8 y8 e9 y9 e10 y10 e11 y11 e12 y12 e13 y13 e14 y14 e15 y15 e16 y16 e17 y17 e18 y18 e19 y19 e20 y20 e21 y21 e22 y22 e23 y23 e24 y24 hP hu
    have HI5 := Lib.hid hC
    have c0 := hC.1.pc (i := 2) (v := .int .i64 (R : Int)) rfl
    have c1 := gC hC.2 (i := 1) (v := .int .i64 (C : Int)) rfl
    have c2 := gC hC.2 (i := 2) (v := .slice sp (Q * C) cap) rfl
    clear hC HIp HF1 HF2 HF3 HF4 HN
    go_wp2_with fail
    go_quiet (fail)
    go_wp2_with fail

    refine (HCl.out _ (below_drewN HI5.out.1.below _)).mono ?_
    rintro e w6 ⟨s2, d2, rfl, hn2, hb2⟩
    have HB2 := Lib.hid ((below_drewN HI5.out.1.below _).trans (hb2.mono (below_drewN HI5.out.1.below _).size))
    have HN2 := Lib.hid hn2
    clear hb2 hn2
    go_wp2
    go_ret2
    exact ⟨s2, d2, rfl, HN2.out, HB2.out⟩
end Go.Proofs.Ytdffbjjiojheoaa.St
