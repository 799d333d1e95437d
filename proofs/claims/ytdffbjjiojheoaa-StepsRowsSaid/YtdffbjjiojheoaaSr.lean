/- Steps: the matrix that a part is a row of, and its row. -/
import Derived.Test.YtdffbjjiojheoaaSv
namespace Go.Proofs.Ytdffbjjiojheoaa.St
set_option maxRecDepth 100000
open Go.ChangeShapes Go.WideShapes Go.ChangeAt Go.RowKit Go.Shelf Go.Proofs.Ytdffbjjiojheoaa.Tn Go.Proofs.Ytdffbjjiojheoaa.Wg
/-- a part among a layer's cells -/
structure PartC (W : World) (cs : List Value) (k : Nat) (p : Mt) (R C : Int) (sp : Option Addr) (n cap : Nat) : Prop where
  vec : isVec k = true → cs[offK k]? = some (.slice sp n cap) ∧ R = 1 ∧ C = (n : Int)
  mat : isVec k = false → cs[offK k]? = some (.int .i64 R) ∧ cs[offK k + 1]? = some (.int .i64 C) ∧ cs[offK k + 2]? = some (.slice sp n cap) ∧ R = p.r ∧ C = p.c
  nums : Nums W sp cap p.l
  len : n = p.l.length
theorem lay_range {W : World} {sl : Option Addr} {n y : Nat} {ly : Nat → Nat → Mt} (hL : LaysAt W sl n ly) (hy : y < n) : ∃ b o cs, sl = some ⟨b, o, none⟩ ∧ cs.length = 23 ∧ W.rangeAt b (o + y * 23) cs ∧ ∀ k, 2 ≤ k → k ≤ 10 → ∃ R C sp m cap, PartC W cs k (ly y k) R C sp m cap := by
  obtain ⟨b, o, rfl, h⟩ := hL (by omega)
  have P := fun k h2 h10 => h y k hy h2 h10
  unfold PartAt at P
  have Q2 := P 2 (by omega) (by omega)
  rw [if_pos (show isVec 2 = true from rfl)] at Q2
  obtain ⟨s2, c2, x2_0, n2⟩ := Q2
  have Q3 := P 3 (by omega) (by omega)
  rw [if_neg (show ¬ isVec 3 = true by decide)] at Q3
  obtain ⟨x3_0, x3_1, s3, c3, x3_2, n3⟩ := Q3
  have Q4 := P 4 (by omega) (by omega)
  rw [if_neg (show ¬ isVec 4 = true by decide)] at Q4
  obtain ⟨x4_0, x4_1, s4, c4, x4_2, n4⟩ := Q4
  have Q5 := P 5 (by omega) (by omega)
  rw [if_neg (show ¬ isVec 5 = true by decide)] at Q5
  obtain ⟨x5_0, x5_1, s5, c5, x5_2, n5⟩ := Q5
  have Q6 := P 6 (by omega) (by omega)
  rw [if_neg (show ¬ isVec 6 = true by decide)] at Q6
  obtain ⟨x6_0, x6_1, s6, c6, x6_2, n6⟩ := Q6
  have Q7 := P 7 (by omega) (by omega)
  rw [if_pos (show isVec 7 = true from rfl)] at Q7
  obtain ⟨s7, c7, x7_0, n7⟩ := Q7
  have Q8 := P 8 (by omega) (by omega)
  rw [if_neg (show ¬ isVec 8 = true by decide)] at Q8
  obtain ⟨x8_0, x8_1, s8, c8, x8_2, n8⟩ := Q8
  have Q9 := P 9 (by omega) (by omega)
  rw [if_neg (show ¬ isVec 9 = true by decide)] at Q9
  obtain ⟨x9_0, x9_1, s9, c9, x9_2, n9⟩ := Q9
  have Q10 := P 10 (by omega) (by omega)
  rw [if_neg (show ¬ isVec 10 = true by decide)] at Q10
  obtain ⟨x10_0, x10_1, s10, c10, x10_2, n10⟩ := Q10
  clear P h hL
  refine ⟨b, o, [.slice s2 (ly y 2).l.length c2, .int .i64 (ly y 3).r, .int .i64 (ly y 3).c, .slice s3 (ly y 3).l.length c3, .int .i64 (ly y 4).r, .int .i64 (ly y 4).c, .slice s4 (ly y 4).l.length c4, .int .i64 (ly y 5).r, .int .i64 (ly y 5).c, .slice s5 (ly y 5).l.length c5, .int .i64 (ly y 6).r, .int .i64 (ly y 6).c, .slice s6 (ly y 6).l.length c6, .slice s7 (ly y 7).l.length c7, .int .i64 (ly y 8).r, .int .i64 (ly y 8).c, .slice s8 (ly y 8).l.length c8, .int .i64 (ly y 9).r, .int .i64 (ly y 9).c, .slice s9 (ly y 9).l.length c9, .int .i64 (ly y 10).r, .int .i64 (ly y 10).c, .slice s10 (ly y 10).l.length c10], rfl, rfl, ?_, ?_⟩
  · intro i u hu
    rcases i with _ | _ | _ | _ | _ | _ | _ | _ | _ | _ | _ | _ | _ | _ | _ | _ | _ | _ | _ | _ | _ | _ | _ | i
    · exact x2_0.trans hu
    · exact x3_0.trans hu
    · exact x3_1.trans hu
    · exact x3_2.trans hu
    · exact x4_0.trans hu
    · exact x4_1.trans hu
    · exact x4_2.trans hu
    · exact x5_0.trans hu
    · exact x5_1.trans hu
    · exact x5_2.trans hu
    · exact x6_0.trans hu
    · exact x6_1.trans hu
    · exact x6_2.trans hu
    · exact x7_0.trans hu
    · exact x8_0.trans hu
    · exact x8_1.trans hu
    · exact x8_2.trans hu
    · exact x9_0.trans hu
    · exact x9_1.trans hu
    · exact x9_2.trans hu
    · exact x10_0.trans hu
    · exact x10_1.trans hu
    · exact x10_2.trans hu
    · simp at hu
  · intro k h2 h10
    obtain rfl | rfl | rfl | rfl | rfl | rfl | rfl | rfl | rfl : k = 2 ∨ k = 3 ∨ k = 4 ∨ k = 5 ∨ k = 6 ∨ k = 7 ∨ k = 8 ∨ k = 9 ∨ k = 10 := by omega
    · exact ⟨_, _, _, _, _, fun _ => ⟨rfl, rfl, rfl⟩, fun h => (by cases h), n2, rfl⟩
    · exact ⟨_, _, _, _, _, fun h => (by cases h), fun _ => ⟨rfl, rfl, rfl, rfl, rfl⟩, n3, rfl⟩
    · exact ⟨_, _, _, _, _, fun h => (by cases h), fun _ => ⟨rfl, rfl, rfl, rfl, rfl⟩, n4, rfl⟩
    · exact ⟨_, _, _, _, _, fun h => (by cases h), fun _ => ⟨rfl, rfl, rfl, rfl, rfl⟩, n5, rfl⟩
    · exact ⟨_, _, _, _, _, fun h => (by cases h), fun _ => ⟨rfl, rfl, rfl, rfl, rfl⟩, n6, rfl⟩
    · exact ⟨_, _, _, _, _, fun _ => ⟨rfl, rfl, rfl⟩, fun h => (by cases h), n7, rfl⟩
    · exact ⟨_, _, _, _, _, fun h => (by cases h), fun _ => ⟨rfl, rfl, rfl, rfl, rfl⟩, n8, rfl⟩
    · exact ⟨_, _, _, _, _, fun h => (by cases h), fun _ => ⟨rfl, rfl, rfl, rfl, rfl⟩, n9, rfl⟩
    · exact ⟨_, _, _, _, _, fun h => (by cases h), fun _ => ⟨rfl, rfl, rfl, rfl, rfl⟩, n10, rfl⟩
theorem layM_any {W : World} (w : World) (cs : List Value) (k : Nat) (h2 : 2 ≤ k) (h10 : k ≤ 10) {p : Mt} {R C : Int} {sp : Option Addr} {n cap : Nat} (h : PartC W cs k p R C sp n cap) : Calls Try.prog 71 #[.agg cs.toArray, .int .i64 (k : Int)] w fun e w' => e = .returned (.agg #[.int .i64 R, .int .i64 C, .slice sp n cap]) ∧ Below w.heap.size w w' := by
  have hv := h.vec
  have hm := h.mat
  clear h
  obtain rfl | rfl | rfl | rfl | rfl | rfl | rfl | rfl | rfl : k = 2 ∨ k = 3 ∨ k = 4 ∨ k = 5 ∨ k = 6 ∨ k = 7 ∨ k = 8 ∨ k = 9 ∨ k = 10 := by omega
  · obtain ⟨a, rfl, rfl⟩ := hv rfl
    exact lay2_any w _ sp n cap (by rw [List.getElem?_toArray]; exact a)
  · obtain ⟨a, b, c, _, _⟩ := hm rfl
    exact lay3_any w _ sp n cap R C (by rw [List.getElem?_toArray]; exact a) (by rw [List.getElem?_toArray]; exact b) (by rw [List.getElem?_toArray]; exact c)
  · obtain ⟨a, b, c, _, _⟩ := hm rfl
    exact lay4_any w _ sp n cap R C (by rw [List.getElem?_toArray]; exact a) (by rw [List.getElem?_toArray]; exact b) (by rw [List.getElem?_toArray]; exact c)
  · obtain ⟨a, b, c, _, _⟩ := hm rfl
    exact lay5_any w _ sp n cap R C (by rw [List.getElem?_toArray]; exact a) (by rw [List.getElem?_toArray]; exact b) (by rw [List.getElem?_toArray]; exact c)
  · obtain ⟨a, b, c, _, _⟩ := hm rfl
    exact lay6_any w _ sp n cap R C (by rw [List.getElem?_toArray]; exact a) (by rw [List.getElem?_toArray]; exact b) (by rw [List.getElem?_toArray]; exact c)
  · obtain ⟨a, rfl, rfl⟩ := hv rfl
    exact lay7_any w _ sp n cap (by rw [List.getElem?_toArray]; exact a)
  · obtain ⟨a, b, c, _, _⟩ := hm rfl
    exact lay8_any w _ sp n cap R C (by rw [List.getElem?_toArray]; exact a) (by rw [List.getElem?_toArray]; exact b) (by rw [List.getElem?_toArray]; exact c)
  · obtain ⟨a, b, c, _, _⟩ := hm rfl
    exact lay9_any w _ sp n cap R C (by rw [List.getElem?_toArray]; exact a) (by rw [List.getElem?_toArray]; exact b) (by rw [List.getElem?_toArray]; exact c)
  · obtain ⟨a, b, c, _, _⟩ := hm rfl
    exact lay10_any w _ sp n cap R C (by rw [List.getElem?_toArray]; exact a) (by rw [List.getElem?_toArray]; exact b) (by rw [List.getElem?_toArray]; exact c)
/-- the boxes: the model, the part, what is answered -/
structure MoI (w : World) (vs ps ms : Array Value) (W : World) : Prop where
  below : Below w.heap.size w W
  vb : W.heap[w.heap.size]? = some (.cells vs 38 (0, 0))
  pb : W.heap[w.heap.size + 1]? = some (.cells ps 76 (0, 0))
  mb : W.heap[w.heap.size + 1 + 1]? = some (.cells ms 35 (0, 0))
theorem MoI.later {w W W' : World} {vs ps ms : Array Value} (h : MoI w vs ps ms W) (hb : Below W.heap.size W W') : MoI w vs ps ms W' :=
  ⟨h.below.trans (hb.mono h.below.size), (hb.block _ (Array.getElem?_eq_some_iff.1 h.vb).1).trans h.vb, (hb.block _ (Array.getElem?_eq_some_iff.1 h.pb).1).trans h.pb, (hb.block _ (Array.getElem?_eq_some_iff.1 h.mb).1).trans h.mb⟩
theorem MoI.put {w W : World} {vs ps ms : Array Value} (h : MoI w vs ps ms W) (ns : Array Value) : MoI w vs ps ns (W.setRow (w.heap.size + 1 + 1) ns) :=
  ⟨Mk.below_setRowM h.below (by omega) _, (setRow_other _ _ _ _ (by omega)).trans h.vb, (setRow_other _ _ _ _ (by omega)).trans h.pb, setRow_heap _ _ _ _ _ _ h.mb⟩
theorem MoI.made (w : World) (vs ps ms : Array Value) : MoI w vs ps ms (((w.alloc (.cells vs 38)).alloc (.cells ps 76)).alloc (.cells ms 35)) := by
  obtain ⟨O1, hO1⟩ : ∃ O, (Obj.cells vs 38 (0, 0)) = O := ⟨_, rfl⟩
  obtain ⟨O2, hO2⟩ : ∃ O, (Obj.cells ps 76 (0, 0)) = O := ⟨_, rfl⟩
  obtain ⟨O3, hO3⟩ : ∃ O, (Obj.cells ms 35 (0, 0)) = O := ⟨_, rfl⟩
  rw [hO1, hO2, hO3]
  have e1 : (w.alloc O1).heap.size = w.heap.size + 1 := by simp
  have e2 : ((w.alloc O1).alloc O2).heap.size = w.heap.size + 1 + 1 := by simp
  refine ⟨(((Below.refl _ _).alloc (Nat.le_refl _) _).alloc (by simp) _).alloc (by simp; omega) _, ?_, ?_, ?_⟩
  · rw [hO1, heap_alloc_old _ _ (by omega), heap_alloc_old _ _ (by omega)]; exact heap_alloc_new _ _
  · rw [hO2, heap_alloc_old _ _ (by omega), ← e1]; exact heap_alloc_new _ _
  · rw [hO3, ← e2]; exact heap_alloc_new _ _
theorem MoI.vc {w W : World} {vs ps ms : Array Value} (h : MoI w vs ps ms W) {i : Nat} {v : Value} (hv : vs[i]? = some v) : W.cell? ⟨w.heap.size, i, none⟩ = some v := by rw [cell_of_row _ _ _ _ _ _ h.vb]; exact hv
theorem MoI.pc {w W : World} {vs ps ms : Array Value} (h : MoI w vs ps ms W) {i : Nat} {v : Value} (hv : ps[i]? = some v) : W.cell? ⟨w.heap.size + 1, i, none⟩ = some v := by rw [cell_of_row _ _ _ _ _ _ h.pb]; exact hv
theorem sizeL23 : (Try.prog.info? 83).map (·.size) = some 23 := by kernel_rfl
theorem exec_midL {a : Act} {o : Oper} {W : World} (x : Operand) (ho : o.op = .load 83 x) (b q : Nat) (hx : a.eval x = .pointer (some ⟨b, q, none⟩)) (cs : List Value) (hc : W.rangeAt b q cs) (hl : cs.length = 23) : (execOp a.eval o).run Try.prog W = .ok (.value (.agg cs.toArray)) W := by
  unfold execOp
  simp only [ho, hx, Instr.loadAt, Instr.sureAddr, Sem.run_bind, Sem.run_pure, Result.andThen_ok, run_loadVar_mid W b q 83 cs _ hc Try.underlying83 rfl (by rw [hl]; exact sizeL23)]
theorem exec_atL {a : Act} {o : Oper} {W : World} (x y : Operand) (ho : o.op = .indexAddr 36 x y) (c b n cap i : Nat) (hx : a.eval x = .slice (some ⟨c, b, none⟩) n cap) (hy : a.eval y = .int .i64 (i : Int)) (hi : i < n) : (execOp a.eval o).run Try.prog W = .ok (.value (.pointer (some ⟨c, b + i * 23, none⟩))) W := by
  have hadd := Tn.add_plain c b (i * 23)
  cases hq : Try.prog.info? 83 with
  | none => have := sizeL23; simp [hq] at this
  | some j =>
    have hj : j.size = 23 := by simpa [hq] using sizeL23
    unfold execOp
    simp [ho, hx, hy, Instr.indexAt, asIntOf, run_underlying Try.underlying36, sizeOf, typeInfo, hq, hj, hi, hadd]
theorem moE_any (w : World) (v : Wv) (y r : Int) : Calls Try.prog 52 #[.agg v.cells, .agg #[.int .i64 1, .int .i64 y, .int .i64 r]] w fun e w' => e = .returned (.agg #[.int .i64 v.er, .int .i64 v.ec, .slice v.se v.ne v.ce]) ∧ Below w.heap.size w w' := by
  have HM := Lib.hid (MoI.made w v.cells #[.int .i64 1, .int .i64 y, .int .i64 r] #[.int .i64 0, .int .i64 0, .slice none 0 0])
  go_enter Try.func52, Try.ntmps52
  go_upto_region 1 with fail
  refine Mk.genM (Q := fun w => Code.wp _ _ _ _ w) _ (MoI w v.cells #[.int .i64 1, .int .i64 y, .int .i64 r] #[.int .i64 0, .int .i64 0, .slice none 0 0]) HM.out ?_
  clear HM
  intro w1 k1
  have HI := Lib.hid k1
  have p0 := k1.pc (i := 0) (v := .int .i64 1) rfl
  have HG := Lib.hid (range3 (k1.vc (i := 8) (v := .int .i64 v.er) rfl) (k1.vc (i := 8 + 1) (v := .int .i64 v.ec) rfl) (k1.vc (i := 8 + 2) (v := .slice v.se v.ne v.ce) rfl))
  clear k1
  go_wp2_with (first
    | (refine wpList_load_mid rfl 35 (.tmp 9) rfl w.heap.size 8 rfl [.int .i64 v.er, .int .i64 v.ec, .slice v.se v.ne v.ce] _ HG.out Try.underlying35 rfl Mk.size_matM ?_)
    | (refine wpList_store_row rfl 35 (.tmp 4) (.tmp 10) rfl (w.heap.size + 1 + 1) #[.int .i64 v.er, .int .i64 v.ec, .slice v.se v.ne v.ce] rfl rfl 35 _ HI.out.mb Mk.size_matM rfl (mat_one _ _ _ _ _) ?_))
  try simp only [Act.put, List.setIfInBounds_toArray, List.set_cons_succ, List.set_cons_zero]
  exact bodyPost_ret (v := .agg #[.int .i64 v.er, .int .i64 v.ec, .slice v.se v.ne v.ce]) (Mk.results_cellM Try.results52 _ _ (w.heap.size + 1 + 1) 35 _ (0, 0) _ rfl (HI.out.put _).mb Try.underlying35 rfl Mk.size_matM) rfl ⟨rfl, (HI.out.put _).below⟩
theorem moO_any (w : World) (v : Wv) (y r : Int) : Calls Try.prog 52 #[.agg v.cells, .agg #[.int .i64 12, .int .i64 y, .int .i64 r]] w fun e w' => e = .returned (.agg #[.int .i64 v.xr, .int .i64 v.xc, .slice v.so v.no v.co]) ∧ Below w.heap.size w w' := by
  have HM := Lib.hid (MoI.made w v.cells #[.int .i64 12, .int .i64 y, .int .i64 r] #[.int .i64 0, .int .i64 0, .slice none 0 0])
  go_enter Try.func52, Try.ntmps52
  go_upto_region 1 with fail
  refine Mk.genM (Q := fun w => Code.wp _ _ _ _ w) _ (MoI w v.cells #[.int .i64 12, .int .i64 y, .int .i64 r] #[.int .i64 0, .int .i64 0, .slice none 0 0]) HM.out ?_
  clear HM
  intro w1 k1
  have HI := Lib.hid k1
  have p0 := k1.pc (i := 0) (v := .int .i64 12) rfl
  have HG := Lib.hid (range3 (k1.vc (i := 13) (v := .int .i64 v.xr) rfl) (k1.vc (i := 13 + 1) (v := .int .i64 v.xc) rfl) (k1.vc (i := 13 + 2) (v := .slice v.so v.no v.co) rfl))
  clear k1
  go_wp2_with (first
    | (refine wpList_load_mid rfl 35 (.tmp 18) rfl w.heap.size 13 rfl [.int .i64 v.xr, .int .i64 v.xc, .slice v.so v.no v.co] _ HG.out Try.underlying35 rfl Mk.size_matM ?_)
    | (refine wpList_store_row rfl 35 (.tmp 4) (.tmp 19) rfl (w.heap.size + 1 + 1) #[.int .i64 v.xr, .int .i64 v.xc, .slice v.so v.no v.co] rfl rfl 35 _ HI.out.mb Mk.size_matM rfl (mat_one _ _ _ _ _) ?_))
  try simp only [Act.put, List.setIfInBounds_toArray, List.set_cons_succ, List.set_cons_zero]
  exact bodyPost_ret (v := .agg #[.int .i64 v.xr, .int .i64 v.xc, .slice v.so v.no v.co]) (Mk.results_cellM Try.results52 _ _ (w.heap.size + 1 + 1) 35 _ (0, 0) _ rfl (HI.out.put _).mb Try.underlying35 rfl Mk.size_matM) rfl ⟨rfl, (HI.out.put _).below⟩
theorem moN_any (w : World) (v : Wv) (y r : Int) : Calls Try.prog 52 #[.agg v.cells, .agg #[.int .i64 11, .int .i64 y, .int .i64 r]] w fun e w' => e = .returned (.agg #[.int .i64 1, .int .i64 (v.nn : Int), .slice v.sn v.nn v.cn]) ∧ Below w.heap.size w w' := by
  have HO := Lib.hid (fun W => oneRow_any W v.sn v.nn v.cn)
  have HM := Lib.hid (MoI.made w v.cells #[.int .i64 11, .int .i64 y, .int .i64 r] #[.int .i64 0, .int .i64 0, .slice none 0 0])
  go_enter Try.func52, Try.ntmps52
  go_upto_region 1 with fail
  refine Mk.genM (Q := fun w => Code.wp _ _ _ _ w) _ (MoI w v.cells #[.int .i64 11, .int .i64 y, .int .i64 r] #[.int .i64 0, .int .i64 0, .slice none 0 0]) HM.out ?_
  clear HM
  intro w1 k1
  have HI := Lib.hid k1
  have p0 := k1.pc (i := 0) (v := .int .i64 11) rfl
  have c0 := k1.vc (i := 12) (v := .slice v.sn v.nn v.cn) rfl
  clear k1
  go_wp2_with (first
    | (go_at_call 70; refine (HO.out _).mono ?_; rintro e w2 ⟨rfl, hb2⟩; have HI2 := Lib.hid (HI.out.later hb2); clear hb2)
    | (refine wpList_store_row rfl 35 (.tmp 4) (.tmp 15) rfl (w.heap.size + 1 + 1) #[.int .i64 1, .int .i64 (v.nn : Int), .slice v.sn v.nn v.cn] rfl rfl 35 _ HI2.out.mb Mk.size_matM rfl (mat_one _ _ _ _ _) ?_))
  exact bodyPost_ret (v := .agg #[.int .i64 1, .int .i64 (v.nn : Int), .slice v.sn v.nn v.cn]) (Mk.results_cellM Try.results52 _ _ (w.heap.size + 1 + 1) 35 _ (0, 0) _ rfl (HI2.out.put _).mb Try.underlying35 rfl Mk.size_matM) rfl ⟨rfl, (HI2.out.put _).below⟩
theorem moL_any (w : World) (v : Wv) (k y : Nat) (r : Int) (h2 : 2 ≤ k) (h10 : k ≤ 10) (hy : y < v.nl) (b o : Nat) (cs : List Value) (hs : v.sl = some ⟨b, o, none⟩) (hc : cs.length = 23) (hr : w.rangeAt b (o + y * 23) cs) {W0 : World} {p : Mt} {R C : Int} {sp : Option Addr} {n cap : Nat} (h : PartC W0 cs k p R C sp n cap) :
    Calls Try.prog 52 #[.agg v.cells, .agg #[.int .i64 (k : Int), .int .i64 (y : Int), .int .i64 r]] w fun e w' => e = .returned (.agg #[.int .i64 R, .int .i64 C, .slice sp n cap]) ∧ Below w.heap.size w w' := by
  have HL := Lib.hid (fun W => layM_any W cs k h2 h10 h)
  have d1 : decide ((k : Int) = 1) = false := by simp; omega
  have d2 : decide ((k : Int) = 11) = false := by simp; omega
  have d3 : decide ((k : Int) = 12) = false := by simp; omega
  have d4 : decide ((v.nl : Int) ≤ (y : Int)) = false := by simp; omega
  have e1 : ((k : Int) == 1) = false := by simp; omega
  have e2 : ((k : Int) == 11) = false := by simp; omega
  have e3 : ((k : Int) == 12) = false := by simp; omega
  have d5 : decide (v.nl ≤ y) = false := by simp; omega
  have HM := Lib.hid (MoI.made w v.cells #[.int .i64 (k : Int), .int .i64 (y : Int), .int .i64 r] #[.int .i64 0, .int .i64 0, .slice none 0 0])
  go_enter Try.func52, Try.ntmps52
  go_upto_region 1 with fail
  refine Mk.genM (Q := fun w => Code.wp _ _ _ _ w) _ (MoI w v.cells #[.int .i64 (k : Int), .int .i64 (y : Int), .int .i64 r] #[.int .i64 0, .int .i64 0, .slice none 0 0]) HM.out ?_
  clear HM
  intro w1 k1
  have HI := Lib.hid k1
  have p0 := k1.pc (i := 0) (v := .int .i64 (k : Int)) rfl
  have p1 := k1.pc (i := 1) (v := .int .i64 (y : Int)) rfl
  have c0 := k1.vc (i := 11) (v := .slice v.sl v.nl v.cl) rfl
  rw [hs] at c0
  have HR : Hid (∀ Y, Below w.heap.size w Y → Y.rangeAt b (o + y * 23) cs) := Lib.hid (fun Y hb i u hu => (hb.cell (block_lt_of_cell (hr i u hu))).trans (hr i u hu))
  have HV : Hid (v.cells[11]? = some (.slice (some ⟨b, o, none⟩) v.nl v.cl)) := Lib.hid (by rw [← hs]; rfl)
  have HY : Hid (y < v.nl) := hy
  have HC : Hid (cs.length = 23) := hc
  clear k1 hs hr hy hc h h2 h10
  go_upto_region 10 with fail
  obtain ⟨UL, hUL⟩ : ∃ UL : List Value, ([.pointer (some ⟨w.heap.size, 11, none⟩), .slice (some ⟨b, o, none⟩) v.nl v.cl, .pointer (some ⟨w.heap.size + 1, 1, none⟩), .int .i64 (y : Int), .pointer (some ⟨b, o + y * 23, none⟩), .agg cs.toArray, .pointer (some ⟨w.heap.size + 1, 0, none⟩), .int .i64 (k : Int), .agg #[.int .i64 R, .int .i64 C, .slice sp n cap]] : List Value) = UL := ⟨_, rfl⟩
  have y0 : UL.getD 0 undef = .pointer (some ⟨w.heap.size, 11, none⟩) := by rw [← hUL]; rfl
  have y1 : UL.getD 1 undef = .slice (some ⟨b, o, none⟩) v.nl v.cl := by rw [← hUL]; rfl
  have y2 : UL.getD 2 undef = .pointer (some ⟨w.heap.size + 1, 1, none⟩) := by rw [← hUL]; rfl
  have y3 : UL.getD 3 undef = .int .i64 (y : Int) := by rw [← hUL]; rfl
  have y4 : UL.getD 4 undef = .pointer (some ⟨b, o + y * 23, none⟩) := by rw [← hUL]; rfl
  have y5 : UL.getD 5 undef = .agg cs.toArray := by rw [← hUL]; rfl
  have y6 : UL.getD 6 undef = .pointer (some ⟨w.heap.size + 1, 0, none⟩) := by rw [← hUL]; rfl
  have y7 : UL.getD 7 undef = .int .i64 (k : Int) := by rw [← hUL]; rfl
  have y8 : UL.getD 8 undef = .agg #[.int .i64 R, .int .i64 C, .slice sp n cap] := by rw [← hUL]; rfl
  clear hUL
  refine Tn.wp_region_spec (C := fun Y => MoI w v.cells #[.int .i64 (k : Int), .int .i64 (y : Int), .int .i64 r] #[.int .i64 0, .int .i64 0, .slice none 0 0] Y) (Le := fun _ _ => True) 9 (fun _ j _ v => v = UL.getD j undef) (by kernel_rfl) (by kernel_rfl) (HI.out.later ⟨rfl, rfl, rfl, Nat.le_refl _, fun _ _ => rfl⟩) (fun _ _ _ _ _ _ h => h) (fun _ _ _ _ _ _ h => h) (fun j v => v = UL.getD j undef) (fun _ _ _ _ h => h) (fun j => UL.getD j undef) (fun _ => rfl) ?_ ?_
  · intro u hu
    have e0 : u 0 = .pointer (some ⟨w.heap.size, 11, none⟩) := (hu 0).trans y0
    have e1 : u 1 = .slice (some ⟨b, o, none⟩) v.nl v.cl := (hu 1).trans y1
    have e2 : u 2 = .pointer (some ⟨w.heap.size + 1, 1, none⟩) := (hu 2).trans y2
    have e3 : u 3 = .int .i64 (y : Int) := (hu 3).trans y3
    have e4 : u 4 = .pointer (some ⟨b, o + y * 23, none⟩) := (hu 4).trans y4
    have e5 : u 5 = .agg cs.toArray := (hu 5).trans y5
    have e6 : u 6 = .pointer (some ⟨w.heap.size + 1, 0, none⟩) := (hu 6).trans y6
    have e7 : u 7 = .int .i64 (k : Int) := (hu 7).trans y7
    have e8 : u 8 = .agg #[.int .i64 R, .int .i64 C, .slice sp n cap] := (hu 8).trans y8
    simp only [List.take_succ_cons, List.take_zero]
    refine Tn.spec_cons (fun Y hC hd => ⟨by rfl, Tn.gives_val (.pointer (some ⟨w.heap.size, 11, none⟩)) Y (Mk.exec_fldM 38 4 (.tmp 2) rfl _ _ rfl (by kernel_rfl)) ⟨hC, trivial, y0.symm⟩⟩) ?_
    simp only [Act.put, List.setIfInBounds_toArray, List.set_cons_succ, List.set_cons_zero, Nat.reduceAdd]
    rw [e0]
    refine Tn.spec_cons (fun Y hC hd => ⟨by rfl, Tn.gives_val (.slice (some ⟨b, o, none⟩) v.nl v.cl) Y (Bp.exec_load1 36 (.tmp 27) rfl ⟨w.heap.size, 11, none⟩ rfl _ (hC.vc HV.out) _ Try.underlying36 rfl) ⟨hC, trivial, y1.symm⟩⟩) ?_
    simp only [Act.put, List.setIfInBounds_toArray, List.set_cons_succ, List.set_cons_zero, Nat.reduceAdd]
    rw [e1]
    refine Tn.spec_cons (fun Y hC hd => ⟨by rfl, Tn.gives_val (.pointer (some ⟨w.heap.size + 1, 1, none⟩)) Y (Mk.exec_fldM 76 1 (.tmp 3) rfl _ _ rfl (by kernel_rfl)) ⟨hC, trivial, y2.symm⟩⟩) ?_
    simp only [Act.put, List.setIfInBounds_toArray, List.set_cons_succ, List.set_cons_zero, Nat.reduceAdd]
    rw [e2]
    refine Tn.spec_cons (fun Y hC hd => ⟨by rfl, Tn.gives_val (.int .i64 (y : Int)) Y (Bp.exec_load1 3 (.tmp 29) rfl ⟨w.heap.size + 1, 1, none⟩ rfl _ (hC.pc rfl) _ Try.underlying3 rfl) ⟨hC, trivial, y3.symm⟩⟩) ?_
    simp only [Act.put, List.setIfInBounds_toArray, List.set_cons_succ, List.set_cons_zero, Nat.reduceAdd]
    rw [e3]
    refine Tn.spec_cons (fun Y hC hd => ⟨by rfl, Tn.gives_val (.pointer (some ⟨b, o + y * 23, none⟩)) Y (exec_atL (.tmp 28) (.tmp 30) rfl b o v.nl v.cl y rfl rfl HY.out) ⟨hC, trivial, y4.symm⟩⟩) ?_
    simp only [Act.put, List.setIfInBounds_toArray, List.set_cons_succ, List.set_cons_zero, Nat.reduceAdd]
    rw [e4]
    refine Tn.spec_cons (fun Y hC hd => ⟨by rfl, Tn.gives_val (.agg cs.toArray) Y (exec_midL (.tmp 31) rfl b (o + y * 23) rfl cs (HR.out Y hC.below) HC.out) ⟨hC, trivial, y5.symm⟩⟩) ?_
    simp only [Act.put, List.setIfInBounds_toArray, List.set_cons_succ, List.set_cons_zero, Nat.reduceAdd]
    rw [e5]
    refine Tn.spec_cons (fun Y hC hd => ⟨by rfl, Tn.gives_val (.pointer (some ⟨w.heap.size + 1, 0, none⟩)) Y (Mk.exec_fldM 76 0 (.tmp 3) rfl _ _ rfl (by kernel_rfl)) ⟨hC, trivial, y6.symm⟩⟩) ?_
    simp only [Act.put, List.setIfInBounds_toArray, List.set_cons_succ, List.set_cons_zero, Nat.reduceAdd]
    rw [e6]
    refine Tn.spec_cons (fun Y hC hd => ⟨by rfl, Tn.gives_val (.int .i64 (k : Int)) Y (Bp.exec_load1 3 (.tmp 33) rfl ⟨w.heap.size + 1, 0, none⟩ rfl _ (hC.pc rfl) _ Try.underlying3 rfl) ⟨hC, trivial, y7.symm⟩⟩) ?_
    simp only [Act.put, List.setIfInBounds_toArray, List.set_cons_succ, List.set_cons_zero, Nat.reduceAdd]
    rw [e7]
    refine Tn.spec_cons (fun Y hC hd => ⟨by rfl, Tn.gives_call _ _ (Mk.exec_call2M 71 (.tmp 32) (.tmp 34) _ _ _ rfl rfl rfl (Tn.cf Try.func71 (by kernel_rfl) (by kernel_rfl) _ _)) ((HL.out Y).mono fun e Y' ⟨e3, hb3⟩ => ⟨_, e3, hC.later hb3, trivial, y8.symm⟩)⟩) ?_
    simp only [Act.put, List.setIfInBounds_toArray, List.set_cons_succ, List.set_cons_zero, Nat.reduceAdd]
    rw [e8]
    exact Tn.spec_nil
  · intro u Y hu hC hP
    have e0 : u 0 = .pointer (some ⟨w.heap.size, 11, none⟩) := (hu 0).trans y0
    have e1 : u 1 = .slice (some ⟨b, o, none⟩) v.nl v.cl := (hu 1).trans y1
    have e2 : u 2 = .pointer (some ⟨w.heap.size + 1, 1, none⟩) := (hu 2).trans y2
    have e3 : u 3 = .int .i64 (y : Int) := (hu 3).trans y3
    have e4 : u 4 = .pointer (some ⟨b, o + y * 23, none⟩) := (hu 4).trans y4
    have e5 : u 5 = .agg cs.toArray := (hu 5).trans y5
    have e6 : u 6 = .pointer (some ⟨w.heap.size + 1, 0, none⟩) := (hu 6).trans y6
    have e7 : u 7 = .int .i64 (k : Int) := (hu 7).trans y7
    have e8 : u 8 = .agg #[.int .i64 R, .int .i64 C, .slice sp n cap] := (hu 8).trans y8
    simp only [List.take_succ_cons, List.take_zero, List.drop_succ_cons, List.drop_zero, Tn.putAll, Act.put, List.setIfInBounds_toArray, List.set_cons_succ, List.set_cons_zero, Nat.reduceAdd]
    rw [e0, e1, e2, e3, e4, e5, e6, e7, e8]
    clear e0 y0 e1 y1 e2 y2 e3 y3 e4 y4 e5 y5 e6 y6 e7 y7 e8 y8 hP hu
    have HI2 := Lib.hid hC
    clear hC
    go_wp2_with (first
    | (refine wpList_store_row rfl 35 (.tmp 4) (.tmp 35) rfl (w.heap.size + 1 + 1) #[.int .i64 R, .int .i64 C, .slice sp n cap] rfl rfl 35 _ HI2.out.mb Mk.size_matM rfl (mat_one _ _ _ _ _) ?_))
    exact bodyPost_ret (v := .agg #[.int .i64 R, .int .i64 C, .slice sp n cap]) (Mk.results_cellM Try.results52 _ _ (w.heap.size + 1 + 1) 35 _ (0, 0) _ rfl (HI2.out.put _).mb Try.underlying35 rfl Mk.size_matM) rfl ⟨rfl, (HI2.out.put _).below⟩
end Go.Proofs.Ytdffbjjiojheoaa.St
