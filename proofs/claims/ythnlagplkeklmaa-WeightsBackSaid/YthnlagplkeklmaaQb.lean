import Derived.Test.YthnlagplkeklmaaQa
import Derived.Test.YthnlagplkeklmaaCe
namespace Go.Proofs.Ythnlagplkeklmaa.Wg
set_option maxRecDepth 100000
open Go.ChangeShapes Go.WideShapes Go.ChangeAt Go.RowKit Go.Shelf Go.Proofs.Ythnlagplkeklmaa.Tn
attribute [local go_sem] Oper.semAt_some

/-! ### WeightsBack -/
theorem wpList_load_rowG {P : Program} {ops : Array Oper} {rest : List Oper} {o : Oper} {a : Act} {w : World} {Q : Exit → Act → World → Prop} (hw : Region.wanted o (yielded ops a.tmps) = true) (ty : TypeId) (x : Operand) (ho : o.op = .load ty x)
    (g : Nat) (hx : a.eval x = .pointer (some ⟨g, 0, none⟩)) (t : TypeId) (cs : Array Value) (fr : Nat × Nat) (d : TypeDesc) (hg : w.heap[g]? = some (.cells cs t fr))
    (hu : P.underlying ty = some d) (hd : (match d with | .struct _ | .array _ _ => true | _ => false) = true) (hi : (P.info? ty).map (·.size) = some cs.size)
    (h : wpList P ops Q rest (a.put o.dst (.agg cs)) w) : wpList P ops Q (o :: rest) a w :=
  wpList_step fun K hK => by rw [if_pos hw]; exact wp_load_row ty x ho g hx t cs fr d hg hu hd hi (hK _ _ h)
structure BkI (w : World) (v : Wv) (k y r : Int) (W : World) : Prop where
  below : Below w.heap.size w W
  row : W.heap[w.heap.size]? = some (.cells v.cells 31 (0, 0))
  prt : W.heap[w.heap.size + 1]? = some (.cells #[.int .i64 k, .int .i64 y, .int .i64 r] 33 (0, 0))
section
variable {w W W' : World} {v : Wv} {k y r : Int}
theorem BkI.later (h : BkI w v k y r W) (hb : Below W.heap.size W W') : BkI w v k y r W' := ⟨h.below.trans (hb.mono h.below.size), (hb.block _ (Array.getElem?_eq_some_iff.1 h.row).1).trans h.row, (hb.block _ (Array.getElem?_eq_some_iff.1 h.prt).1).trans h.prt⟩
theorem BkI.new (w : World) (v : Wv) (k y r : Int) : BkI w v k y r ((w.alloc (.cells v.cells 31)).alloc (.cells #[.int .i64 k, .int .i64 y, .int .i64 r] 33)) := by
  have h1 : Below w.heap.size w (w.alloc (.cells v.cells 31)) := (Below.refl _ _).alloc (Nat.le_refl _) _
  have r1 := heap_alloc_new w (.cells v.cells 31)
  have s1 : (w.alloc (.cells v.cells 31)).heap.size = w.heap.size + 1 := by simp
  obtain ⟨w1, e1⟩ : ∃ w1, w.alloc (.cells v.cells 31) = w1 := ⟨_, rfl⟩
  rw [e1] at h1 r1 s1 ⊢
  have h2 : Below w1.heap.size w1 (w1.alloc (.cells #[.int .i64 k, .int .i64 y, .int .i64 r] 33)) := (Below.refl _ _).alloc (Nat.le_refl _) _
  have r2 := heap_alloc_new w1 (.cells #[.int .i64 k, .int .i64 y, .int .i64 r] 33)
  rw [s1] at r2
  exact ⟨h1.trans (h2.mono h1.size), (h2.block _ (by omega)).trans r1, r2⟩
theorem BkI.cell (h : BkI w v k y r W) (j : Nat) : W.cell? ⟨w.heap.size, j, none⟩ = v.cells[j]? := by rw [cell_of_row _ _ _ _ _ _ h.row]
theorem BkI.pt (h : BkI w v k y r W) (j : Nat) : W.cell? ⟨w.heap.size + 1, j, none⟩ = (#[.int .i64 k, .int .i64 y, .int .i64 r] : Array Value)[j]? := by rw [cell_of_row _ _ _ _ _ _ h.prt]
end
theorem Twin.symm {a b : Md} (h : Twin a b) : Twin b a := ⟨h.cfg.symm, h.al.symm, h.ps.symm, h.n.symm, fun k y hk => by
  obtain ⟨h1, h2⟩ := h.part k y (by rw [h.n]; exact hk)
  exact ⟨h1.symm, fun hv => ⟨(h2 hv).1.symm, (h2 hv).2.symm⟩⟩⟩
theorem run_buildPt (k y : Int) (W : World) : (Instr.build 52 #[(0, .int .i64 k), (1, .int .i64 y)]).run Try.prog W = .ok (.agg (prC k y 0 0 false)) W := by kernel_rfl
theorem wpList_buildPt {w : World} {ops : Array Oper} {rest : List Oper} {o : Oper} {a : Act} {Q : Exit → Act → World → Prop} (hg : o.guard = none) (x y : Operand) (ho : o.op = .build 52 #[(0, x), (1, y)]) (u v : Int)
    (hx : a.eval x = .int .i64 u) (hy : a.eval y = .int .i64 v) (h : wpList Try.prog ops Q rest (a.put o.dst (.agg (prC u v 0 0 false))) w) : wpList Try.prog ops Q (o :: rest) a w := by
  refine wpList_plain hg fun K hK => ?_
  unfold Oper.wp
  simp [execOp, ho, hx, hy, run_buildPt, Result.andThen]
  exact hK _ _ h
theorem run_mid (sp : Option Addr) (m cap k h : Nat) (hk : k ≤ h) (hh : h ≤ cap) (w : World) : (Instr.slice 26 (.slice sp m cap) (some (.int .i64 (k : Int))) (some (.int .i64 (h : Int))) none).run Try.prog w = .ok (.slice (cutA sp cap k) (h - k) (cap - k)) w := by
  cases hq : Try.prog.info? 3 with
  | none => have := size3; simp [hq] at this
  | some i =>
    have hi : i.size = 1 := by have := size3; simpa [hq] using this
    simp only [Instr.slice, run_underlying Try.underlying26, Instr.sliceBounds, Instr.sliceBound, asIntOf, sizeOf, typeInfo, Sem.run_bind, Result.andThen_ok, Sem.run_pure, Sem.run_ite]
    simp [hq, hi, hk, hh, cutA]
theorem nums_mid {W : World} {sp : Option Addr} {cap : Nat} {l : List Int} (h : Nums W sp cap l) (C q : Nat) (hC : 1 ≤ C) (hq : q * C + C ≤ l.length) : Cd.Nums W (cutA sp cap (q * C)) (cap - q * C) ((l.drop (q * C)).take C) := by
  have h1 := nums_row h C q hC hq
  have hle : l.length ≤ cap := by simpa using h.le
  refine ⟨by simp; omega, by have := h.max; omega, fun e => ?_, h1.lies⟩
  exfalso
  unfold cutA at e
  rw [if_neg (by omega)] at e
  have := h.nul (by simpa using e)
  omega
structure LfAt (W : World) (sL : Option Addr) (LN A : Nat) (l : List Int) (g o : Nat) (s2 : Option Addr) (c2 : Nat) : Prop where
  e : sL = some ⟨g, o, none⟩
  cell : W.cell? ⟨g, o + A, none⟩ = some (.slice s2 l.length c2)
  byt : Cd.Bytes W s2 c2 l
theorem lf_at {W : World} {sL : Option Addr} {capL LN A : Nat} {LD : List (List Int)} {l : List Int} (h : Cd.Pieces W sL capL LD) (hl : LD[A]? = some l) : ∃ g o s2 c2, LfAt W sL LN A l g o s2 c2 := by
  obtain ⟨c, o, s2, c2, e, h1, h2⟩ := h.at_ A (List.getElem?_eq_some_iff.1 hl).1
  have hd : LD.getD A [] = l := by rw [List.getD_eq_getElem?_getD, hl]; rfl
  rw [hd] at h1 h2
  exact ⟨c, o, s2, c2, e, h1, h2⟩
theorem LfAt.later {W W' : World} {sL : Option Addr} {LN A : Nat} {l : List Int} {g o : Nat} {s2 : Option Addr} {c2 : Nat} (h : LfAt W sL LN A l g o s2 c2) (hb : Below W.heap.size W W') : LfAt W' sL LN A l g o s2 c2 := ⟨h.e, (hb.cell (block_lt_of_cell h.cell)).trans h.cell, h.byt.below hb⟩
theorem numsQ_length (l : List Int) : (Cd.nums l).length = 8 * l.length := by
  induction l with
  | nil => rfl
  | cons a t ih =>
    have h : Cd.nums (a :: t) = Cd.be 8 a ++ Cd.nums t := rfl
    rw [h, List.length_append, ih, Cd.be_length, List.length_cons]
    omega
theorem run_fieldG (r c : Int) (sp : Option Addr) (n cap : Nat) (W : World) : (Instr.field 49 (.agg (gvC r c sp n cap)) 2).run Try.prog W = .ok (.slice sp n cap) W := by kernel_rfl
theorem exec_fieldG {a : Act} {o : Oper} {W : World} (x : Operand) (ho : o.op = .field 49 x 2) (r c : Int) (sp : Option Addr) (n cap : Nat) (hx : a.eval x = .agg (gvC r c sp n cap)) : (execOp a.eval o).run Try.prog W = .ok (.value (.slice sp n cap)) W := by
  unfold execOp
  simp only [ho, hx, Sem.run_bind, run_fieldG, Result.andThen_ok, Sem.run_pure]
theorem run_pf2 (g : Nat) (W : World) : (Instr.fieldAt 33 (.pointer (some ⟨g, 0, none⟩)) 2).run Try.prog W = .ok (.pointer (some ⟨g, 2, none⟩)) W := by kernel_rfl
theorem exec_pf2 {a : Act} {o : Oper} {W : World} (x : Operand) (ho : o.op = .fieldAddr 33 x 2) (g : Nat) (hx : a.eval x = .pointer (some ⟨g, 0, none⟩)) : (execOp a.eval o).run Try.prog W = .ok (.value (.pointer (some ⟨g, 2, none⟩))) W := by
  unfold execOp
  simp only [ho, hx, Sem.run_bind, run_pf2, Result.andThen_ok, Sem.run_pure]
set_option maxHeartbeats 16000000 in
theorem back_walk (w : World) (v : Wv) (m : Md) (hv : WvOK w v m) (hi : i64 (flatP m.ps)) (k y r : Int) : Calls Try.prog 3 #[.agg v.cells, .agg #[.int .i64 k, .int .i64 y, .int .i64 r]] w fun e w' => e = .returned (.bool true) ∧ Below w.heap.size w w' := by
  have HX := Lib.hid (BkI.new w v k y r)
  have HV := Lib.hid hv
  have HI := Lib.hid hi
  clear hv hi
  go_enter Try.func3, Try.ntmps3
  go_upto_region 1 with fail
  refine gen_w (Q := fun w => Code.wp _ _ _ _ w) _ (BkI w v k y r) HX.out ?_
  clear HX
  intro w0 hx
  have HX := Lib.hid hx
  clear hx
  go_wp2_with (refine wpList_load_row rfl 31 (.tmp 2) rfl w.heap.size rfl 31 v.cells (0, 0) _ HX.out.row Try.underlying31 rfl size_wts ?_)
  refine (few_any _ v m (HV.out.later HX.out.below)).mono ?_
  rintro e w1 ⟨b, rfl, hb1, hf⟩
  have HX1 := Lib.hid (HX.out.later hb1)
  clear hb1 HX
  cases b with
  | false =>
    clear hf
    go_wp2_with (go_at_call 9; refine (awake_any _).mono ?_; rintro e wz ⟨rfl, hbz⟩; have HBz := Lib.hid hbz; clear hbz)
    go_ret
    exact ⟨rfl, (HX1.out.later HBz.out).below⟩
  | true =>
    have HF := Lib.hid (hf rfl)
    clear hf
    have hal : m.al.length ≤ 300 := by have := HF.out.1; rw [← HV.out.na]; exact this
    have hps : m.ps.length ≤ 60 := by have := HF.out.2.1; rw [← HV.out.np]; exact this
    by_cases hE : m.chk = 0
    · have hfm := few_m HV.out HF.out hE
      have hbl := few_bytes hE hfm
      obtain ⟨hrok, hsame⟩ := read_back hE
      obtain ⟨hH, _⟩ := chk_zero hE
      obtain ⟨hck, _, _, hnl⟩ := headE_zero hH
      have hO := Cfg.ok_of_chk hck
      have HC := Lib.hid (fun W (h : BkI w v k y r W) => encode_any W v m (HV.out.later h.below) (by omega) (by omega) hE (by omega))
      have HL := Lib.hid (fun W (h : BkI w v k y r W) => leaves_any W v m (HV.out.later h.below) (by omega) (by omega) hE)
      have HPc := Lib.hid (fun W s q (h : Cd.Bytes W s q (Cd.join (leavesD m))) => parse_back W s q _ m hE hfm HI.out rfl h)
      have HTw := Lib.hid (Twin.symm (hsame.twin hck (by omega)))
      have HPl := Lib.hid (plc_at hE k y r)
      have hmv : manyV m.cfg = #[.int .i64 ((leavesD m).length : Int), .int .i64 0] := by unfold manyV; rw [if_neg (by omega), leavesD_len]
      have HMa := Lib.hid (fun W => many_any W m.cfg)
      rw [hmv] at HMa
      have HPa := Lib.hid (fun W => place_any W m.cfg k y r)
      unfold Cfg.cells at HMa HPa
      have HPv : Hid (placeV m.cfg k y r = if plcB k y r 1 m.cfg.blks < 0 then (0, 10) else (plcB k y r 1 m.cfg.blks, 0)) := Lib.hid (by unfold placeV; rw [if_neg (by omega)])
      have HCf : Hid (v.c = m.cfg ∧ v.nl = m.n ∧ m.n ≤ 4 ∧ m.ps.length ≤ 60) := Lib.hid ⟨HV.out.c, HV.out.nl, by have := hO.l; omega, hps⟩
      obtain ⟨M, hM⟩ : ∃ M, mdR m.cfg m.al m.ps (leavesT m) = M := ⟨_, rfl⟩
      rw [hM] at HPc HTw
      clear hal hps hfm hbl hrok hsame hM hE hH hck hnl hO hmv
      obtain ⟨lb, hlb⟩ : ∃ lb, Cd.join (leavesD m) = lb := ⟨_, rfl⟩
      rw [hlb] at HC HPc
      obtain ⟨N, hN⟩ : ∃ N, lb.length = N := ⟨_, rfl⟩
      rw [hN] at HC HPc
      obtain ⟨LD, hLD⟩ : ∃ LD, leavesD m = LD := ⟨_, rfl⟩
      have HLD := Lib.hid hLD
      rw [hLD] at HL HMa
      obtain ⟨LN, hLN⟩ : ∃ LN, LD.length = LN := ⟨_, rfl⟩
      have HLN := Lib.hid hLN
      rw [hLN] at HMa
      clear hlb hN hLD hLN
      go_upto_region 5 with (first
        | (refine wpList_load_row rfl 31 (.tmp 2) rfl w.heap.size rfl 31 v.cells (0, 0) _ HX1.out.row Try.underlying31 rfl size_wts ?_)
        | (go_at_call 10; refine (HC.out _ HX1.out).mono ?_; rintro e w2 ⟨sp, cap, rfl, hby, hb2⟩; have HX2 := Lib.hid (HX1.out.later hb2); have HBy := Lib.hid hby; clear hb2 hby)
        | (refine wpList_load_row rfl 31 (.tmp 2) rfl w.heap.size rfl 31 v.cells (0, 0) _ HX2.out.row Try.underlying31 rfl size_wts ?_)
        | (go_at_call 11; refine (HL.out _ HX2.out).mono ?_; rintro e w3 ⟨val, base, rfl, hlv, hba, hb3⟩; have HX3 := Lib.hid (HX2.out.later hb3); have HBy3 := Lib.hid (HBy.out.below hb3); have HLv := Lib.hid hlv; clear hb3 hlv hba))
      obtain ⟨sL, capL, eL, hpc⟩ := HLv.out.pieces
      rw [HLN.out] at eL
      subst eL
      have HPs := Lib.hid hpc
      clear hpc HLv HX1 HX2 HBy HC HL
      go_upto_region 8 with (first
        | (go_at_call 13; refine (HPc.out w3 sp cap HBy3.out).mono ?_; rintro e w4 ⟨u, n2, β, rfl, hwv, hod, hn2, hga, hd, hb4⟩; have HX4 := Lib.hid (HX3.out.later hb4); have HP4 := Lib.hid (HPs.out.below hb4); have HW4 := Lib.hid hwv; clear hwv hod hn2 hga hd hb4)
        | (refine wpList_store_newW rfl 31 (.tmp 9) (.tmp 48) rfl u.cells zeroC 31 rfl rfl rfl size_wts rfl (wv_one u) ?_))
      have hal : Below w4.heap.size w4 (w4.alloc (.cells u.cells 31)) := (Below.refl _ _).alloc (Nat.le_refl _) _
      have HX5 := Lib.hid (HX4.out.later hal)
      have HP5 := Lib.hid (HP4.out.below hal)
      have HW5 := Lib.hid (HW4.out.later hal)
      have HR5 := Lib.hid (heap_alloc_new w4 (.cells u.cells 31))
      obtain ⟨xb, hxb⟩ : ∃ xb, w4.heap.size = xb := ⟨_, rfl⟩
      obtain ⟨w5, hw5⟩ : ∃ w5, w4.alloc (.cells u.cells 31) = w5 := ⟨_, rfl⟩
      rw [hw5] at HX5 HP5 HW5 HR5 ⊢
      rw [hxb] at HR5 ⊢
      clear hw5 hxb hal HX4 HP4 HW4 HX3 HPs HBy3 HPc
      have c0 : w5.cell? ⟨w.heap.size, 0, none⟩ = some (.int .i64 m.cfg.v) := (by have h9 := HX5.out.cell 0; rw [h9]; simp only [Wv.cells, HCf.out.1]; rfl)
      have c1 : w5.cell? ⟨w.heap.size, 1, none⟩ = some (.int .i64 m.cfg.d) := (by have h9 := HX5.out.cell 1; rw [h9]; simp only [Wv.cells, HCf.out.1]; rfl)
      have c2 : w5.cell? ⟨w.heap.size, 2, none⟩ = some (.int .i64 m.cfg.h) := (by have h9 := HX5.out.cell 2; rw [h9]; simp only [Wv.cells, HCf.out.1]; rfl)
      have c3 : w5.cell? ⟨w.heap.size, 3, none⟩ = some (.int .i64 m.cfg.l) := (by have h9 := HX5.out.cell 3; rw [h9]; simp only [Wv.cells, HCf.out.1]; rfl)
      have c4 : w5.cell? ⟨w.heap.size, 4, none⟩ = some (.int .i64 m.cfg.x) := (by have h9 := HX5.out.cell 4; rw [h9]; simp only [Wv.cells, HCf.out.1]; rfl)
      have c5 : w5.cell? ⟨w.heap.size, 5, none⟩ = some (.int .i64 m.cfg.i) := (by have h9 := HX5.out.cell 5; rw [h9]; simp only [Wv.cells, HCf.out.1]; rfl)
      have n1 : ∀ x : Nat, (x != x) = false := fun x => by simp
      have n2 : ∀ x : Int, (x != x) = false := fun x => by simp
      go_upto_region 9 with (go_at_call 14; refine (HMa.out _).mono ?_; rintro e w6 ⟨rfl, hb6⟩; have HX6 := Lib.hid (HX5.out.later hb6); have HP6 := Lib.hid (HP5.out.below hb6); have HW6 := Lib.hid (HW5.out.later hb6); have HR6 := Lib.hid ((hb6.block _ (Array.getElem?_eq_some_iff.1 HR5.out).1).trans HR5.out); clear hb6)
      clear c0 c1 c2 c3 c4 c5 HX5 HP5 HW5 HR5 HMa
      go_upto_region 11 with (first
        | (refine wpList_load_rowG rfl 31 (.tmp 9) rfl xb rfl 31 u.cells (0, 0) _ HR6.out Try.underlying31 rfl size_wts ?_)
        | (refine wpList_load_rowG rfl 31 (.tmp 2) rfl w.heap.size rfl 31 v.cells (0, 0) _ HX6.out.row Try.underlying31 rfl size_wts ?_)
        | (go_at_call 15; refine (same_yes _ u v M m HW6.out (HV.out.later HX6.out.below) HTw.out (by rw [HTw.out.n]; exact HCf.out.2.2.1) (by rw [HTw.out.ps]; have := HCf.out.2.2.2; omega)).mono ?_; rintro e w7 ⟨rfl, hb7⟩; have HX7 := Lib.hid (HX6.out.later hb7); have HP7 := Lib.hid (HP6.out.below hb7); clear hb7))
      clear HW6 HR6 HX6 HP6 HTw
      have c0 : w7.cell? ⟨w.heap.size, 0, none⟩ = some (.int .i64 m.cfg.v) := (by have h9 := HX7.out.cell 0; rw [h9]; simp only [Wv.cells, HCf.out.1]; rfl)
      have c1 : w7.cell? ⟨w.heap.size, 1, none⟩ = some (.int .i64 m.cfg.d) := (by have h9 := HX7.out.cell 1; rw [h9]; simp only [Wv.cells, HCf.out.1]; rfl)
      have c2 : w7.cell? ⟨w.heap.size, 2, none⟩ = some (.int .i64 m.cfg.h) := (by have h9 := HX7.out.cell 2; rw [h9]; simp only [Wv.cells, HCf.out.1]; rfl)
      have c3 : w7.cell? ⟨w.heap.size, 3, none⟩ = some (.int .i64 m.cfg.l) := (by have h9 := HX7.out.cell 3; rw [h9]; simp only [Wv.cells, HCf.out.1]; rfl)
      have c4 : w7.cell? ⟨w.heap.size, 4, none⟩ = some (.int .i64 m.cfg.x) := (by have h9 := HX7.out.cell 4; rw [h9]; simp only [Wv.cells, HCf.out.1]; rfl)
      have c5 : w7.cell? ⟨w.heap.size, 5, none⟩ = some (.int .i64 m.cfg.i) := (by have h9 := HX7.out.cell 5; rw [h9]; simp only [Wv.cells, HCf.out.1]; rfl)
      have p0 : w7.cell? ⟨w.heap.size + 1, 0, none⟩ = some (.int .i64 k) := HX7.out.pt 0
      have p1 : w7.cell? ⟨w.heap.size + 1, 1, none⟩ = some (.int .i64 y) := HX7.out.pt 1
      have p2 : w7.cell? ⟨w.heap.size + 1, 2, none⟩ = some (.int .i64 r) := HX7.out.pt 2
      go_upto_region 12 with (go_at_call 16; refine (HPa.out _).mono ?_; rintro e w8 ⟨rfl, hb8⟩; have HX8 := Lib.hid (HX7.out.later hb8); have HP8 := Lib.hid (HP7.out.below hb8); clear hb8)
      clear c0 c1 c2 c3 c4 c5 p0 p1 p2 HX7 HP7 HPa
      obtain ⟨PV, hPV⟩ : ∃ PV, placeV m.cfg k y r = PV := ⟨_, rfl⟩
      have hpv := HPv.out
      rw [hPV] at hpv ⊢
      clear hPV HPv
      by_cases hp : plcB k y r 1 m.cfg.blks < 0
      · rw [if_pos hp] at hpv
        subst hpv
        clear HPl
        go_wp2_with (go_at_call 9; refine (awake_any _).mono ?_; rintro e wz ⟨rfl, hbz⟩; have HBz := Lib.hid hbz; clear hbz)
        go_ret
        exact ⟨rfl, (HX8.out.later HBz.out).below⟩
      · rw [if_neg hp] at hpv
        subst hpv
        obtain ⟨K, Y, R, C, A, hpl⟩ := HPl.out (by omega)
        have hA := hpl.at_
        obtain rfl := hpl.ek
        obtain rfl := hpl.ey
        obtain rfl := hpl.er
        rw [hA]
        have HQ := Lib.hid hpl
        have hA1 := hpl.one
        have hA2 : A < LN := by rw [← HLN.out, ← HLD.out]; exact hpl.alt
        have d1 : decide ((A : Int) < 1) = false := by simp; omega
        have d2 : decide ((LN : Int) ≤ (A : Int)) = false := by simp; omega
        have d3 : decide (LN ≤ A) = false := by simp; omega
        have d4 : decide (A < 1) = false := by simp; omega
        have HA := Lib.hid hA2
        clear hp hpl hA hA1 hA2 HPl
        go_upto_region 16 with fail
        clear d1 d2 d3 d4
        have p0 : w8.cell? ⟨w.heap.size + 1, 0, none⟩ = some (.int .i64 (K : Int)) := HX8.out.pt 0
        have p1 : w8.cell? ⟨w.heap.size + 1, 1, none⟩ = some (.int .i64 (Y : Int)) := HX8.out.pt 1
        obtain ⟨gL, oL, s2, c2, hlf⟩ := lf_at (LN := LN) HP8.out (by rw [← HLD.out]; exact HQ.out.leaf)
        have HLf := Lib.hid hlf
        clear hlf HP8
        go_upto_region 17 with (first
          | (refine wpList_load_row rfl 31 (.tmp 2) rfl w.heap.size rfl 31 v.cells (0, 0) _ HX8.out.row Try.underlying31 rfl size_wts ?_)
          | (refine wpList_exec rfl (.slice sG (m.part K Y).l.length cG) (exec_fieldG (.tmp 105) rfl gr gc sG _ cG rfl) ?_)
          | (refine wpList_buildPt rfl (.tmp 101) (.tmp 103) rfl (K : Int) (Y : Int) rfl rfl ?_)
          | (go_at_call 17; refine (given_part w w8 HX8.out.below v m HV.out K Y (by rw [HCf.out.2.1]; exact HQ.out.part) 0 0 false).mono ?_; rintro e w9 ⟨sG, cG, rfl, hnG, hb9⟩; obtain ⟨gr, hgr⟩ : ∃ z, (if isVec K then 0 else (m.part K Y).r) = z := ⟨_, rfl⟩; obtain ⟨gc, hgc⟩ : ∃ z, (if isVec K then 0 else (m.part K Y).c) = z := ⟨_, rfl⟩; rw [hgr, hgc]; clear hgr hgc; have HX9 := Lib.hid (HX8.out.later hb9); have HLf9 := Lib.hid (HLf.out.later hb9); have HN9 := Lib.hid hnG; clear hnG hb9))
        clear p0 p1 HX8 HLf
        have hi1 := HQ.out.down
        have hi2 := HQ.out.other
        have hi3 := HQ.out.row
        have hlt := HQ.out.lt
        have HIn := Lib.hid HQ.out.int
        have HC1 : Hid (1 ≤ C ∧ C ≤ 64) := Lib.hid ⟨HQ.out.pos, HQ.out.le⟩
        obtain ⟨l, hl⟩ : ∃ l, (m.part K Y).l = l := ⟨_, rfl⟩
        rw [hl] at HLf9 HN9 HIn hi3 hlt ⊢
        obtain ⟨LG, hLG⟩ : ∃ LG, l.length = LG := ⟨_, rfl⟩
        have HLG := Lib.hid hLG
        rw [hLG] at hi3 hlt ⊢
        have HLt := Lib.hid hlt
        have c1 : w9.cell? ⟨w.heap.size, 1, none⟩ = some (.int .i64 m.cfg.d) := (by have h9 := HX9.out.cell 1; rw [h9]; simp only [Wv.cells, HCf.out.1]; rfl)
        have c5 : w9.cell? ⟨w.heap.size, 5, none⟩ = some (.int .i64 m.cfg.i) := (by have h9 := HX9.out.cell 5; rw [h9]; simp only [Wv.cells, HCf.out.1]; rfl)
        have p0 : w9.cell? ⟨w.heap.size + 1, 0, none⟩ = some (.int .i64 (K : Int)) := HX9.out.pt 0
        obtain ⟨D0, hD0⟩ : ∃ D0, m.cfg.d = D0 := ⟨_, rfl⟩
        obtain ⟨I0, hI0⟩ : ∃ I0, m.cfg.i = I0 := ⟨_, rfl⟩
        rw [hD0] at c1 hi2
        rw [hI0] at c5 hi1
        clear hD0 hI0 hl hLG HQ HLN HLD HCf hlt
        have hsL := HLf9.out.e
        subst hsL
        have hnr := nums_mid HN9.out C R HC1.out.1 (by rw [HLG.out]; exact HLt.out)
        have hle : LG ≤ cG := by rw [← HLG.out]; simpa using HN9.out.le
        have hlm : LG ≤ 9223372036854775807 := by rw [← HLG.out]; exact Nums.len HN9.out
        have hrl : ((l.drop (R * C)).take C).length = C := by rw [List.length_take, List.length_drop, HLG.out]; have := HLt.out; omega
        obtain ⟨row, hrow⟩ : ∃ row, (l.drop (R * C)).take C = row := ⟨_, rfl⟩
        rw [hrow] at HLf9 HIn hnr hrl
        have HNr := Lib.hid (Cd.Sl.below hnr (Nat.le_refl _) HX9.out.below)
        have HRl := Lib.hid hrl
        have HLe := Lib.hid (And.intro hle hlm)
        have HLp : Hid ((Cd.nums row).length = 8 * C) := Lib.hid (by rw [numsQ_length, hrl])
        clear hrow hnr hle hlm hrl HN9 HLG
        by_cases h10 : K = 10
        · have hI := hi1 h10
          subst hI
          have e1 : ((K : Int) != 10) = false := by subst h10; rfl
          have e2 : ((K : Int) == 10) = true := by subst h10; rfl
          have e3 : ((K : Int) == 12) = false := by subst h10; rfl
          have e4 : ((K : Int) == 1) = false := by subst h10; rfl
          clear h10 hi1 hi2 hi3
          by_cases hd : D0 < (LG : Int)
          · have f1 : decide (D0 < (LG : Int)) = true := by simpa using hd
            clear hd
            go_upto_region 22 with fail
            clear c1 c5 p0
            have p2 : w9.cell? ⟨w.heap.size + 1, 2, none⟩ = some (.int .i64 (R : Int)) := HX9.out.pt 2
            refine Tn.wp_region_spec (C := fun W => Below w9.heap.size w9 W) (Le := fun A B => Below A.heap.size A B) 18
              (fun _ j W v => (j < 16 → v = ([.slice (some ⟨gL, oL, none⟩) LN capL, .int .i64 (A : Int), .pointer (some ⟨gL, oL + A, none⟩), .slice s2 (Cd.nums row).length c2, .slice sG LG cG, .pointer (some ⟨w.heap.size + 1, 2, none⟩), .int .i64 (R : Int), .int .i64 (C : Int), .int .i64 ((R * C : Nat) : Int), .pointer (some ⟨w.heap.size + 1, 2, none⟩), .int .i64 (R : Int), .int .i64 (C : Int), .int .i64 ((R * C : Nat) : Int), .int .i64 (C : Int), .int .i64 ((R * C + C : Nat) : Int), .slice (cutA sG cG (R * C)) C (cG - R * C)] : List Value).getD j undef) ∧ (j = 16 → ∃ sp cap, v = .slice sp (8 * C) cap ∧ Cd.Bytes W sp cap (Cd.nums row)) ∧ (j = 17 → v = .bool true))
              (by kernel_rfl) (by kernel_rfl) ⟨rfl, rfl, rfl, Nat.le_refl _, fun _ _ => rfl⟩ (fun _ _ _ _ _ _ h => h)
              (fun _ _ A B v hl h => ⟨h.1, (fun e => by obtain ⟨sp, cap, h1, h2⟩ := h.2.1 e; exact ⟨sp, cap, h1, h2.below hl⟩), h.2.2⟩)
              (fun j v => (j < 16 → v = ([.slice (some ⟨gL, oL, none⟩) LN capL, .int .i64 (A : Int), .pointer (some ⟨gL, oL + A, none⟩), .slice s2 (Cd.nums row).length c2, .slice sG LG cG, .pointer (some ⟨w.heap.size + 1, 2, none⟩), .int .i64 (R : Int), .int .i64 (C : Int), .int .i64 ((R * C : Nat) : Int), .pointer (some ⟨w.heap.size + 1, 2, none⟩), .int .i64 (R : Int), .int .i64 (C : Int), .int .i64 ((R * C : Nat) : Int), .int .i64 (C : Int), .int .i64 ((R * C + C : Nat) : Int), .slice (cutA sG cG (R * C)) C (cG - R * C)] : List Value).getD j undef) ∧ (j = 16 → ∃ sp cap, v = .slice sp (8 * C) cap) ∧ (j = 17 → v = .bool true)) (fun _ _ _ _ h => ⟨h.1, (fun e => by obtain ⟨sp, cap, h1, _⟩ := h.2.1 e; exact ⟨sp, cap, h1⟩), h.2.2⟩)
              (fun j => if j = 16 then .slice none (8 * C) 0 else if j = 17 then .bool true else ([.slice (some ⟨gL, oL, none⟩) LN capL, .int .i64 (A : Int), .pointer (some ⟨gL, oL + A, none⟩), .slice s2 (Cd.nums row).length c2, .slice sG LG cG, .pointer (some ⟨w.heap.size + 1, 2, none⟩), .int .i64 (R : Int), .int .i64 (C : Int), .int .i64 ((R * C : Nat) : Int), .pointer (some ⟨w.heap.size + 1, 2, none⟩), .int .i64 (R : Int), .int .i64 (C : Int), .int .i64 ((R * C : Nat) : Int), .int .i64 (C : Int), .int .i64 ((R * C + C : Nat) : Int), .slice (cutA sG cG (R * C)) C (cG - R * C)] : List Value).getD j undef) (fun j => ⟨fun e => by rw [if_neg (by omega), if_neg (by omega)], fun e => by rw [if_pos e]; exact ⟨_, _, rfl⟩, fun e => by rw [if_neg (by omega), if_pos e]⟩) ?_ ?_
            · intro u hu
              have e0 : u 0 = .slice (some ⟨gL, oL, none⟩) LN capL := (hu 0).1 (by decide)
              have e1 : u 1 = .int .i64 (A : Int) := (hu 1).1 (by decide)
              have e2 : u 2 = .pointer (some ⟨gL, oL + A, none⟩) := (hu 2).1 (by decide)
              have e3 : u 3 = .slice s2 (Cd.nums row).length c2 := (hu 3).1 (by decide)
              have e4 : u 4 = .slice sG LG cG := (hu 4).1 (by decide)
              have e5 : u 5 = .pointer (some ⟨w.heap.size + 1, 2, none⟩) := (hu 5).1 (by decide)
              have e6 : u 6 = .int .i64 (R : Int) := (hu 6).1 (by decide)
              have e7 : u 7 = .int .i64 (C : Int) := (hu 7).1 (by decide)
              have e8 : u 8 = .int .i64 ((R * C : Nat) : Int) := (hu 8).1 (by decide)
              have e9 : u 9 = .pointer (some ⟨w.heap.size + 1, 2, none⟩) := (hu 9).1 (by decide)
              have e10 : u 10 = .int .i64 (R : Int) := (hu 10).1 (by decide)
              have e11 : u 11 = .int .i64 (C : Int) := (hu 11).1 (by decide)
              have e12 : u 12 = .int .i64 ((R * C : Nat) : Int) := (hu 12).1 (by decide)
              have e13 : u 13 = .int .i64 (C : Int) := (hu 13).1 (by decide)
              have e14 : u 14 = .int .i64 ((R * C + C : Nat) : Int) := (hu 14).1 (by decide)
              have e15 : u 15 = .slice (cutA sG cG (R * C)) C (cG - R * C) := (hu 15).1 (by decide)
              obtain ⟨spN, cpN, e16⟩ := (hu 16).2.1 rfl
              simp only [List.take_succ_cons, List.take_zero]
              refine Tn.spec_cons (fun Y hC hd => ⟨by rfl, Tn.gives_val (.slice (some ⟨gL, oL, none⟩) LN capL) Y (by rfl) ⟨hC, Below.refl _ _, fun _ => rfl, (fun e => by cases e), (fun e => by cases e)⟩⟩) ?_
              simp only [Act.put, List.setIfInBounds_toArray, List.set_cons_succ, List.set_cons_zero, Nat.reduceAdd]
              rw [e0]
              refine Tn.spec_cons (fun Y hC hd => ⟨by rfl, Tn.gives_val (.int .i64 (A : Int)) Y (by rfl) ⟨hC, Below.refl _ _, fun _ => rfl, (fun e => by cases e), (fun e => by cases e)⟩⟩) ?_
              simp only [Act.put, List.setIfInBounds_toArray, List.set_cons_succ, List.set_cons_zero, Nat.reduceAdd]
              rw [e1]
              refine Tn.spec_cons (fun Y hC hd => ⟨by rfl, Tn.gives_val (.pointer (some ⟨gL, oL + A, none⟩)) Y (Bp.exec_at1 39 24 Try.underlying39 size39 (.tmp 138) (.tmp 139) rfl gL oL LN capL A rfl rfl HA.out) ⟨hC, Below.refl _ _, fun _ => rfl, (fun e => by cases e), (fun e => by cases e)⟩⟩) ?_
              simp only [Act.put, List.setIfInBounds_toArray, List.set_cons_succ, List.set_cons_zero, Nat.reduceAdd]
              rw [e2]
              refine Tn.spec_cons (fun Y hC hd => ⟨by rfl, Tn.gives_val (.slice s2 (Cd.nums row).length c2) Y (Bp.exec_load1 24 (.tmp 140) rfl ⟨gL, oL + A, none⟩ rfl _ ((hC.cell (block_lt_of_cell HLf9.out.cell)).trans HLf9.out.cell) _ Try.underlying24 rfl) ⟨hC, Below.refl _ _, fun _ => rfl, (fun e => by cases e), (fun e => by cases e)⟩⟩) ?_
              simp only [Act.put, List.setIfInBounds_toArray, List.set_cons_succ, List.set_cons_zero, Nat.reduceAdd]
              rw [e3]
              refine Tn.spec_cons (fun Y hC hd => ⟨by rfl, Tn.gives_val (.slice sG LG cG) Y (by rfl) ⟨hC, Below.refl _ _, fun _ => rfl, (fun e => by cases e), (fun e => by cases e)⟩⟩) ?_
              simp only [Act.put, List.setIfInBounds_toArray, List.set_cons_succ, List.set_cons_zero, Nat.reduceAdd]
              rw [e4]
              refine Tn.spec_cons (fun Y hC hd => ⟨by rfl, Tn.gives_val (.pointer (some ⟨w.heap.size + 1, 2, none⟩)) Y (exec_pf2 (.tmp 3) rfl (w.heap.size + 1) rfl) ⟨hC, Below.refl _ _, fun _ => rfl, (fun e => by cases e), (fun e => by cases e)⟩⟩) ?_
              simp only [Act.put, List.setIfInBounds_toArray, List.set_cons_succ, List.set_cons_zero, Nat.reduceAdd]
              rw [e5]
              refine Tn.spec_cons (fun Y hC hd => ⟨by rfl, Tn.gives_val (.int .i64 (R : Int)) Y (Bp.exec_load1 3 (.tmp 143) rfl ⟨w.heap.size + 1, 2, none⟩ rfl _ ((hC.cell (block_lt_of_cell p2)).trans p2) _ Try.underlying3 rfl) ⟨hC, Below.refl _ _, fun _ => rfl, (fun e => by cases e), (fun e => by cases e)⟩⟩) ?_
              simp only [Act.put, List.setIfInBounds_toArray, List.set_cons_succ, List.set_cons_zero, Nat.reduceAdd]
              rw [e6]
              refine Tn.spec_cons (fun Y hC hd => ⟨by rfl, Tn.gives_val (.int .i64 (C : Int)) Y (by rfl) ⟨hC, Below.refl _ _, fun _ => rfl, (fun e => by cases e), (fun e => by cases e)⟩⟩) ?_
              simp only [Act.put, List.setIfInBounds_toArray, List.set_cons_succ, List.set_cons_zero, Nat.reduceAdd]
              rw [e7]
              refine Tn.spec_cons (fun Y hC hd => ⟨by rfl, Tn.gives_val (.int .i64 ((R * C : Nat) : Int)) Y (exec_bin .mul (.tmp 144) (.tmp 145) rfl rfl (R : Int) (C : Int) _ rfl rfl (run_mul _ _ _ (by simp) (by omega) (by have := HLt.out; have := HLe.out; omega))) ⟨hC, Below.refl _ _, fun _ => rfl, (fun e => by cases e), (fun e => by cases e)⟩⟩) ?_
              simp only [Act.put, List.setIfInBounds_toArray, List.set_cons_succ, List.set_cons_zero, Nat.reduceAdd]
              rw [e8]
              refine Tn.spec_cons (fun Y hC hd => ⟨by rfl, Tn.gives_val (.pointer (some ⟨w.heap.size + 1, 2, none⟩)) Y (exec_pf2 (.tmp 3) rfl (w.heap.size + 1) rfl) ⟨hC, Below.refl _ _, fun _ => rfl, (fun e => by cases e), (fun e => by cases e)⟩⟩) ?_
              simp only [Act.put, List.setIfInBounds_toArray, List.set_cons_succ, List.set_cons_zero, Nat.reduceAdd]
              rw [e9]
              refine Tn.spec_cons (fun Y hC hd => ⟨by rfl, Tn.gives_val (.int .i64 (R : Int)) Y (Bp.exec_load1 3 (.tmp 147) rfl ⟨w.heap.size + 1, 2, none⟩ rfl _ ((hC.cell (block_lt_of_cell p2)).trans p2) _ Try.underlying3 rfl) ⟨hC, Below.refl _ _, fun _ => rfl, (fun e => by cases e), (fun e => by cases e)⟩⟩) ?_
              simp only [Act.put, List.setIfInBounds_toArray, List.set_cons_succ, List.set_cons_zero, Nat.reduceAdd]
              rw [e10]
              refine Tn.spec_cons (fun Y hC hd => ⟨by rfl, Tn.gives_val (.int .i64 (C : Int)) Y (by rfl) ⟨hC, Below.refl _ _, fun _ => rfl, (fun e => by cases e), (fun e => by cases e)⟩⟩) ?_
              simp only [Act.put, List.setIfInBounds_toArray, List.set_cons_succ, List.set_cons_zero, Nat.reduceAdd]
              rw [e11]
              refine Tn.spec_cons (fun Y hC hd => ⟨by rfl, Tn.gives_val (.int .i64 ((R * C : Nat) : Int)) Y (exec_bin .mul (.tmp 148) (.tmp 149) rfl rfl (R : Int) (C : Int) _ rfl rfl (run_mul _ _ _ (by simp) (by omega) (by have := HLt.out; have := HLe.out; omega))) ⟨hC, Below.refl _ _, fun _ => rfl, (fun e => by cases e), (fun e => by cases e)⟩⟩) ?_
              simp only [Act.put, List.setIfInBounds_toArray, List.set_cons_succ, List.set_cons_zero, Nat.reduceAdd]
              rw [e12]
              refine Tn.spec_cons (fun Y hC hd => ⟨by rfl, Tn.gives_val (.int .i64 (C : Int)) Y (by rfl) ⟨hC, Below.refl _ _, fun _ => rfl, (fun e => by cases e), (fun e => by cases e)⟩⟩) ?_
              simp only [Act.put, List.setIfInBounds_toArray, List.set_cons_succ, List.set_cons_zero, Nat.reduceAdd]
              rw [e13]
              refine Tn.spec_cons (fun Y hC hd => ⟨by rfl, Tn.gives_val (.int .i64 ((R * C + C : Nat) : Int)) Y (exec_bin .add (.tmp 150) (.tmp 151) rfl rfl ((R * C : Nat) : Int) (C : Int) _ rfl rfl (run_add _ _ _ (by simp) (by omega) (by have := HLt.out; have := HLe.out; omega))) ⟨hC, Below.refl _ _, fun _ => rfl, (fun e => by cases e), (fun e => by cases e)⟩⟩) ?_
              simp only [Act.put, List.setIfInBounds_toArray, List.set_cons_succ, List.set_cons_zero, Nat.reduceAdd]
              rw [e14]
              refine Tn.spec_cons (fun Y hC hd => ⟨by rfl, Tn.gives_val (.slice (cutA sG cG (R * C)) C (cG - R * C)) Y (Cd.exec_cut 26 3 (.tmp 142) (some (.tmp 146)) (some (.tmp 152)) rfl Try.underlying26 _ (by have h9 := run_mid sG LG cG (R * C) (R * C + C) (by omega) (by have := HLt.out; have := HLe.out; omega) Y; rw [Nat.add_sub_cancel_left] at h9; exact h9)) ⟨hC, Below.refl _ _, fun _ => rfl, (fun e => by cases e), (fun e => by cases e)⟩⟩) ?_
              simp only [Act.put, List.setIfInBounds_toArray, List.set_cons_succ, List.set_cons_zero, Nat.reduceAdd]
              rw [e15]
              refine Tn.spec_cons (fun Y hC hd => ⟨by rfl, Tn.gives_call _ _ (Tn.exec_call1 19 (.tmp 153) #[26] _ rfl rfl (cf Try.func19 (by kernel_rfl) (by kernel_rfl) _ _)) ((Cd.ref_numbers Y (cutA sG cG (R * C)) (cG - R * C) C row HRl.out (Cd.Sl.below HNr.out (Nat.le_refl _) hC) HIn.out (by have := HC1.out; omega)).mono fun e2 Y' ⟨sp, cap, e3, h3, hb3⟩ => ⟨_, e3, hC.trans (hb3.mono hC.size), hb3, (fun h => by omega), (fun _ => ⟨sp, cap, rfl, h3⟩), (fun h => by omega)⟩)⟩) ?_
              simp only [Act.put, List.setIfInBounds_toArray, List.set_cons_succ, List.set_cons_zero, Nat.reduceAdd]
              rw [e16]
              refine Tn.spec_cons (fun Y hC hd => ⟨by rfl, Tn.gives_call _ _ (exec_call2 18 (.tmp 141) (.tmp 154) #[24, 24] _ _ rfl rfl rfl (cf Try.func18 (by kernel_rfl) (by kernel_rfl) _ _)) ?_⟩) ?_
              · obtain ⟨s9, c9, e9, hb9⟩ := (hd ⟨16, .data⟩ (by simp) (by kernel_rfl)).2.1 rfl
                rw [e16] at e9
                injection e9 with q1 _ q3
                subst q1 q3
                refine (Cd.bytes_any Y s2 spN (Cd.nums row).length (8 * C) c2 cpN (Cd.nums row) (Cd.nums row) rfl HLp.out (HLf9.out.byt.below hC) hb9).mono fun e2 Y' h => ?_
                obtain ⟨h1, h2⟩ := h.below
                exact ⟨_, h1, hC.trans (h2.mono hC.size), h2, (fun h => by omega), (fun h => by omega), (fun _ => by simp)⟩
              exact Tn.spec_nil
            intro u Y hu hC hP
            have e17 : u 17 = .bool true := (hu 17).2.2 rfl
            simp only [List.take_succ_cons, List.take_zero, List.drop_succ_cons, List.drop_zero, Tn.putAll, Act.put, List.setIfInBounds_toArray, List.set_cons_succ, List.set_cons_zero, Nat.reduceAdd]
            rw [e17]
            have HXY := Lib.hid (HX9.out.later hC)
            clear hu hC hP e17
            go_wp2_with (go_at_call 9; refine (awake_any _).mono ?_; rintro e wz ⟨rfl, hbz⟩; have HBz := Lib.hid hbz; clear hbz)
            go_ret
            exact ⟨rfl, (HXY.out.later HBz.out).below⟩
          · have f1 : decide (D0 < (LG : Int)) = false := by simpa using hd
            clear hd
            go_upto_region 22 with fail
            clear c1 c5 p0
            have p2 : w9.cell? ⟨w.heap.size + 1, 2, none⟩ = some (.int .i64 (R : Int)) := HX9.out.pt 2
            refine Tn.wp_region_spec (C := fun W => Below w9.heap.size w9 W) (Le := fun A B => Below A.heap.size A B) 18
              (fun _ j W v => (j < 16 → v = ([.slice (some ⟨gL, oL, none⟩) LN capL, .int .i64 (A : Int), .pointer (some ⟨gL, oL + A, none⟩), .slice s2 (Cd.nums row).length c2, .slice sG LG cG, .pointer (some ⟨w.heap.size + 1, 2, none⟩), .int .i64 (R : Int), .int .i64 (C : Int), .int .i64 ((R * C : Nat) : Int), .pointer (some ⟨w.heap.size + 1, 2, none⟩), .int .i64 (R : Int), .int .i64 (C : Int), .int .i64 ((R * C : Nat) : Int), .int .i64 (C : Int), .int .i64 ((R * C + C : Nat) : Int), .slice (cutA sG cG (R * C)) C (cG - R * C)] : List Value).getD j undef) ∧ (j = 16 → ∃ sp cap, v = .slice sp (8 * C) cap ∧ Cd.Bytes W sp cap (Cd.nums row)) ∧ (j = 17 → v = .bool true))
              (by kernel_rfl) (by kernel_rfl) ⟨rfl, rfl, rfl, Nat.le_refl _, fun _ _ => rfl⟩ (fun _ _ _ _ _ _ h => h)
              (fun _ _ A B v hl h => ⟨h.1, (fun e => by obtain ⟨sp, cap, h1, h2⟩ := h.2.1 e; exact ⟨sp, cap, h1, h2.below hl⟩), h.2.2⟩)
              (fun j v => (j < 16 → v = ([.slice (some ⟨gL, oL, none⟩) LN capL, .int .i64 (A : Int), .pointer (some ⟨gL, oL + A, none⟩), .slice s2 (Cd.nums row).length c2, .slice sG LG cG, .pointer (some ⟨w.heap.size + 1, 2, none⟩), .int .i64 (R : Int), .int .i64 (C : Int), .int .i64 ((R * C : Nat) : Int), .pointer (some ⟨w.heap.size + 1, 2, none⟩), .int .i64 (R : Int), .int .i64 (C : Int), .int .i64 ((R * C : Nat) : Int), .int .i64 (C : Int), .int .i64 ((R * C + C : Nat) : Int), .slice (cutA sG cG (R * C)) C (cG - R * C)] : List Value).getD j undef) ∧ (j = 16 → ∃ sp cap, v = .slice sp (8 * C) cap) ∧ (j = 17 → v = .bool true)) (fun _ _ _ _ h => ⟨h.1, (fun e => by obtain ⟨sp, cap, h1, _⟩ := h.2.1 e; exact ⟨sp, cap, h1⟩), h.2.2⟩)
              (fun j => if j = 16 then .slice none (8 * C) 0 else if j = 17 then .bool true else ([.slice (some ⟨gL, oL, none⟩) LN capL, .int .i64 (A : Int), .pointer (some ⟨gL, oL + A, none⟩), .slice s2 (Cd.nums row).length c2, .slice sG LG cG, .pointer (some ⟨w.heap.size + 1, 2, none⟩), .int .i64 (R : Int), .int .i64 (C : Int), .int .i64 ((R * C : Nat) : Int), .pointer (some ⟨w.heap.size + 1, 2, none⟩), .int .i64 (R : Int), .int .i64 (C : Int), .int .i64 ((R * C : Nat) : Int), .int .i64 (C : Int), .int .i64 ((R * C + C : Nat) : Int), .slice (cutA sG cG (R * C)) C (cG - R * C)] : List Value).getD j undef) (fun j => ⟨fun e => by rw [if_neg (by omega), if_neg (by omega)], fun e => by rw [if_pos e]; exact ⟨_, _, rfl⟩, fun e => by rw [if_neg (by omega), if_pos e]⟩) ?_ ?_
            · intro u hu
              have e0 : u 0 = .slice (some ⟨gL, oL, none⟩) LN capL := (hu 0).1 (by decide)
              have e1 : u 1 = .int .i64 (A : Int) := (hu 1).1 (by decide)
              have e2 : u 2 = .pointer (some ⟨gL, oL + A, none⟩) := (hu 2).1 (by decide)
              have e3 : u 3 = .slice s2 (Cd.nums row).length c2 := (hu 3).1 (by decide)
              have e4 : u 4 = .slice sG LG cG := (hu 4).1 (by decide)
              have e5 : u 5 = .pointer (some ⟨w.heap.size + 1, 2, none⟩) := (hu 5).1 (by decide)
              have e6 : u 6 = .int .i64 (R : Int) := (hu 6).1 (by decide)
              have e7 : u 7 = .int .i64 (C : Int) := (hu 7).1 (by decide)
              have e8 : u 8 = .int .i64 ((R * C : Nat) : Int) := (hu 8).1 (by decide)
              have e9 : u 9 = .pointer (some ⟨w.heap.size + 1, 2, none⟩) := (hu 9).1 (by decide)
              have e10 : u 10 = .int .i64 (R : Int) := (hu 10).1 (by decide)
              have e11 : u 11 = .int .i64 (C : Int) := (hu 11).1 (by decide)
              have e12 : u 12 = .int .i64 ((R * C : Nat) : Int) := (hu 12).1 (by decide)
              have e13 : u 13 = .int .i64 (C : Int) := (hu 13).1 (by decide)
              have e14 : u 14 = .int .i64 ((R * C + C : Nat) : Int) := (hu 14).1 (by decide)
              have e15 : u 15 = .slice (cutA sG cG (R * C)) C (cG - R * C) := (hu 15).1 (by decide)
              obtain ⟨spN, cpN, e16⟩ := (hu 16).2.1 rfl
              simp only [List.take_succ_cons, List.take_zero]
              refine Tn.spec_cons (fun Y hC hd => ⟨by rfl, Tn.gives_val (.slice (some ⟨gL, oL, none⟩) LN capL) Y (by rfl) ⟨hC, Below.refl _ _, fun _ => rfl, (fun e => by cases e), (fun e => by cases e)⟩⟩) ?_
              simp only [Act.put, List.setIfInBounds_toArray, List.set_cons_succ, List.set_cons_zero, Nat.reduceAdd]
              rw [e0]
              refine Tn.spec_cons (fun Y hC hd => ⟨by rfl, Tn.gives_val (.int .i64 (A : Int)) Y (by rfl) ⟨hC, Below.refl _ _, fun _ => rfl, (fun e => by cases e), (fun e => by cases e)⟩⟩) ?_
              simp only [Act.put, List.setIfInBounds_toArray, List.set_cons_succ, List.set_cons_zero, Nat.reduceAdd]
              rw [e1]
              refine Tn.spec_cons (fun Y hC hd => ⟨by rfl, Tn.gives_val (.pointer (some ⟨gL, oL + A, none⟩)) Y (Bp.exec_at1 39 24 Try.underlying39 size39 (.tmp 138) (.tmp 139) rfl gL oL LN capL A rfl rfl HA.out) ⟨hC, Below.refl _ _, fun _ => rfl, (fun e => by cases e), (fun e => by cases e)⟩⟩) ?_
              simp only [Act.put, List.setIfInBounds_toArray, List.set_cons_succ, List.set_cons_zero, Nat.reduceAdd]
              rw [e2]
              refine Tn.spec_cons (fun Y hC hd => ⟨by rfl, Tn.gives_val (.slice s2 (Cd.nums row).length c2) Y (Bp.exec_load1 24 (.tmp 140) rfl ⟨gL, oL + A, none⟩ rfl _ ((hC.cell (block_lt_of_cell HLf9.out.cell)).trans HLf9.out.cell) _ Try.underlying24 rfl) ⟨hC, Below.refl _ _, fun _ => rfl, (fun e => by cases e), (fun e => by cases e)⟩⟩) ?_
              simp only [Act.put, List.setIfInBounds_toArray, List.set_cons_succ, List.set_cons_zero, Nat.reduceAdd]
              rw [e3]
              refine Tn.spec_cons (fun Y hC hd => ⟨by rfl, Tn.gives_val (.slice sG LG cG) Y (by rfl) ⟨hC, Below.refl _ _, fun _ => rfl, (fun e => by cases e), (fun e => by cases e)⟩⟩) ?_
              simp only [Act.put, List.setIfInBounds_toArray, List.set_cons_succ, List.set_cons_zero, Nat.reduceAdd]
              rw [e4]
              refine Tn.spec_cons (fun Y hC hd => ⟨by rfl, Tn.gives_val (.pointer (some ⟨w.heap.size + 1, 2, none⟩)) Y (exec_pf2 (.tmp 3) rfl (w.heap.size + 1) rfl) ⟨hC, Below.refl _ _, fun _ => rfl, (fun e => by cases e), (fun e => by cases e)⟩⟩) ?_
              simp only [Act.put, List.setIfInBounds_toArray, List.set_cons_succ, List.set_cons_zero, Nat.reduceAdd]
              rw [e5]
              refine Tn.spec_cons (fun Y hC hd => ⟨by rfl, Tn.gives_val (.int .i64 (R : Int)) Y (Bp.exec_load1 3 (.tmp 143) rfl ⟨w.heap.size + 1, 2, none⟩ rfl _ ((hC.cell (block_lt_of_cell p2)).trans p2) _ Try.underlying3 rfl) ⟨hC, Below.refl _ _, fun _ => rfl, (fun e => by cases e), (fun e => by cases e)⟩⟩) ?_
              simp only [Act.put, List.setIfInBounds_toArray, List.set_cons_succ, List.set_cons_zero, Nat.reduceAdd]
              rw [e6]
              refine Tn.spec_cons (fun Y hC hd => ⟨by rfl, Tn.gives_val (.int .i64 (C : Int)) Y (by rfl) ⟨hC, Below.refl _ _, fun _ => rfl, (fun e => by cases e), (fun e => by cases e)⟩⟩) ?_
              simp only [Act.put, List.setIfInBounds_toArray, List.set_cons_succ, List.set_cons_zero, Nat.reduceAdd]
              rw [e7]
              refine Tn.spec_cons (fun Y hC hd => ⟨by rfl, Tn.gives_val (.int .i64 ((R * C : Nat) : Int)) Y (exec_bin .mul (.tmp 144) (.tmp 145) rfl rfl (R : Int) (C : Int) _ rfl rfl (run_mul _ _ _ (by simp) (by omega) (by have := HLt.out; have := HLe.out; omega))) ⟨hC, Below.refl _ _, fun _ => rfl, (fun e => by cases e), (fun e => by cases e)⟩⟩) ?_
              simp only [Act.put, List.setIfInBounds_toArray, List.set_cons_succ, List.set_cons_zero, Nat.reduceAdd]
              rw [e8]
              refine Tn.spec_cons (fun Y hC hd => ⟨by rfl, Tn.gives_val (.pointer (some ⟨w.heap.size + 1, 2, none⟩)) Y (exec_pf2 (.tmp 3) rfl (w.heap.size + 1) rfl) ⟨hC, Below.refl _ _, fun _ => rfl, (fun e => by cases e), (fun e => by cases e)⟩⟩) ?_
              simp only [Act.put, List.setIfInBounds_toArray, List.set_cons_succ, List.set_cons_zero, Nat.reduceAdd]
              rw [e9]
              refine Tn.spec_cons (fun Y hC hd => ⟨by rfl, Tn.gives_val (.int .i64 (R : Int)) Y (Bp.exec_load1 3 (.tmp 147) rfl ⟨w.heap.size + 1, 2, none⟩ rfl _ ((hC.cell (block_lt_of_cell p2)).trans p2) _ Try.underlying3 rfl) ⟨hC, Below.refl _ _, fun _ => rfl, (fun e => by cases e), (fun e => by cases e)⟩⟩) ?_
              simp only [Act.put, List.setIfInBounds_toArray, List.set_cons_succ, List.set_cons_zero, Nat.reduceAdd]
              rw [e10]
              refine Tn.spec_cons (fun Y hC hd => ⟨by rfl, Tn.gives_val (.int .i64 (C : Int)) Y (by rfl) ⟨hC, Below.refl _ _, fun _ => rfl, (fun e => by cases e), (fun e => by cases e)⟩⟩) ?_
              simp only [Act.put, List.setIfInBounds_toArray, List.set_cons_succ, List.set_cons_zero, Nat.reduceAdd]
              rw [e11]
              refine Tn.spec_cons (fun Y hC hd => ⟨by rfl, Tn.gives_val (.int .i64 ((R * C : Nat) : Int)) Y (exec_bin .mul (.tmp 148) (.tmp 149) rfl rfl (R : Int) (C : Int) _ rfl rfl (run_mul _ _ _ (by simp) (by omega) (by have := HLt.out; have := HLe.out; omega))) ⟨hC, Below.refl _ _, fun _ => rfl, (fun e => by cases e), (fun e => by cases e)⟩⟩) ?_
              simp only [Act.put, List.setIfInBounds_toArray, List.set_cons_succ, List.set_cons_zero, Nat.reduceAdd]
              rw [e12]
              refine Tn.spec_cons (fun Y hC hd => ⟨by rfl, Tn.gives_val (.int .i64 (C : Int)) Y (by rfl) ⟨hC, Below.refl _ _, fun _ => rfl, (fun e => by cases e), (fun e => by cases e)⟩⟩) ?_
              simp only [Act.put, List.setIfInBounds_toArray, List.set_cons_succ, List.set_cons_zero, Nat.reduceAdd]
              rw [e13]
              refine Tn.spec_cons (fun Y hC hd => ⟨by rfl, Tn.gives_val (.int .i64 ((R * C + C : Nat) : Int)) Y (exec_bin .add (.tmp 150) (.tmp 151) rfl rfl ((R * C : Nat) : Int) (C : Int) _ rfl rfl (run_add _ _ _ (by simp) (by omega) (by have := HLt.out; have := HLe.out; omega))) ⟨hC, Below.refl _ _, fun _ => rfl, (fun e => by cases e), (fun e => by cases e)⟩⟩) ?_
              simp only [Act.put, List.setIfInBounds_toArray, List.set_cons_succ, List.set_cons_zero, Nat.reduceAdd]
              rw [e14]
              refine Tn.spec_cons (fun Y hC hd => ⟨by rfl, Tn.gives_val (.slice (cutA sG cG (R * C)) C (cG - R * C)) Y (Cd.exec_cut 26 3 (.tmp 142) (some (.tmp 146)) (some (.tmp 152)) rfl Try.underlying26 _ (by have h9 := run_mid sG LG cG (R * C) (R * C + C) (by omega) (by have := HLt.out; have := HLe.out; omega) Y; rw [Nat.add_sub_cancel_left] at h9; exact h9)) ⟨hC, Below.refl _ _, fun _ => rfl, (fun e => by cases e), (fun e => by cases e)⟩⟩) ?_
              simp only [Act.put, List.setIfInBounds_toArray, List.set_cons_succ, List.set_cons_zero, Nat.reduceAdd]
              rw [e15]
              refine Tn.spec_cons (fun Y hC hd => ⟨by rfl, Tn.gives_call _ _ (Tn.exec_call1 19 (.tmp 153) #[26] _ rfl rfl (cf Try.func19 (by kernel_rfl) (by kernel_rfl) _ _)) ((Cd.ref_numbers Y (cutA sG cG (R * C)) (cG - R * C) C row HRl.out (Cd.Sl.below HNr.out (Nat.le_refl _) hC) HIn.out (by have := HC1.out; omega)).mono fun e2 Y' ⟨sp, cap, e3, h3, hb3⟩ => ⟨_, e3, hC.trans (hb3.mono hC.size), hb3, (fun h => by omega), (fun _ => ⟨sp, cap, rfl, h3⟩), (fun h => by omega)⟩)⟩) ?_
              simp only [Act.put, List.setIfInBounds_toArray, List.set_cons_succ, List.set_cons_zero, Nat.reduceAdd]
              rw [e16]
              refine Tn.spec_cons (fun Y hC hd => ⟨by rfl, Tn.gives_call _ _ (exec_call2 18 (.tmp 141) (.tmp 154) #[24, 24] _ _ rfl rfl rfl (cf Try.func18 (by kernel_rfl) (by kernel_rfl) _ _)) ?_⟩) ?_
              · obtain ⟨s9, c9, e9, hb9⟩ := (hd ⟨16, .data⟩ (by simp) (by kernel_rfl)).2.1 rfl
                rw [e16] at e9
                injection e9 with q1 _ q3
                subst q1 q3
                refine (Cd.bytes_any Y s2 spN (Cd.nums row).length (8 * C) c2 cpN (Cd.nums row) (Cd.nums row) rfl HLp.out (HLf9.out.byt.below hC) hb9).mono fun e2 Y' h => ?_
                obtain ⟨h1, h2⟩ := h.below
                exact ⟨_, h1, hC.trans (h2.mono hC.size), h2, (fun h => by omega), (fun h => by omega), (fun _ => by simp)⟩
              exact Tn.spec_nil
            intro u Y hu hC hP
            have e17 : u 17 = .bool true := (hu 17).2.2 rfl
            simp only [List.take_succ_cons, List.take_zero, List.drop_succ_cons, List.drop_zero, Tn.putAll, Act.put, List.setIfInBounds_toArray, List.set_cons_succ, List.set_cons_zero, Nat.reduceAdd]
            rw [e17]
            have HXY := Lib.hid (HX9.out.later hC)
            clear hu hC hP e17
            go_wp2_with (go_at_call 9; refine (awake_any _).mono ?_; rintro e wz ⟨rfl, hbz⟩; have HBz := Lib.hid hbz; clear hbz)
            go_ret
            exact ⟨rfl, (HXY.out.later HBz.out).below⟩
        · have hD := hi2 h10
          subst hD
          have e1 : ((K : Int) != 10) = true := by simp; omega
          have e2 : ((K : Int) == 10) = false := by simp; omega
          clear hi1 hi2
          by_cases hd : C < LG
          · have f1 : decide (C < LG) = true := by simpa using hd
            have f2 : decide ((C : Int) < (LG : Int)) = true := by simpa using hd
            clear hd h10 hi3
            go_upto_region 22 with fail
            clear c1 c5 p0
            have p2 : w9.cell? ⟨w.heap.size + 1, 2, none⟩ = some (.int .i64 (R : Int)) := HX9.out.pt 2
            refine Tn.wp_region_spec (C := fun W => Below w9.heap.size w9 W) (Le := fun A B => Below A.heap.size A B) 18
              (fun _ j W v => (j < 16 → v = ([.slice (some ⟨gL, oL, none⟩) LN capL, .int .i64 (A : Int), .pointer (some ⟨gL, oL + A, none⟩), .slice s2 (Cd.nums row).length c2, .slice sG LG cG, .pointer (some ⟨w.heap.size + 1, 2, none⟩), .int .i64 (R : Int), .int .i64 (C : Int), .int .i64 ((R * C : Nat) : Int), .pointer (some ⟨w.heap.size + 1, 2, none⟩), .int .i64 (R : Int), .int .i64 (C : Int), .int .i64 ((R * C : Nat) : Int), .int .i64 (C : Int), .int .i64 ((R * C + C : Nat) : Int), .slice (cutA sG cG (R * C)) C (cG - R * C)] : List Value).getD j undef) ∧ (j = 16 → ∃ sp cap, v = .slice sp (8 * C) cap ∧ Cd.Bytes W sp cap (Cd.nums row)) ∧ (j = 17 → v = .bool true))
              (by kernel_rfl) (by kernel_rfl) ⟨rfl, rfl, rfl, Nat.le_refl _, fun _ _ => rfl⟩ (fun _ _ _ _ _ _ h => h)
              (fun _ _ A B v hl h => ⟨h.1, (fun e => by obtain ⟨sp, cap, h1, h2⟩ := h.2.1 e; exact ⟨sp, cap, h1, h2.below hl⟩), h.2.2⟩)
              (fun j v => (j < 16 → v = ([.slice (some ⟨gL, oL, none⟩) LN capL, .int .i64 (A : Int), .pointer (some ⟨gL, oL + A, none⟩), .slice s2 (Cd.nums row).length c2, .slice sG LG cG, .pointer (some ⟨w.heap.size + 1, 2, none⟩), .int .i64 (R : Int), .int .i64 (C : Int), .int .i64 ((R * C : Nat) : Int), .pointer (some ⟨w.heap.size + 1, 2, none⟩), .int .i64 (R : Int), .int .i64 (C : Int), .int .i64 ((R * C : Nat) : Int), .int .i64 (C : Int), .int .i64 ((R * C + C : Nat) : Int), .slice (cutA sG cG (R * C)) C (cG - R * C)] : List Value).getD j undef) ∧ (j = 16 → ∃ sp cap, v = .slice sp (8 * C) cap) ∧ (j = 17 → v = .bool true)) (fun _ _ _ _ h => ⟨h.1, (fun e => by obtain ⟨sp, cap, h1, _⟩ := h.2.1 e; exact ⟨sp, cap, h1⟩), h.2.2⟩)
              (fun j => if j = 16 then .slice none (8 * C) 0 else if j = 17 then .bool true else ([.slice (some ⟨gL, oL, none⟩) LN capL, .int .i64 (A : Int), .pointer (some ⟨gL, oL + A, none⟩), .slice s2 (Cd.nums row).length c2, .slice sG LG cG, .pointer (some ⟨w.heap.size + 1, 2, none⟩), .int .i64 (R : Int), .int .i64 (C : Int), .int .i64 ((R * C : Nat) : Int), .pointer (some ⟨w.heap.size + 1, 2, none⟩), .int .i64 (R : Int), .int .i64 (C : Int), .int .i64 ((R * C : Nat) : Int), .int .i64 (C : Int), .int .i64 ((R * C + C : Nat) : Int), .slice (cutA sG cG (R * C)) C (cG - R * C)] : List Value).getD j undef) (fun j => ⟨fun e => by rw [if_neg (by omega), if_neg (by omega)], fun e => by rw [if_pos e]; exact ⟨_, _, rfl⟩, fun e => by rw [if_neg (by omega), if_pos e]⟩) ?_ ?_
            · intro u hu
              have e0 : u 0 = .slice (some ⟨gL, oL, none⟩) LN capL := (hu 0).1 (by decide)
              have e1 : u 1 = .int .i64 (A : Int) := (hu 1).1 (by decide)
              have e2 : u 2 = .pointer (some ⟨gL, oL + A, none⟩) := (hu 2).1 (by decide)
              have e3 : u 3 = .slice s2 (Cd.nums row).length c2 := (hu 3).1 (by decide)
              have e4 : u 4 = .slice sG LG cG := (hu 4).1 (by decide)
              have e5 : u 5 = .pointer (some ⟨w.heap.size + 1, 2, none⟩) := (hu 5).1 (by decide)
              have e6 : u 6 = .int .i64 (R : Int) := (hu 6).1 (by decide)
              have e7 : u 7 = .int .i64 (C : Int) := (hu 7).1 (by decide)
              have e8 : u 8 = .int .i64 ((R * C : Nat) : Int) := (hu 8).1 (by decide)
              have e9 : u 9 = .pointer (some ⟨w.heap.size + 1, 2, none⟩) := (hu 9).1 (by decide)
              have e10 : u 10 = .int .i64 (R : Int) := (hu 10).1 (by decide)
              have e11 : u 11 = .int .i64 (C : Int) := (hu 11).1 (by decide)
              have e12 : u 12 = .int .i64 ((R * C : Nat) : Int) := (hu 12).1 (by decide)
              have e13 : u 13 = .int .i64 (C : Int) := (hu 13).1 (by decide)
              have e14 : u 14 = .int .i64 ((R * C + C : Nat) : Int) := (hu 14).1 (by decide)
              have e15 : u 15 = .slice (cutA sG cG (R * C)) C (cG - R * C) := (hu 15).1 (by decide)
              obtain ⟨spN, cpN, e16⟩ := (hu 16).2.1 rfl
              simp only [List.take_succ_cons, List.take_zero]
              refine Tn.spec_cons (fun Y hC hd => ⟨by rfl, Tn.gives_val (.slice (some ⟨gL, oL, none⟩) LN capL) Y (by rfl) ⟨hC, Below.refl _ _, fun _ => rfl, (fun e => by cases e), (fun e => by cases e)⟩⟩) ?_
              simp only [Act.put, List.setIfInBounds_toArray, List.set_cons_succ, List.set_cons_zero, Nat.reduceAdd]
              rw [e0]
              refine Tn.spec_cons (fun Y hC hd => ⟨by rfl, Tn.gives_val (.int .i64 (A : Int)) Y (by rfl) ⟨hC, Below.refl _ _, fun _ => rfl, (fun e => by cases e), (fun e => by cases e)⟩⟩) ?_
              simp only [Act.put, List.setIfInBounds_toArray, List.set_cons_succ, List.set_cons_zero, Nat.reduceAdd]
              rw [e1]
              refine Tn.spec_cons (fun Y hC hd => ⟨by rfl, Tn.gives_val (.pointer (some ⟨gL, oL + A, none⟩)) Y (Bp.exec_at1 39 24 Try.underlying39 size39 (.tmp 138) (.tmp 139) rfl gL oL LN capL A rfl rfl HA.out) ⟨hC, Below.refl _ _, fun _ => rfl, (fun e => by cases e), (fun e => by cases e)⟩⟩) ?_
              simp only [Act.put, List.setIfInBounds_toArray, List.set_cons_succ, List.set_cons_zero, Nat.reduceAdd]
              rw [e2]
              refine Tn.spec_cons (fun Y hC hd => ⟨by rfl, Tn.gives_val (.slice s2 (Cd.nums row).length c2) Y (Bp.exec_load1 24 (.tmp 140) rfl ⟨gL, oL + A, none⟩ rfl _ ((hC.cell (block_lt_of_cell HLf9.out.cell)).trans HLf9.out.cell) _ Try.underlying24 rfl) ⟨hC, Below.refl _ _, fun _ => rfl, (fun e => by cases e), (fun e => by cases e)⟩⟩) ?_
              simp only [Act.put, List.setIfInBounds_toArray, List.set_cons_succ, List.set_cons_zero, Nat.reduceAdd]
              rw [e3]
              refine Tn.spec_cons (fun Y hC hd => ⟨by rfl, Tn.gives_val (.slice sG LG cG) Y (by rfl) ⟨hC, Below.refl _ _, fun _ => rfl, (fun e => by cases e), (fun e => by cases e)⟩⟩) ?_
              simp only [Act.put, List.setIfInBounds_toArray, List.set_cons_succ, List.set_cons_zero, Nat.reduceAdd]
              rw [e4]
              refine Tn.spec_cons (fun Y hC hd => ⟨by rfl, Tn.gives_val (.pointer (some ⟨w.heap.size + 1, 2, none⟩)) Y (exec_pf2 (.tmp 3) rfl (w.heap.size + 1) rfl) ⟨hC, Below.refl _ _, fun _ => rfl, (fun e => by cases e), (fun e => by cases e)⟩⟩) ?_
              simp only [Act.put, List.setIfInBounds_toArray, List.set_cons_succ, List.set_cons_zero, Nat.reduceAdd]
              rw [e5]
              refine Tn.spec_cons (fun Y hC hd => ⟨by rfl, Tn.gives_val (.int .i64 (R : Int)) Y (Bp.exec_load1 3 (.tmp 143) rfl ⟨w.heap.size + 1, 2, none⟩ rfl _ ((hC.cell (block_lt_of_cell p2)).trans p2) _ Try.underlying3 rfl) ⟨hC, Below.refl _ _, fun _ => rfl, (fun e => by cases e), (fun e => by cases e)⟩⟩) ?_
              simp only [Act.put, List.setIfInBounds_toArray, List.set_cons_succ, List.set_cons_zero, Nat.reduceAdd]
              rw [e6]
              refine Tn.spec_cons (fun Y hC hd => ⟨by rfl, Tn.gives_val (.int .i64 (C : Int)) Y (by rfl) ⟨hC, Below.refl _ _, fun _ => rfl, (fun e => by cases e), (fun e => by cases e)⟩⟩) ?_
              simp only [Act.put, List.setIfInBounds_toArray, List.set_cons_succ, List.set_cons_zero, Nat.reduceAdd]
              rw [e7]
              refine Tn.spec_cons (fun Y hC hd => ⟨by rfl, Tn.gives_val (.int .i64 ((R * C : Nat) : Int)) Y (exec_bin .mul (.tmp 144) (.tmp 145) rfl rfl (R : Int) (C : Int) _ rfl rfl (run_mul _ _ _ (by simp) (by omega) (by have := HLt.out; have := HLe.out; omega))) ⟨hC, Below.refl _ _, fun _ => rfl, (fun e => by cases e), (fun e => by cases e)⟩⟩) ?_
              simp only [Act.put, List.setIfInBounds_toArray, List.set_cons_succ, List.set_cons_zero, Nat.reduceAdd]
              rw [e8]
              refine Tn.spec_cons (fun Y hC hd => ⟨by rfl, Tn.gives_val (.pointer (some ⟨w.heap.size + 1, 2, none⟩)) Y (exec_pf2 (.tmp 3) rfl (w.heap.size + 1) rfl) ⟨hC, Below.refl _ _, fun _ => rfl, (fun e => by cases e), (fun e => by cases e)⟩⟩) ?_
              simp only [Act.put, List.setIfInBounds_toArray, List.set_cons_succ, List.set_cons_zero, Nat.reduceAdd]
              rw [e9]
              refine Tn.spec_cons (fun Y hC hd => ⟨by rfl, Tn.gives_val (.int .i64 (R : Int)) Y (Bp.exec_load1 3 (.tmp 147) rfl ⟨w.heap.size + 1, 2, none⟩ rfl _ ((hC.cell (block_lt_of_cell p2)).trans p2) _ Try.underlying3 rfl) ⟨hC, Below.refl _ _, fun _ => rfl, (fun e => by cases e), (fun e => by cases e)⟩⟩) ?_
              simp only [Act.put, List.setIfInBounds_toArray, List.set_cons_succ, List.set_cons_zero, Nat.reduceAdd]
              rw [e10]
              refine Tn.spec_cons (fun Y hC hd => ⟨by rfl, Tn.gives_val (.int .i64 (C : Int)) Y (by rfl) ⟨hC, Below.refl _ _, fun _ => rfl, (fun e => by cases e), (fun e => by cases e)⟩⟩) ?_
              simp only [Act.put, List.setIfInBounds_toArray, List.set_cons_succ, List.set_cons_zero, Nat.reduceAdd]
              rw [e11]
              refine Tn.spec_cons (fun Y hC hd => ⟨by rfl, Tn.gives_val (.int .i64 ((R * C : Nat) : Int)) Y (exec_bin .mul (.tmp 148) (.tmp 149) rfl rfl (R : Int) (C : Int) _ rfl rfl (run_mul _ _ _ (by simp) (by omega) (by have := HLt.out; have := HLe.out; omega))) ⟨hC, Below.refl _ _, fun _ => rfl, (fun e => by cases e), (fun e => by cases e)⟩⟩) ?_
              simp only [Act.put, List.setIfInBounds_toArray, List.set_cons_succ, List.set_cons_zero, Nat.reduceAdd]
              rw [e12]
              refine Tn.spec_cons (fun Y hC hd => ⟨by rfl, Tn.gives_val (.int .i64 (C : Int)) Y (by rfl) ⟨hC, Below.refl _ _, fun _ => rfl, (fun e => by cases e), (fun e => by cases e)⟩⟩) ?_
              simp only [Act.put, List.setIfInBounds_toArray, List.set_cons_succ, List.set_cons_zero, Nat.reduceAdd]
              rw [e13]
              refine Tn.spec_cons (fun Y hC hd => ⟨by rfl, Tn.gives_val (.int .i64 ((R * C + C : Nat) : Int)) Y (exec_bin .add (.tmp 150) (.tmp 151) rfl rfl ((R * C : Nat) : Int) (C : Int) _ rfl rfl (run_add _ _ _ (by simp) (by omega) (by have := HLt.out; have := HLe.out; omega))) ⟨hC, Below.refl _ _, fun _ => rfl, (fun e => by cases e), (fun e => by cases e)⟩⟩) ?_
              simp only [Act.put, List.setIfInBounds_toArray, List.set_cons_succ, List.set_cons_zero, Nat.reduceAdd]
              rw [e14]
              refine Tn.spec_cons (fun Y hC hd => ⟨by rfl, Tn.gives_val (.slice (cutA sG cG (R * C)) C (cG - R * C)) Y (Cd.exec_cut 26 3 (.tmp 142) (some (.tmp 146)) (some (.tmp 152)) rfl Try.underlying26 _ (by have h9 := run_mid sG LG cG (R * C) (R * C + C) (by omega) (by have := HLt.out; have := HLe.out; omega) Y; rw [Nat.add_sub_cancel_left] at h9; exact h9)) ⟨hC, Below.refl _ _, fun _ => rfl, (fun e => by cases e), (fun e => by cases e)⟩⟩) ?_
              simp only [Act.put, List.setIfInBounds_toArray, List.set_cons_succ, List.set_cons_zero, Nat.reduceAdd]
              rw [e15]
              refine Tn.spec_cons (fun Y hC hd => ⟨by rfl, Tn.gives_call _ _ (Tn.exec_call1 19 (.tmp 153) #[26] _ rfl rfl (cf Try.func19 (by kernel_rfl) (by kernel_rfl) _ _)) ((Cd.ref_numbers Y (cutA sG cG (R * C)) (cG - R * C) C row HRl.out (Cd.Sl.below HNr.out (Nat.le_refl _) hC) HIn.out (by have := HC1.out; omega)).mono fun e2 Y' ⟨sp, cap, e3, h3, hb3⟩ => ⟨_, e3, hC.trans (hb3.mono hC.size), hb3, (fun h => by omega), (fun _ => ⟨sp, cap, rfl, h3⟩), (fun h => by omega)⟩)⟩) ?_
              simp only [Act.put, List.setIfInBounds_toArray, List.set_cons_succ, List.set_cons_zero, Nat.reduceAdd]
              rw [e16]
              refine Tn.spec_cons (fun Y hC hd => ⟨by rfl, Tn.gives_call _ _ (exec_call2 18 (.tmp 141) (.tmp 154) #[24, 24] _ _ rfl rfl rfl (cf Try.func18 (by kernel_rfl) (by kernel_rfl) _ _)) ?_⟩) ?_
              · obtain ⟨s9, c9, e9, hb9⟩ := (hd ⟨16, .data⟩ (by simp) (by kernel_rfl)).2.1 rfl
                rw [e16] at e9
                injection e9 with q1 _ q3
                subst q1 q3
                refine (Cd.bytes_any Y s2 spN (Cd.nums row).length (8 * C) c2 cpN (Cd.nums row) (Cd.nums row) rfl HLp.out (HLf9.out.byt.below hC) hb9).mono fun e2 Y' h => ?_
                obtain ⟨h1, h2⟩ := h.below
                exact ⟨_, h1, hC.trans (h2.mono hC.size), h2, (fun h => by omega), (fun h => by omega), (fun _ => by simp)⟩
              exact Tn.spec_nil
            intro u Y hu hC hP
            have e17 : u 17 = .bool true := (hu 17).2.2 rfl
            simp only [List.take_succ_cons, List.take_zero, List.drop_succ_cons, List.drop_zero, Tn.putAll, Act.put, List.setIfInBounds_toArray, List.set_cons_succ, List.set_cons_zero, Nat.reduceAdd]
            rw [e17]
            have HXY := Lib.hid (HX9.out.later hC)
            clear hu hC hP e17
            go_wp2_with (go_at_call 9; refine (awake_any _).mono ?_; rintro e wz ⟨rfl, hbz⟩; have HBz := Lib.hid hbz; clear hbz)
            go_ret
            exact ⟨rfl, (HXY.out.later HBz.out).below⟩
          · have f1 : decide (C < LG) = false := by simpa using hd
            have f2 : decide ((C : Int) < (LG : Int)) = false := by simpa using hd
            have hLC : LG = C := hi3 h10 (by omega)
            clear hd h10 hi3
            by_cases h12 : K = 12
            · have e3 : ((K : Int) == 12) = true := by subst h12; rfl
              clear h12
              go_upto_region 22 with fail
              clear c1 c5 p0
              have p2 : w9.cell? ⟨w.heap.size + 1, 2, none⟩ = some (.int .i64 (R : Int)) := HX9.out.pt 2
              refine Tn.wp_region_spec (C := fun W => Below w9.heap.size w9 W) (Le := fun A B => Below A.heap.size A B) 18
                (fun _ j W v => (j < 16 → v = ([.slice (some ⟨gL, oL, none⟩) LN capL, .int .i64 (A : Int), .pointer (some ⟨gL, oL + A, none⟩), .slice s2 (Cd.nums row).length c2, .slice sG LG cG, .pointer (some ⟨w.heap.size + 1, 2, none⟩), .int .i64 (R : Int), .int .i64 (C : Int), .int .i64 ((R * C : Nat) : Int), .pointer (some ⟨w.heap.size + 1, 2, none⟩), .int .i64 (R : Int), .int .i64 (C : Int), .int .i64 ((R * C : Nat) : Int), .int .i64 (C : Int), .int .i64 ((R * C + C : Nat) : Int), .slice (cutA sG cG (R * C)) C (cG - R * C)] : List Value).getD j undef) ∧ (j = 16 → ∃ sp cap, v = .slice sp (8 * C) cap ∧ Cd.Bytes W sp cap (Cd.nums row)) ∧ (j = 17 → v = .bool true))
                (by kernel_rfl) (by kernel_rfl) ⟨rfl, rfl, rfl, Nat.le_refl _, fun _ _ => rfl⟩ (fun _ _ _ _ _ _ h => h)
                (fun _ _ A B v hl h => ⟨h.1, (fun e => by obtain ⟨sp, cap, h1, h2⟩ := h.2.1 e; exact ⟨sp, cap, h1, h2.below hl⟩), h.2.2⟩)
                (fun j v => (j < 16 → v = ([.slice (some ⟨gL, oL, none⟩) LN capL, .int .i64 (A : Int), .pointer (some ⟨gL, oL + A, none⟩), .slice s2 (Cd.nums row).length c2, .slice sG LG cG, .pointer (some ⟨w.heap.size + 1, 2, none⟩), .int .i64 (R : Int), .int .i64 (C : Int), .int .i64 ((R * C : Nat) : Int), .pointer (some ⟨w.heap.size + 1, 2, none⟩), .int .i64 (R : Int), .int .i64 (C : Int), .int .i64 ((R * C : Nat) : Int), .int .i64 (C : Int), .int .i64 ((R * C + C : Nat) : Int), .slice (cutA sG cG (R * C)) C (cG - R * C)] : List Value).getD j undef) ∧ (j = 16 → ∃ sp cap, v = .slice sp (8 * C) cap) ∧ (j = 17 → v = .bool true)) (fun _ _ _ _ h => ⟨h.1, (fun e => by obtain ⟨sp, cap, h1, _⟩ := h.2.1 e; exact ⟨sp, cap, h1⟩), h.2.2⟩)
                (fun j => if j = 16 then .slice none (8 * C) 0 else if j = 17 then .bool true else ([.slice (some ⟨gL, oL, none⟩) LN capL, .int .i64 (A : Int), .pointer (some ⟨gL, oL + A, none⟩), .slice s2 (Cd.nums row).length c2, .slice sG LG cG, .pointer (some ⟨w.heap.size + 1, 2, none⟩), .int .i64 (R : Int), .int .i64 (C : Int), .int .i64 ((R * C : Nat) : Int), .pointer (some ⟨w.heap.size + 1, 2, none⟩), .int .i64 (R : Int), .int .i64 (C : Int), .int .i64 ((R * C : Nat) : Int), .int .i64 (C : Int), .int .i64 ((R * C + C : Nat) : Int), .slice (cutA sG cG (R * C)) C (cG - R * C)] : List Value).getD j undef) (fun j => ⟨fun e => by rw [if_neg (by omega), if_neg (by omega)], fun e => by rw [if_pos e]; exact ⟨_, _, rfl⟩, fun e => by rw [if_neg (by omega), if_pos e]⟩) ?_ ?_
              · intro u hu
                have e0 : u 0 = .slice (some ⟨gL, oL, none⟩) LN capL := (hu 0).1 (by decide)
                have e1 : u 1 = .int .i64 (A : Int) := (hu 1).1 (by decide)
                have e2 : u 2 = .pointer (some ⟨gL, oL + A, none⟩) := (hu 2).1 (by decide)
                have e3 : u 3 = .slice s2 (Cd.nums row).length c2 := (hu 3).1 (by decide)
                have e4 : u 4 = .slice sG LG cG := (hu 4).1 (by decide)
                have e5 : u 5 = .pointer (some ⟨w.heap.size + 1, 2, none⟩) := (hu 5).1 (by decide)
                have e6 : u 6 = .int .i64 (R : Int) := (hu 6).1 (by decide)
                have e7 : u 7 = .int .i64 (C : Int) := (hu 7).1 (by decide)
                have e8 : u 8 = .int .i64 ((R * C : Nat) : Int) := (hu 8).1 (by decide)
                have e9 : u 9 = .pointer (some ⟨w.heap.size + 1, 2, none⟩) := (hu 9).1 (by decide)
                have e10 : u 10 = .int .i64 (R : Int) := (hu 10).1 (by decide)
                have e11 : u 11 = .int .i64 (C : Int) := (hu 11).1 (by decide)
                have e12 : u 12 = .int .i64 ((R * C : Nat) : Int) := (hu 12).1 (by decide)
                have e13 : u 13 = .int .i64 (C : Int) := (hu 13).1 (by decide)
                have e14 : u 14 = .int .i64 ((R * C + C : Nat) : Int) := (hu 14).1 (by decide)
                have e15 : u 15 = .slice (cutA sG cG (R * C)) C (cG - R * C) := (hu 15).1 (by decide)
                obtain ⟨spN, cpN, e16⟩ := (hu 16).2.1 rfl
                simp only [List.take_succ_cons, List.take_zero]
                refine Tn.spec_cons (fun Y hC hd => ⟨by rfl, Tn.gives_val (.slice (some ⟨gL, oL, none⟩) LN capL) Y (by rfl) ⟨hC, Below.refl _ _, fun _ => rfl, (fun e => by cases e), (fun e => by cases e)⟩⟩) ?_
                simp only [Act.put, List.setIfInBounds_toArray, List.set_cons_succ, List.set_cons_zero, Nat.reduceAdd]
                rw [e0]
                refine Tn.spec_cons (fun Y hC hd => ⟨by rfl, Tn.gives_val (.int .i64 (A : Int)) Y (by rfl) ⟨hC, Below.refl _ _, fun _ => rfl, (fun e => by cases e), (fun e => by cases e)⟩⟩) ?_
                simp only [Act.put, List.setIfInBounds_toArray, List.set_cons_succ, List.set_cons_zero, Nat.reduceAdd]
                rw [e1]
                refine Tn.spec_cons (fun Y hC hd => ⟨by rfl, Tn.gives_val (.pointer (some ⟨gL, oL + A, none⟩)) Y (Bp.exec_at1 39 24 Try.underlying39 size39 (.tmp 138) (.tmp 139) rfl gL oL LN capL A rfl rfl HA.out) ⟨hC, Below.refl _ _, fun _ => rfl, (fun e => by cases e), (fun e => by cases e)⟩⟩) ?_
                simp only [Act.put, List.setIfInBounds_toArray, List.set_cons_succ, List.set_cons_zero, Nat.reduceAdd]
                rw [e2]
                refine Tn.spec_cons (fun Y hC hd => ⟨by rfl, Tn.gives_val (.slice s2 (Cd.nums row).length c2) Y (Bp.exec_load1 24 (.tmp 140) rfl ⟨gL, oL + A, none⟩ rfl _ ((hC.cell (block_lt_of_cell HLf9.out.cell)).trans HLf9.out.cell) _ Try.underlying24 rfl) ⟨hC, Below.refl _ _, fun _ => rfl, (fun e => by cases e), (fun e => by cases e)⟩⟩) ?_
                simp only [Act.put, List.setIfInBounds_toArray, List.set_cons_succ, List.set_cons_zero, Nat.reduceAdd]
                rw [e3]
                refine Tn.spec_cons (fun Y hC hd => ⟨by rfl, Tn.gives_val (.slice sG LG cG) Y (by rfl) ⟨hC, Below.refl _ _, fun _ => rfl, (fun e => by cases e), (fun e => by cases e)⟩⟩) ?_
                simp only [Act.put, List.setIfInBounds_toArray, List.set_cons_succ, List.set_cons_zero, Nat.reduceAdd]
                rw [e4]
                refine Tn.spec_cons (fun Y hC hd => ⟨by rfl, Tn.gives_val (.pointer (some ⟨w.heap.size + 1, 2, none⟩)) Y (exec_pf2 (.tmp 3) rfl (w.heap.size + 1) rfl) ⟨hC, Below.refl _ _, fun _ => rfl, (fun e => by cases e), (fun e => by cases e)⟩⟩) ?_
                simp only [Act.put, List.setIfInBounds_toArray, List.set_cons_succ, List.set_cons_zero, Nat.reduceAdd]
                rw [e5]
                refine Tn.spec_cons (fun Y hC hd => ⟨by rfl, Tn.gives_val (.int .i64 (R : Int)) Y (Bp.exec_load1 3 (.tmp 143) rfl ⟨w.heap.size + 1, 2, none⟩ rfl _ ((hC.cell (block_lt_of_cell p2)).trans p2) _ Try.underlying3 rfl) ⟨hC, Below.refl _ _, fun _ => rfl, (fun e => by cases e), (fun e => by cases e)⟩⟩) ?_
                simp only [Act.put, List.setIfInBounds_toArray, List.set_cons_succ, List.set_cons_zero, Nat.reduceAdd]
                rw [e6]
                refine Tn.spec_cons (fun Y hC hd => ⟨by rfl, Tn.gives_val (.int .i64 (C : Int)) Y (by rfl) ⟨hC, Below.refl _ _, fun _ => rfl, (fun e => by cases e), (fun e => by cases e)⟩⟩) ?_
                simp only [Act.put, List.setIfInBounds_toArray, List.set_cons_succ, List.set_cons_zero, Nat.reduceAdd]
                rw [e7]
                refine Tn.spec_cons (fun Y hC hd => ⟨by rfl, Tn.gives_val (.int .i64 ((R * C : Nat) : Int)) Y (exec_bin .mul (.tmp 144) (.tmp 145) rfl rfl (R : Int) (C : Int) _ rfl rfl (run_mul _ _ _ (by simp) (by omega) (by have := HLt.out; have := HLe.out; omega))) ⟨hC, Below.refl _ _, fun _ => rfl, (fun e => by cases e), (fun e => by cases e)⟩⟩) ?_
                simp only [Act.put, List.setIfInBounds_toArray, List.set_cons_succ, List.set_cons_zero, Nat.reduceAdd]
                rw [e8]
                refine Tn.spec_cons (fun Y hC hd => ⟨by rfl, Tn.gives_val (.pointer (some ⟨w.heap.size + 1, 2, none⟩)) Y (exec_pf2 (.tmp 3) rfl (w.heap.size + 1) rfl) ⟨hC, Below.refl _ _, fun _ => rfl, (fun e => by cases e), (fun e => by cases e)⟩⟩) ?_
                simp only [Act.put, List.setIfInBounds_toArray, List.set_cons_succ, List.set_cons_zero, Nat.reduceAdd]
                rw [e9]
                refine Tn.spec_cons (fun Y hC hd => ⟨by rfl, Tn.gives_val (.int .i64 (R : Int)) Y (Bp.exec_load1 3 (.tmp 147) rfl ⟨w.heap.size + 1, 2, none⟩ rfl _ ((hC.cell (block_lt_of_cell p2)).trans p2) _ Try.underlying3 rfl) ⟨hC, Below.refl _ _, fun _ => rfl, (fun e => by cases e), (fun e => by cases e)⟩⟩) ?_
                simp only [Act.put, List.setIfInBounds_toArray, List.set_cons_succ, List.set_cons_zero, Nat.reduceAdd]
                rw [e10]
                refine Tn.spec_cons (fun Y hC hd => ⟨by rfl, Tn.gives_val (.int .i64 (C : Int)) Y (by rfl) ⟨hC, Below.refl _ _, fun _ => rfl, (fun e => by cases e), (fun e => by cases e)⟩⟩) ?_
                simp only [Act.put, List.setIfInBounds_toArray, List.set_cons_succ, List.set_cons_zero, Nat.reduceAdd]
                rw [e11]
                refine Tn.spec_cons (fun Y hC hd => ⟨by rfl, Tn.gives_val (.int .i64 ((R * C : Nat) : Int)) Y (exec_bin .mul (.tmp 148) (.tmp 149) rfl rfl (R : Int) (C : Int) _ rfl rfl (run_mul _ _ _ (by simp) (by omega) (by have := HLt.out; have := HLe.out; omega))) ⟨hC, Below.refl _ _, fun _ => rfl, (fun e => by cases e), (fun e => by cases e)⟩⟩) ?_
                simp only [Act.put, List.setIfInBounds_toArray, List.set_cons_succ, List.set_cons_zero, Nat.reduceAdd]
                rw [e12]
                refine Tn.spec_cons (fun Y hC hd => ⟨by rfl, Tn.gives_val (.int .i64 (C : Int)) Y (by rfl) ⟨hC, Below.refl _ _, fun _ => rfl, (fun e => by cases e), (fun e => by cases e)⟩⟩) ?_
                simp only [Act.put, List.setIfInBounds_toArray, List.set_cons_succ, List.set_cons_zero, Nat.reduceAdd]
                rw [e13]
                refine Tn.spec_cons (fun Y hC hd => ⟨by rfl, Tn.gives_val (.int .i64 ((R * C + C : Nat) : Int)) Y (exec_bin .add (.tmp 150) (.tmp 151) rfl rfl ((R * C : Nat) : Int) (C : Int) _ rfl rfl (run_add _ _ _ (by simp) (by omega) (by have := HLt.out; have := HLe.out; omega))) ⟨hC, Below.refl _ _, fun _ => rfl, (fun e => by cases e), (fun e => by cases e)⟩⟩) ?_
                simp only [Act.put, List.setIfInBounds_toArray, List.set_cons_succ, List.set_cons_zero, Nat.reduceAdd]
                rw [e14]
                refine Tn.spec_cons (fun Y hC hd => ⟨by rfl, Tn.gives_val (.slice (cutA sG cG (R * C)) C (cG - R * C)) Y (Cd.exec_cut 26 3 (.tmp 142) (some (.tmp 146)) (some (.tmp 152)) rfl Try.underlying26 _ (by have h9 := run_mid sG LG cG (R * C) (R * C + C) (by omega) (by have := HLt.out; have := HLe.out; omega) Y; rw [Nat.add_sub_cancel_left] at h9; exact h9)) ⟨hC, Below.refl _ _, fun _ => rfl, (fun e => by cases e), (fun e => by cases e)⟩⟩) ?_
                simp only [Act.put, List.setIfInBounds_toArray, List.set_cons_succ, List.set_cons_zero, Nat.reduceAdd]
                rw [e15]
                refine Tn.spec_cons (fun Y hC hd => ⟨by rfl, Tn.gives_call _ _ (Tn.exec_call1 19 (.tmp 153) #[26] _ rfl rfl (cf Try.func19 (by kernel_rfl) (by kernel_rfl) _ _)) ((Cd.ref_numbers Y (cutA sG cG (R * C)) (cG - R * C) C row HRl.out (Cd.Sl.below HNr.out (Nat.le_refl _) hC) HIn.out (by have := HC1.out; omega)).mono fun e2 Y' ⟨sp, cap, e3, h3, hb3⟩ => ⟨_, e3, hC.trans (hb3.mono hC.size), hb3, (fun h => by omega), (fun _ => ⟨sp, cap, rfl, h3⟩), (fun h => by omega)⟩)⟩) ?_
                simp only [Act.put, List.setIfInBounds_toArray, List.set_cons_succ, List.set_cons_zero, Nat.reduceAdd]
                rw [e16]
                refine Tn.spec_cons (fun Y hC hd => ⟨by rfl, Tn.gives_call _ _ (exec_call2 18 (.tmp 141) (.tmp 154) #[24, 24] _ _ rfl rfl rfl (cf Try.func18 (by kernel_rfl) (by kernel_rfl) _ _)) ?_⟩) ?_
                · obtain ⟨s9, c9, e9, hb9⟩ := (hd ⟨16, .data⟩ (by simp) (by kernel_rfl)).2.1 rfl
                  rw [e16] at e9
                  injection e9 with q1 _ q3
                  subst q1 q3
                  refine (Cd.bytes_any Y s2 spN (Cd.nums row).length (8 * C) c2 cpN (Cd.nums row) (Cd.nums row) rfl HLp.out (HLf9.out.byt.below hC) hb9).mono fun e2 Y' h => ?_
                  obtain ⟨h1, h2⟩ := h.below
                  exact ⟨_, h1, hC.trans (h2.mono hC.size), h2, (fun h => by omega), (fun h => by omega), (fun _ => by simp)⟩
                exact Tn.spec_nil
              intro u Y hu hC hP
              have e17 : u 17 = .bool true := (hu 17).2.2 rfl
              simp only [List.take_succ_cons, List.take_zero, List.drop_succ_cons, List.drop_zero, Tn.putAll, Act.put, List.setIfInBounds_toArray, List.set_cons_succ, List.set_cons_zero, Nat.reduceAdd]
              rw [e17]
              have HXY := Lib.hid (HX9.out.later hC)
              clear hu hC hP e17
              go_wp2_with (go_at_call 9; refine (awake_any _).mono ?_; rintro e wz ⟨rfl, hbz⟩; have HBz := Lib.hid hbz; clear hbz)
              go_ret
              exact ⟨rfl, (HXY.out.later HBz.out).below⟩
            · have e3 : ((K : Int) == 12) = false := by simp; omega
              clear h12
              by_cases h1 : K = 1
              · have e4 : ((K : Int) == 1) = true := by subst h1; rfl
                clear h1
                go_upto_region 22 with fail
                clear c1 c5 p0
                have p2 : w9.cell? ⟨w.heap.size + 1, 2, none⟩ = some (.int .i64 (R : Int)) := HX9.out.pt 2
                refine Tn.wp_region_spec (C := fun W => Below w9.heap.size w9 W) (Le := fun A B => Below A.heap.size A B) 18
                  (fun _ j W v => (j < 16 → v = ([.slice (some ⟨gL, oL, none⟩) LN capL, .int .i64 (A : Int), .pointer (some ⟨gL, oL + A, none⟩), .slice s2 (Cd.nums row).length c2, .slice sG LG cG, .pointer (some ⟨w.heap.size + 1, 2, none⟩), .int .i64 (R : Int), .int .i64 (C : Int), .int .i64 ((R * C : Nat) : Int), .pointer (some ⟨w.heap.size + 1, 2, none⟩), .int .i64 (R : Int), .int .i64 (C : Int), .int .i64 ((R * C : Nat) : Int), .int .i64 (C : Int), .int .i64 ((R * C + C : Nat) : Int), .slice (cutA sG cG (R * C)) C (cG - R * C)] : List Value).getD j undef) ∧ (j = 16 → ∃ sp cap, v = .slice sp (8 * C) cap ∧ Cd.Bytes W sp cap (Cd.nums row)) ∧ (j = 17 → v = .bool true))
                  (by kernel_rfl) (by kernel_rfl) ⟨rfl, rfl, rfl, Nat.le_refl _, fun _ _ => rfl⟩ (fun _ _ _ _ _ _ h => h)
                  (fun _ _ A B v hl h => ⟨h.1, (fun e => by obtain ⟨sp, cap, h1, h2⟩ := h.2.1 e; exact ⟨sp, cap, h1, h2.below hl⟩), h.2.2⟩)
                  (fun j v => (j < 16 → v = ([.slice (some ⟨gL, oL, none⟩) LN capL, .int .i64 (A : Int), .pointer (some ⟨gL, oL + A, none⟩), .slice s2 (Cd.nums row).length c2, .slice sG LG cG, .pointer (some ⟨w.heap.size + 1, 2, none⟩), .int .i64 (R : Int), .int .i64 (C : Int), .int .i64 ((R * C : Nat) : Int), .pointer (some ⟨w.heap.size + 1, 2, none⟩), .int .i64 (R : Int), .int .i64 (C : Int), .int .i64 ((R * C : Nat) : Int), .int .i64 (C : Int), .int .i64 ((R * C + C : Nat) : Int), .slice (cutA sG cG (R * C)) C (cG - R * C)] : List Value).getD j undef) ∧ (j = 16 → ∃ sp cap, v = .slice sp (8 * C) cap) ∧ (j = 17 → v = .bool true)) (fun _ _ _ _ h => ⟨h.1, (fun e => by obtain ⟨sp, cap, h1, _⟩ := h.2.1 e; exact ⟨sp, cap, h1⟩), h.2.2⟩)
                  (fun j => if j = 16 then .slice none (8 * C) 0 else if j = 17 then .bool true else ([.slice (some ⟨gL, oL, none⟩) LN capL, .int .i64 (A : Int), .pointer (some ⟨gL, oL + A, none⟩), .slice s2 (Cd.nums row).length c2, .slice sG LG cG, .pointer (some ⟨w.heap.size + 1, 2, none⟩), .int .i64 (R : Int), .int .i64 (C : Int), .int .i64 ((R * C : Nat) : Int), .pointer (some ⟨w.heap.size + 1, 2, none⟩), .int .i64 (R : Int), .int .i64 (C : Int), .int .i64 ((R * C : Nat) : Int), .int .i64 (C : Int), .int .i64 ((R * C + C : Nat) : Int), .slice (cutA sG cG (R * C)) C (cG - R * C)] : List Value).getD j undef) (fun j => ⟨fun e => by rw [if_neg (by omega), if_neg (by omega)], fun e => by rw [if_pos e]; exact ⟨_, _, rfl⟩, fun e => by rw [if_neg (by omega), if_pos e]⟩) ?_ ?_
                · intro u hu
                  have e0 : u 0 = .slice (some ⟨gL, oL, none⟩) LN capL := (hu 0).1 (by decide)
                  have e1 : u 1 = .int .i64 (A : Int) := (hu 1).1 (by decide)
                  have e2 : u 2 = .pointer (some ⟨gL, oL + A, none⟩) := (hu 2).1 (by decide)
                  have e3 : u 3 = .slice s2 (Cd.nums row).length c2 := (hu 3).1 (by decide)
                  have e4 : u 4 = .slice sG LG cG := (hu 4).1 (by decide)
                  have e5 : u 5 = .pointer (some ⟨w.heap.size + 1, 2, none⟩) := (hu 5).1 (by decide)
                  have e6 : u 6 = .int .i64 (R : Int) := (hu 6).1 (by decide)
                  have e7 : u 7 = .int .i64 (C : Int) := (hu 7).1 (by decide)
                  have e8 : u 8 = .int .i64 ((R * C : Nat) : Int) := (hu 8).1 (by decide)
                  have e9 : u 9 = .pointer (some ⟨w.heap.size + 1, 2, none⟩) := (hu 9).1 (by decide)
                  have e10 : u 10 = .int .i64 (R : Int) := (hu 10).1 (by decide)
                  have e11 : u 11 = .int .i64 (C : Int) := (hu 11).1 (by decide)
                  have e12 : u 12 = .int .i64 ((R * C : Nat) : Int) := (hu 12).1 (by decide)
                  have e13 : u 13 = .int .i64 (C : Int) := (hu 13).1 (by decide)
                  have e14 : u 14 = .int .i64 ((R * C + C : Nat) : Int) := (hu 14).1 (by decide)
                  have e15 : u 15 = .slice (cutA sG cG (R * C)) C (cG - R * C) := (hu 15).1 (by decide)
                  obtain ⟨spN, cpN, e16⟩ := (hu 16).2.1 rfl
                  simp only [List.take_succ_cons, List.take_zero]
                  refine Tn.spec_cons (fun Y hC hd => ⟨by rfl, Tn.gives_val (.slice (some ⟨gL, oL, none⟩) LN capL) Y (by rfl) ⟨hC, Below.refl _ _, fun _ => rfl, (fun e => by cases e), (fun e => by cases e)⟩⟩) ?_
                  simp only [Act.put, List.setIfInBounds_toArray, List.set_cons_succ, List.set_cons_zero, Nat.reduceAdd]
                  rw [e0]
                  refine Tn.spec_cons (fun Y hC hd => ⟨by rfl, Tn.gives_val (.int .i64 (A : Int)) Y (by rfl) ⟨hC, Below.refl _ _, fun _ => rfl, (fun e => by cases e), (fun e => by cases e)⟩⟩) ?_
                  simp only [Act.put, List.setIfInBounds_toArray, List.set_cons_succ, List.set_cons_zero, Nat.reduceAdd]
                  rw [e1]
                  refine Tn.spec_cons (fun Y hC hd => ⟨by rfl, Tn.gives_val (.pointer (some ⟨gL, oL + A, none⟩)) Y (Bp.exec_at1 39 24 Try.underlying39 size39 (.tmp 138) (.tmp 139) rfl gL oL LN capL A rfl rfl HA.out) ⟨hC, Below.refl _ _, fun _ => rfl, (fun e => by cases e), (fun e => by cases e)⟩⟩) ?_
                  simp only [Act.put, List.setIfInBounds_toArray, List.set_cons_succ, List.set_cons_zero, Nat.reduceAdd]
                  rw [e2]
                  refine Tn.spec_cons (fun Y hC hd => ⟨by rfl, Tn.gives_val (.slice s2 (Cd.nums row).length c2) Y (Bp.exec_load1 24 (.tmp 140) rfl ⟨gL, oL + A, none⟩ rfl _ ((hC.cell (block_lt_of_cell HLf9.out.cell)).trans HLf9.out.cell) _ Try.underlying24 rfl) ⟨hC, Below.refl _ _, fun _ => rfl, (fun e => by cases e), (fun e => by cases e)⟩⟩) ?_
                  simp only [Act.put, List.setIfInBounds_toArray, List.set_cons_succ, List.set_cons_zero, Nat.reduceAdd]
                  rw [e3]
                  refine Tn.spec_cons (fun Y hC hd => ⟨by rfl, Tn.gives_val (.slice sG LG cG) Y (by rfl) ⟨hC, Below.refl _ _, fun _ => rfl, (fun e => by cases e), (fun e => by cases e)⟩⟩) ?_
                  simp only [Act.put, List.setIfInBounds_toArray, List.set_cons_succ, List.set_cons_zero, Nat.reduceAdd]
                  rw [e4]
                  refine Tn.spec_cons (fun Y hC hd => ⟨by rfl, Tn.gives_val (.pointer (some ⟨w.heap.size + 1, 2, none⟩)) Y (exec_pf2 (.tmp 3) rfl (w.heap.size + 1) rfl) ⟨hC, Below.refl _ _, fun _ => rfl, (fun e => by cases e), (fun e => by cases e)⟩⟩) ?_
                  simp only [Act.put, List.setIfInBounds_toArray, List.set_cons_succ, List.set_cons_zero, Nat.reduceAdd]
                  rw [e5]
                  refine Tn.spec_cons (fun Y hC hd => ⟨by rfl, Tn.gives_val (.int .i64 (R : Int)) Y (Bp.exec_load1 3 (.tmp 143) rfl ⟨w.heap.size + 1, 2, none⟩ rfl _ ((hC.cell (block_lt_of_cell p2)).trans p2) _ Try.underlying3 rfl) ⟨hC, Below.refl _ _, fun _ => rfl, (fun e => by cases e), (fun e => by cases e)⟩⟩) ?_
                  simp only [Act.put, List.setIfInBounds_toArray, List.set_cons_succ, List.set_cons_zero, Nat.reduceAdd]
                  rw [e6]
                  refine Tn.spec_cons (fun Y hC hd => ⟨by rfl, Tn.gives_val (.int .i64 (C : Int)) Y (by rfl) ⟨hC, Below.refl _ _, fun _ => rfl, (fun e => by cases e), (fun e => by cases e)⟩⟩) ?_
                  simp only [Act.put, List.setIfInBounds_toArray, List.set_cons_succ, List.set_cons_zero, Nat.reduceAdd]
                  rw [e7]
                  refine Tn.spec_cons (fun Y hC hd => ⟨by rfl, Tn.gives_val (.int .i64 ((R * C : Nat) : Int)) Y (exec_bin .mul (.tmp 144) (.tmp 145) rfl rfl (R : Int) (C : Int) _ rfl rfl (run_mul _ _ _ (by simp) (by omega) (by have := HLt.out; have := HLe.out; omega))) ⟨hC, Below.refl _ _, fun _ => rfl, (fun e => by cases e), (fun e => by cases e)⟩⟩) ?_
                  simp only [Act.put, List.setIfInBounds_toArray, List.set_cons_succ, List.set_cons_zero, Nat.reduceAdd]
                  rw [e8]
                  refine Tn.spec_cons (fun Y hC hd => ⟨by rfl, Tn.gives_val (.pointer (some ⟨w.heap.size + 1, 2, none⟩)) Y (exec_pf2 (.tmp 3) rfl (w.heap.size + 1) rfl) ⟨hC, Below.refl _ _, fun _ => rfl, (fun e => by cases e), (fun e => by cases e)⟩⟩) ?_
                  simp only [Act.put, List.setIfInBounds_toArray, List.set_cons_succ, List.set_cons_zero, Nat.reduceAdd]
                  rw [e9]
                  refine Tn.spec_cons (fun Y hC hd => ⟨by rfl, Tn.gives_val (.int .i64 (R : Int)) Y (Bp.exec_load1 3 (.tmp 147) rfl ⟨w.heap.size + 1, 2, none⟩ rfl _ ((hC.cell (block_lt_of_cell p2)).trans p2) _ Try.underlying3 rfl) ⟨hC, Below.refl _ _, fun _ => rfl, (fun e => by cases e), (fun e => by cases e)⟩⟩) ?_
                  simp only [Act.put, List.setIfInBounds_toArray, List.set_cons_succ, List.set_cons_zero, Nat.reduceAdd]
                  rw [e10]
                  refine Tn.spec_cons (fun Y hC hd => ⟨by rfl, Tn.gives_val (.int .i64 (C : Int)) Y (by rfl) ⟨hC, Below.refl _ _, fun _ => rfl, (fun e => by cases e), (fun e => by cases e)⟩⟩) ?_
                  simp only [Act.put, List.setIfInBounds_toArray, List.set_cons_succ, List.set_cons_zero, Nat.reduceAdd]
                  rw [e11]
                  refine Tn.spec_cons (fun Y hC hd => ⟨by rfl, Tn.gives_val (.int .i64 ((R * C : Nat) : Int)) Y (exec_bin .mul (.tmp 148) (.tmp 149) rfl rfl (R : Int) (C : Int) _ rfl rfl (run_mul _ _ _ (by simp) (by omega) (by have := HLt.out; have := HLe.out; omega))) ⟨hC, Below.refl _ _, fun _ => rfl, (fun e => by cases e), (fun e => by cases e)⟩⟩) ?_
                  simp only [Act.put, List.setIfInBounds_toArray, List.set_cons_succ, List.set_cons_zero, Nat.reduceAdd]
                  rw [e12]
                  refine Tn.spec_cons (fun Y hC hd => ⟨by rfl, Tn.gives_val (.int .i64 (C : Int)) Y (by rfl) ⟨hC, Below.refl _ _, fun _ => rfl, (fun e => by cases e), (fun e => by cases e)⟩⟩) ?_
                  simp only [Act.put, List.setIfInBounds_toArray, List.set_cons_succ, List.set_cons_zero, Nat.reduceAdd]
                  rw [e13]
                  refine Tn.spec_cons (fun Y hC hd => ⟨by rfl, Tn.gives_val (.int .i64 ((R * C + C : Nat) : Int)) Y (exec_bin .add (.tmp 150) (.tmp 151) rfl rfl ((R * C : Nat) : Int) (C : Int) _ rfl rfl (run_add _ _ _ (by simp) (by omega) (by have := HLt.out; have := HLe.out; omega))) ⟨hC, Below.refl _ _, fun _ => rfl, (fun e => by cases e), (fun e => by cases e)⟩⟩) ?_
                  simp only [Act.put, List.setIfInBounds_toArray, List.set_cons_succ, List.set_cons_zero, Nat.reduceAdd]
                  rw [e14]
                  refine Tn.spec_cons (fun Y hC hd => ⟨by rfl, Tn.gives_val (.slice (cutA sG cG (R * C)) C (cG - R * C)) Y (Cd.exec_cut 26 3 (.tmp 142) (some (.tmp 146)) (some (.tmp 152)) rfl Try.underlying26 _ (by have h9 := run_mid sG LG cG (R * C) (R * C + C) (by omega) (by have := HLt.out; have := HLe.out; omega) Y; rw [Nat.add_sub_cancel_left] at h9; exact h9)) ⟨hC, Below.refl _ _, fun _ => rfl, (fun e => by cases e), (fun e => by cases e)⟩⟩) ?_
                  simp only [Act.put, List.setIfInBounds_toArray, List.set_cons_succ, List.set_cons_zero, Nat.reduceAdd]
                  rw [e15]
                  refine Tn.spec_cons (fun Y hC hd => ⟨by rfl, Tn.gives_call _ _ (Tn.exec_call1 19 (.tmp 153) #[26] _ rfl rfl (cf Try.func19 (by kernel_rfl) (by kernel_rfl) _ _)) ((Cd.ref_numbers Y (cutA sG cG (R * C)) (cG - R * C) C row HRl.out (Cd.Sl.below HNr.out (Nat.le_refl _) hC) HIn.out (by have := HC1.out; omega)).mono fun e2 Y' ⟨sp, cap, e3, h3, hb3⟩ => ⟨_, e3, hC.trans (hb3.mono hC.size), hb3, (fun h => by omega), (fun _ => ⟨sp, cap, rfl, h3⟩), (fun h => by omega)⟩)⟩) ?_
                  simp only [Act.put, List.setIfInBounds_toArray, List.set_cons_succ, List.set_cons_zero, Nat.reduceAdd]
                  rw [e16]
                  refine Tn.spec_cons (fun Y hC hd => ⟨by rfl, Tn.gives_call _ _ (exec_call2 18 (.tmp 141) (.tmp 154) #[24, 24] _ _ rfl rfl rfl (cf Try.func18 (by kernel_rfl) (by kernel_rfl) _ _)) ?_⟩) ?_
                  · obtain ⟨s9, c9, e9, hb9⟩ := (hd ⟨16, .data⟩ (by simp) (by kernel_rfl)).2.1 rfl
                    rw [e16] at e9
                    injection e9 with q1 _ q3
                    subst q1 q3
                    refine (Cd.bytes_any Y s2 spN (Cd.nums row).length (8 * C) c2 cpN (Cd.nums row) (Cd.nums row) rfl HLp.out (HLf9.out.byt.below hC) hb9).mono fun e2 Y' h => ?_
                    obtain ⟨h1, h2⟩ := h.below
                    exact ⟨_, h1, hC.trans (h2.mono hC.size), h2, (fun h => by omega), (fun h => by omega), (fun _ => by simp)⟩
                  exact Tn.spec_nil
                intro u Y hu hC hP
                have e17 : u 17 = .bool true := (hu 17).2.2 rfl
                simp only [List.take_succ_cons, List.take_zero, List.drop_succ_cons, List.drop_zero, Tn.putAll, Act.put, List.setIfInBounds_toArray, List.set_cons_succ, List.set_cons_zero, Nat.reduceAdd]
                rw [e17]
                have HXY := Lib.hid (HX9.out.later hC)
                clear hu hC hP e17
                go_wp2_with (go_at_call 9; refine (awake_any _).mono ?_; rintro e wz ⟨rfl, hbz⟩; have HBz := Lib.hid hbz; clear hbz)
                go_ret
                exact ⟨rfl, (HXY.out.later HBz.out).below⟩
              · have e4 : ((K : Int) == 1) = false := by simp; omega
                clear h1
                go_upto_region 22 with fail
                have hCL := hLC
                clear hLC
                subst LG
                clear c1 c5 p0
                have p2 : w9.cell? ⟨w.heap.size + 1, 2, none⟩ = some (.int .i64 (R : Int)) := HX9.out.pt 2
                refine Tn.wp_region_spec (C := fun W => Below w9.heap.size w9 W) (Le := fun A B => Below A.heap.size A B) 18
                  (fun _ j W v => (j < 16 → v = ([.slice (some ⟨gL, oL, none⟩) LN capL, .int .i64 (A : Int), .pointer (some ⟨gL, oL + A, none⟩), .slice s2 (Cd.nums row).length c2, .slice sG C cG, .pointer (some ⟨w.heap.size + 1, 2, none⟩), .int .i64 (R : Int), .int .i64 (C : Int), .int .i64 ((R * C : Nat) : Int), .pointer (some ⟨w.heap.size + 1, 2, none⟩), .int .i64 (R : Int), .int .i64 (C : Int), .int .i64 ((R * C : Nat) : Int), .int .i64 (C : Int), .int .i64 ((R * C + C : Nat) : Int), .slice (cutA sG cG (R * C)) C (cG - R * C)] : List Value).getD j undef) ∧ (j = 16 → ∃ sp cap, v = .slice sp (8 * C) cap ∧ Cd.Bytes W sp cap (Cd.nums row)) ∧ (j = 17 → v = .bool true))
                  (by kernel_rfl) (by kernel_rfl) ⟨rfl, rfl, rfl, Nat.le_refl _, fun _ _ => rfl⟩ (fun _ _ _ _ _ _ h => h)
                  (fun _ _ A B v hl h => ⟨h.1, (fun e => by obtain ⟨sp, cap, h1, h2⟩ := h.2.1 e; exact ⟨sp, cap, h1, h2.below hl⟩), h.2.2⟩)
                  (fun j v => (j < 16 → v = ([.slice (some ⟨gL, oL, none⟩) LN capL, .int .i64 (A : Int), .pointer (some ⟨gL, oL + A, none⟩), .slice s2 (Cd.nums row).length c2, .slice sG C cG, .pointer (some ⟨w.heap.size + 1, 2, none⟩), .int .i64 (R : Int), .int .i64 (C : Int), .int .i64 ((R * C : Nat) : Int), .pointer (some ⟨w.heap.size + 1, 2, none⟩), .int .i64 (R : Int), .int .i64 (C : Int), .int .i64 ((R * C : Nat) : Int), .int .i64 (C : Int), .int .i64 ((R * C + C : Nat) : Int), .slice (cutA sG cG (R * C)) C (cG - R * C)] : List Value).getD j undef) ∧ (j = 16 → ∃ sp cap, v = .slice sp (8 * C) cap) ∧ (j = 17 → v = .bool true)) (fun _ _ _ _ h => ⟨h.1, (fun e => by obtain ⟨sp, cap, h1, _⟩ := h.2.1 e; exact ⟨sp, cap, h1⟩), h.2.2⟩)
                  (fun j => if j = 16 then .slice none (8 * C) 0 else if j = 17 then .bool true else ([.slice (some ⟨gL, oL, none⟩) LN capL, .int .i64 (A : Int), .pointer (some ⟨gL, oL + A, none⟩), .slice s2 (Cd.nums row).length c2, .slice sG C cG, .pointer (some ⟨w.heap.size + 1, 2, none⟩), .int .i64 (R : Int), .int .i64 (C : Int), .int .i64 ((R * C : Nat) : Int), .pointer (some ⟨w.heap.size + 1, 2, none⟩), .int .i64 (R : Int), .int .i64 (C : Int), .int .i64 ((R * C : Nat) : Int), .int .i64 (C : Int), .int .i64 ((R * C + C : Nat) : Int), .slice (cutA sG cG (R * C)) C (cG - R * C)] : List Value).getD j undef) (fun j => ⟨fun e => by rw [if_neg (by omega), if_neg (by omega)], fun e => by rw [if_pos e]; exact ⟨_, _, rfl⟩, fun e => by rw [if_neg (by omega), if_pos e]⟩) ?_ ?_
                · intro u hu
                  have e0 : u 0 = .slice (some ⟨gL, oL, none⟩) LN capL := (hu 0).1 (by decide)
                  have e1 : u 1 = .int .i64 (A : Int) := (hu 1).1 (by decide)
                  have e2 : u 2 = .pointer (some ⟨gL, oL + A, none⟩) := (hu 2).1 (by decide)
                  have e3 : u 3 = .slice s2 (Cd.nums row).length c2 := (hu 3).1 (by decide)
                  have e4 : u 4 = .slice sG C cG := (hu 4).1 (by decide)
                  have e5 : u 5 = .pointer (some ⟨w.heap.size + 1, 2, none⟩) := (hu 5).1 (by decide)
                  have e6 : u 6 = .int .i64 (R : Int) := (hu 6).1 (by decide)
                  have e7 : u 7 = .int .i64 (C : Int) := (hu 7).1 (by decide)
                  have e8 : u 8 = .int .i64 ((R * C : Nat) : Int) := (hu 8).1 (by decide)
                  have e9 : u 9 = .pointer (some ⟨w.heap.size + 1, 2, none⟩) := (hu 9).1 (by decide)
                  have e10 : u 10 = .int .i64 (R : Int) := (hu 10).1 (by decide)
                  have e11 : u 11 = .int .i64 (C : Int) := (hu 11).1 (by decide)
                  have e12 : u 12 = .int .i64 ((R * C : Nat) : Int) := (hu 12).1 (by decide)
                  have e13 : u 13 = .int .i64 (C : Int) := (hu 13).1 (by decide)
                  have e14 : u 14 = .int .i64 ((R * C + C : Nat) : Int) := (hu 14).1 (by decide)
                  have e15 : u 15 = .slice (cutA sG cG (R * C)) C (cG - R * C) := (hu 15).1 (by decide)
                  obtain ⟨spN, cpN, e16⟩ := (hu 16).2.1 rfl
                  simp only [List.take_succ_cons, List.take_zero]
                  refine Tn.spec_cons (fun Y hC hd => ⟨by rfl, Tn.gives_val (.slice (some ⟨gL, oL, none⟩) LN capL) Y (by rfl) ⟨hC, Below.refl _ _, fun _ => rfl, (fun e => by cases e), (fun e => by cases e)⟩⟩) ?_
                  simp only [Act.put, List.setIfInBounds_toArray, List.set_cons_succ, List.set_cons_zero, Nat.reduceAdd]
                  rw [e0]
                  refine Tn.spec_cons (fun Y hC hd => ⟨by rfl, Tn.gives_val (.int .i64 (A : Int)) Y (by rfl) ⟨hC, Below.refl _ _, fun _ => rfl, (fun e => by cases e), (fun e => by cases e)⟩⟩) ?_
                  simp only [Act.put, List.setIfInBounds_toArray, List.set_cons_succ, List.set_cons_zero, Nat.reduceAdd]
                  rw [e1]
                  refine Tn.spec_cons (fun Y hC hd => ⟨by rfl, Tn.gives_val (.pointer (some ⟨gL, oL + A, none⟩)) Y (Bp.exec_at1 39 24 Try.underlying39 size39 (.tmp 138) (.tmp 139) rfl gL oL LN capL A rfl rfl HA.out) ⟨hC, Below.refl _ _, fun _ => rfl, (fun e => by cases e), (fun e => by cases e)⟩⟩) ?_
                  simp only [Act.put, List.setIfInBounds_toArray, List.set_cons_succ, List.set_cons_zero, Nat.reduceAdd]
                  rw [e2]
                  refine Tn.spec_cons (fun Y hC hd => ⟨by rfl, Tn.gives_val (.slice s2 (Cd.nums row).length c2) Y (Bp.exec_load1 24 (.tmp 140) rfl ⟨gL, oL + A, none⟩ rfl _ ((hC.cell (block_lt_of_cell HLf9.out.cell)).trans HLf9.out.cell) _ Try.underlying24 rfl) ⟨hC, Below.refl _ _, fun _ => rfl, (fun e => by cases e), (fun e => by cases e)⟩⟩) ?_
                  simp only [Act.put, List.setIfInBounds_toArray, List.set_cons_succ, List.set_cons_zero, Nat.reduceAdd]
                  rw [e3]
                  refine Tn.spec_cons (fun Y hC hd => ⟨by rfl, Tn.gives_val (.slice sG C cG) Y (by rfl) ⟨hC, Below.refl _ _, fun _ => rfl, (fun e => by cases e), (fun e => by cases e)⟩⟩) ?_
                  simp only [Act.put, List.setIfInBounds_toArray, List.set_cons_succ, List.set_cons_zero, Nat.reduceAdd]
                  rw [e4]
                  refine Tn.spec_cons (fun Y hC hd => ⟨by rfl, Tn.gives_val (.pointer (some ⟨w.heap.size + 1, 2, none⟩)) Y (exec_pf2 (.tmp 3) rfl (w.heap.size + 1) rfl) ⟨hC, Below.refl _ _, fun _ => rfl, (fun e => by cases e), (fun e => by cases e)⟩⟩) ?_
                  simp only [Act.put, List.setIfInBounds_toArray, List.set_cons_succ, List.set_cons_zero, Nat.reduceAdd]
                  rw [e5]
                  refine Tn.spec_cons (fun Y hC hd => ⟨by rfl, Tn.gives_val (.int .i64 (R : Int)) Y (Bp.exec_load1 3 (.tmp 143) rfl ⟨w.heap.size + 1, 2, none⟩ rfl _ ((hC.cell (block_lt_of_cell p2)).trans p2) _ Try.underlying3 rfl) ⟨hC, Below.refl _ _, fun _ => rfl, (fun e => by cases e), (fun e => by cases e)⟩⟩) ?_
                  simp only [Act.put, List.setIfInBounds_toArray, List.set_cons_succ, List.set_cons_zero, Nat.reduceAdd]
                  rw [e6]
                  refine Tn.spec_cons (fun Y hC hd => ⟨by rfl, Tn.gives_val (.int .i64 (C : Int)) Y (by rfl) ⟨hC, Below.refl _ _, fun _ => rfl, (fun e => by cases e), (fun e => by cases e)⟩⟩) ?_
                  simp only [Act.put, List.setIfInBounds_toArray, List.set_cons_succ, List.set_cons_zero, Nat.reduceAdd]
                  rw [e7]
                  refine Tn.spec_cons (fun Y hC hd => ⟨by rfl, Tn.gives_val (.int .i64 ((R * C : Nat) : Int)) Y (exec_bin .mul (.tmp 144) (.tmp 145) rfl rfl (R : Int) (C : Int) _ rfl rfl (run_mul _ _ _ (by simp) (by omega) (by have := HLt.out; have := HLe.out; omega))) ⟨hC, Below.refl _ _, fun _ => rfl, (fun e => by cases e), (fun e => by cases e)⟩⟩) ?_
                  simp only [Act.put, List.setIfInBounds_toArray, List.set_cons_succ, List.set_cons_zero, Nat.reduceAdd]
                  rw [e8]
                  refine Tn.spec_cons (fun Y hC hd => ⟨by rfl, Tn.gives_val (.pointer (some ⟨w.heap.size + 1, 2, none⟩)) Y (exec_pf2 (.tmp 3) rfl (w.heap.size + 1) rfl) ⟨hC, Below.refl _ _, fun _ => rfl, (fun e => by cases e), (fun e => by cases e)⟩⟩) ?_
                  simp only [Act.put, List.setIfInBounds_toArray, List.set_cons_succ, List.set_cons_zero, Nat.reduceAdd]
                  rw [e9]
                  refine Tn.spec_cons (fun Y hC hd => ⟨by rfl, Tn.gives_val (.int .i64 (R : Int)) Y (Bp.exec_load1 3 (.tmp 147) rfl ⟨w.heap.size + 1, 2, none⟩ rfl _ ((hC.cell (block_lt_of_cell p2)).trans p2) _ Try.underlying3 rfl) ⟨hC, Below.refl _ _, fun _ => rfl, (fun e => by cases e), (fun e => by cases e)⟩⟩) ?_
                  simp only [Act.put, List.setIfInBounds_toArray, List.set_cons_succ, List.set_cons_zero, Nat.reduceAdd]
                  rw [e10]
                  refine Tn.spec_cons (fun Y hC hd => ⟨by rfl, Tn.gives_val (.int .i64 (C : Int)) Y (by rfl) ⟨hC, Below.refl _ _, fun _ => rfl, (fun e => by cases e), (fun e => by cases e)⟩⟩) ?_
                  simp only [Act.put, List.setIfInBounds_toArray, List.set_cons_succ, List.set_cons_zero, Nat.reduceAdd]
                  rw [e11]
                  refine Tn.spec_cons (fun Y hC hd => ⟨by rfl, Tn.gives_val (.int .i64 ((R * C : Nat) : Int)) Y (exec_bin .mul (.tmp 148) (.tmp 149) rfl rfl (R : Int) (C : Int) _ rfl rfl (run_mul _ _ _ (by simp) (by omega) (by have := HLt.out; have := HLe.out; omega))) ⟨hC, Below.refl _ _, fun _ => rfl, (fun e => by cases e), (fun e => by cases e)⟩⟩) ?_
                  simp only [Act.put, List.setIfInBounds_toArray, List.set_cons_succ, List.set_cons_zero, Nat.reduceAdd]
                  rw [e12]
                  refine Tn.spec_cons (fun Y hC hd => ⟨by rfl, Tn.gives_val (.int .i64 (C : Int)) Y (by rfl) ⟨hC, Below.refl _ _, fun _ => rfl, (fun e => by cases e), (fun e => by cases e)⟩⟩) ?_
                  simp only [Act.put, List.setIfInBounds_toArray, List.set_cons_succ, List.set_cons_zero, Nat.reduceAdd]
                  rw [e13]
                  refine Tn.spec_cons (fun Y hC hd => ⟨by rfl, Tn.gives_val (.int .i64 ((R * C + C : Nat) : Int)) Y (exec_bin .add (.tmp 150) (.tmp 151) rfl rfl ((R * C : Nat) : Int) (C : Int) _ rfl rfl (run_add _ _ _ (by simp) (by omega) (by have := HLt.out; have := HLe.out; omega))) ⟨hC, Below.refl _ _, fun _ => rfl, (fun e => by cases e), (fun e => by cases e)⟩⟩) ?_
                  simp only [Act.put, List.setIfInBounds_toArray, List.set_cons_succ, List.set_cons_zero, Nat.reduceAdd]
                  rw [e14]
                  refine Tn.spec_cons (fun Y hC hd => ⟨by rfl, Tn.gives_val (.slice (cutA sG cG (R * C)) C (cG - R * C)) Y (Cd.exec_cut 26 3 (.tmp 142) (some (.tmp 146)) (some (.tmp 152)) rfl Try.underlying26 _ (by have h9 := run_mid sG C cG (R * C) (R * C + C) (by omega) (by have := HLt.out; have := HLe.out; omega) Y; rw [Nat.add_sub_cancel_left] at h9; exact h9)) ⟨hC, Below.refl _ _, fun _ => rfl, (fun e => by cases e), (fun e => by cases e)⟩⟩) ?_
                  simp only [Act.put, List.setIfInBounds_toArray, List.set_cons_succ, List.set_cons_zero, Nat.reduceAdd]
                  rw [e15]
                  refine Tn.spec_cons (fun Y hC hd => ⟨by rfl, Tn.gives_call _ _ (Tn.exec_call1 19 (.tmp 153) #[26] _ rfl rfl (cf Try.func19 (by kernel_rfl) (by kernel_rfl) _ _)) ((Cd.ref_numbers Y (cutA sG cG (R * C)) (cG - R * C) C row HRl.out (Cd.Sl.below HNr.out (Nat.le_refl _) hC) HIn.out (by have := HC1.out; omega)).mono fun e2 Y' ⟨sp, cap, e3, h3, hb3⟩ => ⟨_, e3, hC.trans (hb3.mono hC.size), hb3, (fun h => by omega), (fun _ => ⟨sp, cap, rfl, h3⟩), (fun h => by omega)⟩)⟩) ?_
                  simp only [Act.put, List.setIfInBounds_toArray, List.set_cons_succ, List.set_cons_zero, Nat.reduceAdd]
                  rw [e16]
                  refine Tn.spec_cons (fun Y hC hd => ⟨by rfl, Tn.gives_call _ _ (exec_call2 18 (.tmp 141) (.tmp 154) #[24, 24] _ _ rfl rfl rfl (cf Try.func18 (by kernel_rfl) (by kernel_rfl) _ _)) ?_⟩) ?_
                  · obtain ⟨s9, c9, e9, hb9⟩ := (hd ⟨16, .data⟩ (by simp) (by kernel_rfl)).2.1 rfl
                    rw [e16] at e9
                    injection e9 with q1 _ q3
                    subst q1 q3
                    refine (Cd.bytes_any Y s2 spN (Cd.nums row).length (8 * C) c2 cpN (Cd.nums row) (Cd.nums row) rfl HLp.out (HLf9.out.byt.below hC) hb9).mono fun e2 Y' h => ?_
                    obtain ⟨h1, h2⟩ := h.below
                    exact ⟨_, h1, hC.trans (h2.mono hC.size), h2, (fun h => by omega), (fun h => by omega), (fun _ => by simp)⟩
                  exact Tn.spec_nil
                intro u Y hu hC hP
                have e17 : u 17 = .bool true := (hu 17).2.2 rfl
                simp only [List.take_succ_cons, List.take_zero, List.drop_succ_cons, List.drop_zero, Tn.putAll, Act.put, List.setIfInBounds_toArray, List.set_cons_succ, List.set_cons_zero, Nat.reduceAdd]
                rw [e17]
                have HXY := Lib.hid (HX9.out.later hC)
                clear hu hC hP e17
                go_wp2_with (go_at_call 9; refine (awake_any _).mono ?_; rintro e wz ⟨rfl, hbz⟩; have HBz := Lib.hid hbz; clear hbz)
                go_ret
                exact ⟨rfl, (HXY.out.later HBz.out).below⟩
    · have HC := Lib.hid (fun W (h : BkI w v k y r W) => encode_no W v m (HV.out.later h.below) (by omega) (by omega) hE)
      have HL := Lib.hid (fun W (h : BkI w v k y r W) => leaves_no W v m (HV.out.later h.below) (by omega) (by omega) hE)
      have HK := Lib.hid (fun W (h : BkI w v k y r W) => check_any W v m (HV.out.later h.below) (by omega) (by omega))
      obtain ⟨E, hEE⟩ : ∃ E, m.chk = E := ⟨_, rfl⟩
      rw [hEE] at HC HL HK hE
      have n1 : (E == 0) = false := by simpa using hE
      have n2 : (E != 0) = true := by simpa using hE
      clear hal hps hE hEE
      go_wp2_with (first
        | (refine wpList_load_row rfl 31 (.tmp 2) rfl w.heap.size rfl 31 v.cells (0, 0) _ HX1.out.row Try.underlying31 rfl size_wts ?_)
        | (go_at_call 10; refine (HC.out _ HX1.out).mono ?_; rintro e w2 ⟨rfl, hb2⟩; have HX2 := Lib.hid (HX1.out.later hb2); clear hb2)
        | (refine wpList_load_row rfl 31 (.tmp 2) rfl w.heap.size rfl 31 v.cells (0, 0) _ HX2.out.row Try.underlying31 rfl size_wts ?_)
        | (go_at_call 11; refine (HL.out _ HX2.out).mono ?_; rintro e w3 ⟨rfl, hb3⟩; have HX3 := Lib.hid (HX2.out.later hb3); clear hb3)
        | (refine wpList_load_rowG rfl 31 (.tmp 2) rfl w.heap.size rfl 31 v.cells (0, 0) _ HX3.out.row Try.underlying31 rfl size_wts ?_)
        | (go_at_call 12; refine (HK.out _ HX3.out).mono ?_; rintro e w4 ⟨rfl, hb4⟩; have HX4 := Lib.hid (HX3.out.later hb4); clear hb4)
        | (go_at_call 9; refine (awake_any _).mono ?_; rintro e wz ⟨rfl, hbz⟩; have HBz := Lib.hid hbz; clear hbz))
      go_ret
      exact ⟨rfl, (HX4.out.later HBz.out).below⟩
end Go.Proofs.Ythnlagplkeklmaa.Wg
