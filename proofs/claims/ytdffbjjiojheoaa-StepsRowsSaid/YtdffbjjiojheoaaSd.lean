/- Steps: what is wrong with a plan. -/
import Derived.Test.YtdffbjjiojheoaaSc
namespace Go.Proofs.Ytdffbjjiojheoaa.St
set_option maxRecDepth 100000
open Go.ChangeShapes Go.WideShapes Go.ChangeAt Go.RowKit Go.Shelf Go.Proofs.Ytdffbjjiojheoaa.Tn Go.Proofs.Ytdffbjjiojheoaa.Wg
def askZ (sp : Option Addr) (n c : Nat) (k li : Int) : Array Value := #[.slice sp n c, .int .u8 0, .int .u8 0, .int .u8 0, .int .u8 0, .int .u8 0, .int .u8 0, .int .u8 0, .int .u8 0, .int .u8 0, .int .u8 0, .int .u8 0, .int .u8 0, .int .u8 0, .int .u8 0, .int .u8 0, .int .u8 0, .int .u8 0, .int .u8 0, .int .u8 0, .int .u8 0, .int .u8 0, .int .u8 0, .int .u8 0, .int .u8 0, .int .u8 0, .int .u8 0, .int .u8 0, .int .u8 0, .int .u8 0, .int .u8 0, .int .u8 0, .int .u8 0, .int .i64 k, .int .i64 li, .slice none 0 0]
theorem run_buildA (W : World) (sp : Option Addr) (n c : Nat) (k li : Int) : (Instr.build 29 #[(0, .slice sp n c), (3, .int .i64 li), (2, .int .i64 k)]).run Try.prog W = .ok (.agg (askZ sp n c k li)) W := by kernel_rfl
theorem exec_buildA {a : Act} {o : Oper} {W : World} (x y z : Operand) (ho : o.op = .build 29 #[(0, x), (3, y), (2, z)]) (sp : Option Addr) (n c : Nat) (k li : Int) (hx : a.eval x = .slice sp n c) (hy : a.eval y = .int .i64 li) (hz : a.eval z = .int .i64 k) : (execOp a.eval o).run Try.prog W = .ok (.value (.agg (askZ sp n c k li))) W := by
  have e : (#[((0 : Nat), x), (3, y), (2, z)].map fun (i, x) => (i, a.eval x)) = #[(0, .slice sp n c), (3, .int .i64 li), (2, .int .i64 k)] := by simp [hx, hy, hz]
  unfold execOp
  simp only [ho, e, Sem.run_bind, run_buildA, Result.andThen_ok, Sem.run_pure]
theorem exec_cfgP {a : Act} {o : Oper} {W : World} (x : Operand) (ho : o.op = .load 31 x) (g : Nat) (hx : a.eval x = .pointer (some ⟨g, 0, none⟩)) (q : Pl) (h : W.heap[g]? = some (.cells q.cells 40 (0, 0))) : (execOp a.eval o).run Try.prog W = .ok (.value (.agg q.c.cells)) W := by
  unfold execOp
  simp only [ho, hx, Instr.loadAt, Instr.sureAddr, Sem.run_bind, Sem.run_pure, Result.andThen_ok, run_loadVar_mid W g 0 31 q.c.cells.toList _ (pl_cfg h) Try.underlying31 rfl (by kernel_rfl)]
theorem exec_pl {a : Act} {o : Oper} {W : World} (x : Operand) (ho : o.op = .load 40 x) (g : Nat) (hx : a.eval x = .pointer (some ⟨g, 0, none⟩)) (q : Pl) (h : W.heap[g]? = some (.cells q.cells 40 (0, 0))) : (execOp a.eval o).run Try.prog W = .ok (.value (.agg q.cells)) W :=
  Mk.exec_rowM 40 x ho g hx 40 q.cells (0, 0) _ h Try.underlying40 rfl (by kernel_rfl)
theorem fldP (W : World) (g i : Nat) (hi : i ≤ 3) : (Instr.fieldAt 40 (.pointer (some ⟨g, 0, none⟩)) i).run Try.prog W = .ok (.pointer (some ⟨g, if i = 0 then 0 else i + 5, none⟩)) W := by
  obtain rfl | rfl | rfl | rfl : i = 0 ∨ i = 1 ∨ i = 2 ∨ i = 3 := by omega
  all_goals kernel_rfl
set_option maxHeartbeats 4000000 in
theorem pchk_any (w : World) (q : Pl) : Calls Try.prog 11 #[.agg q.cells] w fun e w' => e = .returned (.int .i64 q.chk) ∧ Below w.heap.size w w' := by
  have HM := Lib.hid (PlI.made w q)
  have HCk := Lib.hid (fun W => chk_any W q.c)
  obtain ⟨E, hE⟩ : ∃ E, q.chk = E := ⟨_, rfl⟩
  obtain ⟨K, hK⟩ : ∃ K, q.c.chk = K := ⟨_, rfl⟩
  rw [hE]
  rw [hK] at HCk
  unfold Pl.chk at hE
  rw [hK] at hE
  have HE := Lib.hid hE
  have HKk := Lib.hid hK
  clear hE hK
  go_enter Try.func11, Try.ntmps11
  go_upto_region 1 with fail
  refine Mk.genM (Q := fun w => Code.wp _ _ _ _ w) _ (PlI w q) HM.out ?_
  clear HM
  intro w1 hx
  have HI := Lib.hid hx
  clear hx
  refine wp_region_lit ?_
  refine Mk.wpList_vl rfl (.pointer (some ⟨w.heap.size, 0, none⟩)) (Mk.exec_fldM 40 0 (.tmp 1) rfl _ _ rfl (by kernel_rfl)) ?_
  simp only [Act.put, List.setIfInBounds_toArray, List.set_cons_succ, List.set_cons_zero]
  refine Mk.wpList_vl rfl _ (exec_cfgP (.tmp 5) rfl w.heap.size rfl q HI.out.row) ?_
  simp only [Act.put, List.setIfInBounds_toArray, List.set_cons_succ, List.set_cons_zero]
  refine Mk.wpList_callM rfl 37 _ (Tn.exec_call1 37 (.tmp 6) _ _ rfl rfl (Tn.cf Try.func37 (by kernel_rfl) (by kernel_rfl) _ _)) (HCk.out _) ?_
  rintro e w2 ⟨rfl, hb2⟩
  refine ⟨_, rfl, ?_⟩
  have HI2 := Lib.hid (HI.out.later hb2)
  clear hb2 HI
  simp only [Act.put, List.setIfInBounds_toArray, List.set_cons_succ, List.set_cons_zero]
  by_cases hk0 : K = 0
  · subst hk0
    have hE := HE.out
    rw [if_neg (by omega)] at hE
    have HE2 := Lib.hid hE
    obtain ⟨_, _, _, _, ⟨hx1, hx2⟩, _⟩ := Cfg.ok_of_chk HKk.out
    obtain ⟨n, hn⟩ : ∃ n, q.n = n := ⟨_, rfl⟩
    have hmm : min (max q.p 0) q.c.x = (n : Int) := by rw [← hn]; unfold Pl.n; omega
    have hn64 : n ≤ 64 := by omega
    rw [hn] at HE2
    have HMm := Lib.hid hmm
    have HN6 := Lib.hid hn64
    obtain ⟨c0, c1, c2, c3, c4, c5, c6, c7, c8⟩ := HI2.out.cells
    clear hE hx1 hx2 hn hmm hn64
    go_upto_region 4 with fail
    refine wp_region_lit ?_
    refine Mk.wpList_vl rfl (.pointer (some ⟨w.heap.size, 6, none⟩)) (Mk.exec_fldM 40 1 (.tmp 1) rfl _ _ rfl (by kernel_rfl)) ?_
    simp only [Act.put, List.setIfInBounds_toArray, List.set_cons_succ, List.set_cons_zero]
    refine Mk.wpList_vl rfl (.int .i64 q.p) (Bp.exec_load1 3 (.tmp 11) rfl _ rfl _ c6 _ Try.underlying3 rfl) ?_
    simp only [Act.put, List.setIfInBounds_toArray, List.set_cons_succ, List.set_cons_zero]
    refine Mk.wpList_vl rfl _ (exec_maxM (.tmp 12) (.const (.int .i64 0)) _ rfl _ _ rfl rfl) ?_
    simp only [Act.put, List.setIfInBounds_toArray, List.set_cons_succ, List.set_cons_zero]
    refine Mk.wpList_vl rfl (.pointer (some ⟨w.heap.size, 0, none⟩)) (Mk.exec_fldM 40 0 (.tmp 1) rfl _ _ rfl (by kernel_rfl)) ?_
    simp only [Act.put, List.setIfInBounds_toArray, List.set_cons_succ, List.set_cons_zero]
    refine Mk.wpList_vl rfl (.pointer (some ⟨w.heap.size, 4, none⟩)) (Mk.exec_fldM 31 4 (.tmp 14) rfl _ _ rfl (by kernel_rfl)) ?_
    simp only [Act.put, List.setIfInBounds_toArray, List.set_cons_succ, List.set_cons_zero]
    refine Mk.wpList_vl rfl (.int .i64 q.c.x) (Bp.exec_load1 3 (.tmp 15) rfl _ rfl _ c4 _ Try.underlying3 rfl) ?_
    simp only [Act.put, List.setIfInBounds_toArray, List.set_cons_succ, List.set_cons_zero]
    refine Mk.wpList_vl rfl (.int .i64 (n : Int)) (HMm.out ▸ exec_minM (.tmp 13) (.tmp 16) _ rfl _ _ rfl rfl) ?_
    simp only [Act.put, List.setIfInBounds_toArray, List.set_cons_succ, List.set_cons_zero]
    refine wpList_makeZ rfl (.tmp 17) (.tmp 17) rfl n rfl rfl (by have := HN6.out; omega) ?_
    simp only [Act.put, List.setIfInBounds_toArray, List.set_cons_succ, List.set_cons_zero]
    have hNu : Nums (w2.alloc (.cells ((List.replicate n (0 : Int)).map (Value.int .i64)).toArray 3)) (some ⟨w2.heap.size, 0, none⟩) n (List.replicate n (0 : Int)) := nums_new w2 _ _ n rfl (by simp) (by have := HN6.out; omega)
    have HI3 := Lib.hid (HI2.out.later ((Below.refl _ w2).alloc (Nat.le_refl _) (.cells ((List.replicate n (0 : Int)).map (Value.int .i64)).toArray 3)))
    have HNu := Lib.hid hNu
    obtain ⟨w3, hw3⟩ : ∃ w3, w2.alloc (.cells ((List.replicate n (0 : Int)).map (Value.int .i64)).toArray 3) = w3 := ⟨_, rfl⟩
    rw [hw3] at HI3 HNu ⊢
    obtain ⟨nb, hnb⟩ : ∃ nb, w2.heap.size = nb := ⟨_, rfl⟩
    rw [hnb] at HNu ⊢
    clear hNu hw3 hnb HI2 c0 c1 c2 c3 c4 c5 c6 c7 c8 HMm
    obtain ⟨c0, c1, c2, c3, c4, c5, c6, c7, c8⟩ := HI3.out.cells
    go_upto_region 5 with fail
    refine wp_region_lit ?_
    refine Mk.wpList_vl rfl (.pointer (some ⟨w.heap.size, 0, none⟩)) (Mk.exec_fldM 40 0 (.tmp 1) rfl _ _ rfl (by kernel_rfl)) ?_
    simp only [Act.put, List.setIfInBounds_toArray, List.set_cons_succ, List.set_cons_zero]
    refine Mk.wpList_vl rfl _ (exec_cfgP (.tmp 19) rfl w.heap.size rfl q HI3.out.row) ?_
    simp only [Act.put, List.setIfInBounds_toArray, List.set_cons_succ, List.set_cons_zero]
    refine Mk.wpList_vl rfl _ (Mk.exec_movM (.tmp 4) rfl _ rfl) ?_
    simp only [Act.put, List.setIfInBounds_toArray, List.set_cons_succ, List.set_cons_zero]
    refine Mk.wpList_vl rfl (.pointer (some ⟨w.heap.size, 7, none⟩)) (Mk.exec_fldM 40 2 (.tmp 1) rfl _ _ rfl (by kernel_rfl)) ?_
    simp only [Act.put, List.setIfInBounds_toArray, List.set_cons_succ, List.set_cons_zero]
    refine Mk.wpList_vl rfl (.int .i64 q.m) (Bp.exec_load1 3 (.tmp 22) rfl _ rfl _ c7 _ Try.underlying3 rfl) ?_
    simp only [Act.put, List.setIfInBounds_toArray, List.set_cons_succ, List.set_cons_zero]
    refine Mk.wpList_vl rfl (.pointer (some ⟨w.heap.size, 8, none⟩)) (Mk.exec_fldM 40 3 (.tmp 1) rfl _ _ rfl (by kernel_rfl)) ?_
    simp only [Act.put, List.setIfInBounds_toArray, List.set_cons_succ, List.set_cons_zero]
    refine Mk.wpList_vl rfl (.int .i64 q.k) (Bp.exec_load1 3 (.tmp 24) rfl _ rfl _ c8 _ Try.underlying3 rfl) ?_
    simp only [Act.put, List.setIfInBounds_toArray, List.set_cons_succ, List.set_cons_zero]
    refine Mk.wpList_vl rfl _ (exec_buildA (.tmp 21) (.tmp 23) (.tmp 25) rfl _ _ _ q.k q.m rfl rfl rfl) ?_
    simp only [Act.put, List.setIfInBounds_toArray, List.set_cons_succ, List.set_cons_zero]
    have hmc := mcheck_any w3 q.c (askZ (some ⟨nb, 0, none⟩) n n q.k q.m) (some ⟨nb, 0, none⟩) n n (List.replicate n (0 : Int)) q.k q.m (by simp) HNu.out rfl rfl rfl (by have := HN6.out; omega)
    rw [HE2.out] at hmc
    refine Mk.wpList_callM rfl 38 _ (Mk.exec_call2M 38 (.tmp 20) (.tmp 26) _ _ _ rfl rfl rfl (Tn.cf Try.func38 (by kernel_rfl) (by kernel_rfl) _ _)) hmc ?_
    rintro e w4 ⟨rfl, hb4⟩
    refine ⟨_, rfl, ?_⟩
    have HB4 := Lib.hid (HI3.out.below.trans (hb4.mono HI3.out.below.size))
    clear hb4 hmc
    simp only [Act.put, List.setIfInBounds_toArray, List.set_cons_succ, List.set_cons_zero]
    go_wp2
    go_ret
    exact ⟨rfl, HB4.out⟩
  · have n1 : (K == 0) = false := by simpa using hk0
    have n2 : (K != 0) = true := by simpa using hk0
    have HR : Hid (E = K) := Lib.hid (by have := HE.out; rw [if_pos hk0] at this; exact this.symm)
    clear hk0
    go_wp2
    go_ret
    exact ⟨by rw [HR.out]; rfl, HI2.out.below⟩
end Go.Proofs.Ytdffbjjiojheoaa.St
