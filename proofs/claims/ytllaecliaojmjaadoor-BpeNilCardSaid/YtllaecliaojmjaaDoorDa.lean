import Derived.Test.YtllaecliaojmjaaDoorBz
namespace Go.Proofs.YtllaecliaojmjaaDoor.Bp
set_option maxRecDepth 100000
open Go.ChangeShapes Go.WideShapes Go.ChangeAt Go.RowKit Go.Proofs.YtllaecliaojmjaaDoor.Tn

/-! ### first: its walk -/
section
variable {a : Act} {o : Oper} {W : World}
theorem run_rf0 (g : Nat) : (Instr.fieldAt 72 (.pointer (some ⟨g, 0, none⟩)) 0).run Tryd.prog W = .ok (.pointer (some ⟨g, 0, none⟩)) W := by kernel_rfl
theorem exec_rf0 (x : Operand) (ho : o.op = .fieldAddr 72 x 0) (g : Nat) (hx : a.eval x = .pointer (some ⟨g, 0, none⟩)) : (execOp a.eval o).run Tryd.prog W = .ok (.value (.pointer (some ⟨g, 0, none⟩))) W := by
  unfold execOp
  simp only [ho, hx, Sem.run_bind, run_rf0, Result.andThen_ok, Sem.run_pure]
theorem exec_sub (x y : Operand) (ho : o.op = .binOp .sub 3 x y 3) (u v z : Int) (hx : a.eval x = .int .i64 u) (hy : a.eval y = .int .i64 v) (h : IntKind.i64.wrap (u - v) = z) : (execOp a.eval o).run Tryd.prog W = .ok (.value (.int .i64 z)) W := by
  unfold execOp
  simp [ho, hx, hy, binOp, Op.intArith, h, eqGuard]
theorem run_buildP (u v : Int) : (Instr.build 46 #[(0, .int .i64 u), (1, .int .i64 v)]).run Tryd.prog W = .ok (.agg #[.int .i64 u, .int .i64 v]) W := by kernel_rfl
theorem exec_buildP (x y : Operand) (ho : o.op = .build 46 #[(0, x), (1, y)]) (u v : Int) (hx : a.eval x = .int .i64 u) (hy : a.eval y = .int .i64 v) : (execOp a.eval o).run Tryd.prog W = .ok (.value (.agg #[.int .i64 u, .int .i64 v])) W := by
  unfold execOp
  simp [ho, hx, hy, run_buildP]
theorem zeroP : (zeroValue 46).run Tryd.prog W = .ok (.agg #[.int .i64 0, .int .i64 0]) W := by kernel_rfl
theorem run_allocP : (Instr.alloc 46 true (.tuple #[])).run Tryd.prog W = .ok (.pointer (some ⟨W.heap.size, 0, none⟩)) (W.alloc (.cells #[.int .i64 0, .int .i64 0] 46)) := by kernel_rfl
theorem exec_allocP (ho : o.op = .alloc 46) : (execOp a.eval o).run Tryd.prog W = .ok (.value (.pointer (some ⟨W.heap.size, 0, none⟩))) (W.alloc (.cells #[.int .i64 0, .int .i64 0] 46)) := by
  unfold execOp
  simp only [ho, Sem.run_bind, run_allocP, Result.andThen_ok, Sem.run_pure]
end
theorem size_bpair2 (a b : Value) : (Tryd.prog.info? 46).map (·.size) = some (#[a, b] : Array Value).size := size_bpair
theorem two_one (a b : Value) (h1 : a.oneCell' = true) (h2 : b.oneCell' = true) : (#[a, b] : Array Value).all (·.oneCell') = true := by simp [h1, h2]
def faX (B c L cap j : Nat) (x y : Int) : Nat → Option Value
  | 0 => some (.pointer (some ⟨B, 0, none⟩))
  | 1 => some (.slice (some ⟨c, 0, none⟩) L cap)
  | 2 => some (.int .i64 ((j : Int) + 1))
  | 3 => some (.int .i64 (j : Int))
  | 4 => some (.pointer (some ⟨c, 0 + j, none⟩))
  | 5 => some (.int .i64 x)
  | 6 => some (.pointer (some ⟨B, 0, none⟩))
  | 7 => some (.slice (some ⟨c, 0, none⟩) L cap)
  | 8 => some (.int .i64 ((j : Int) + 1))
  | 9 => some (.pointer (some ⟨c, 0 + (j + 1), none⟩))
  | 10 => some (.int .i64 y)
  | 11 => some (.agg #[.int .i64 x, .int .i64 y])
  | _ => none
/-- what first answers -/
def FstA (w : World) (ps : List (Int × Int)) (l : List Int) (e : Ending) (w' : World) : Prop :=
  Below w.heap.size w w' ∧ ∃ a b : Int, e = .returned (.tuple #[.agg #[.int .i64 a, .int .i64 b], .bool (fst ps l).isSome]) ∧ ∀ k, fst ps l = some k → ps.getD k (0, 0) = (a, b)
/-- the blocks of first: the row's box at B, the result's at B + 1, the best pair's at B + 2 -/
structure Fs (B : Nat) (g m : Nat) (al : List Int) (ps : List (Int × Int)) (sv : Value) (w : World) (c L cap : Nat) (l : List Int) (a b : Int) (W : World) : Prop where
  below : Below B w W
  box : W.heap[B]? = some (.cells #[.slice (some ⟨c, 0, none⟩) L cap] 72 (0, 0))
  res : W.heap[B + 1]? = some (.cells #[.int .i64 0, .int .i64 0] 46 (0, 0))
  best : Pk (B + 2) a b W
  cr0 : Cr g m al ps sv w
  row0 : Nums w (some ⟨c, 0, none⟩) cap l
  eqB : B = w.heap.size
section
variable {B g m : Nat} {al : List Int} {ps : List (Int × Int)} {sv : Value} {w W W' : World} {c L cap : Nat} {l : List Int} {a b : Int}
theorem Fs.big (h : Fs B g m al ps sv w c L cap l a b W) : B + 3 ≤ W.heap.size := by have := h.best.lt; omega
theorem Fs.later (h : Fs B g m al ps sv w c L cap l a b W) (hb : Below W.heap.size W W') : Fs B g m al ps sv w c L cap l a b W' :=
  ⟨h.below.trans (hb.mono (by have := h.big; omega)), (hb.block _ (by have := h.big; omega)).trans h.box, (hb.block _ (by have := h.big; omega)).trans h.res, h.best.later hb, h.cr0, h.row0, h.eqB⟩
theorem Fs.cr (h : Fs B g m al ps sv w c L cap l a b W) : Cr g m al ps sv W := h.cr0.later (by have := h.below; rwa [h.eqB] at this)
theorem Fs.row (h : Fs B g m al ps sv w c L cap l a b W) : Nums W (some ⟨c, 0, none⟩) cap l := h.row0.below (by have := h.below; rwa [h.eqB] at this)
theorem Fs.put (h : Fs B g m al ps sv w c L cap l a b W) (x y : Int) : Fs B g m al ps sv w c L cap l x y (W.setRow (B + 2) #[.int .i64 x, .int .i64 y]) :=
  ⟨below_setRow h.below (by omega) _, (setRow_other _ _ _ _ (by omega)).trans h.box, (setRow_other _ _ _ _ (by omega)).trans h.res, ⟨setRow_heap _ _ _ _ _ _ h.best.row⟩, h.cr0, h.row0, h.eqB⟩
theorem Fs.c0 (h : Fs B g m al ps sv w c L cap l a b W) : W.cell? ⟨B, 0, none⟩ = some (.slice (some ⟨c, 0, none⟩) L cap) := by rw [cell_of_row _ _ _ _ _ _ h.box]; rfl
end
theorem Rwn {w : World} {c : Nat} {cap : Nat} {l : List Int} (h : Nums w (some ⟨c, 0, none⟩) cap l) (k : Nat) (hk : k < l.length) : w.cell? ⟨c, k, none⟩ = some (.int .i64 (l.getD k 0)) := by
  have := Nums.cell h k hk
  rwa [Nat.zero_add] at this
set_option maxHeartbeats 8000000 in
theorem first_any (w : World) (g : Nat) (c L cap n P : Nat) (al : List Int) (ps : List (Int × Int)) (T : List (List Int)) (l : List Int) (hC : Cd g al ps T w) (hl : Nums w (some ⟨c, 0, none⟩) cap l) (hL : l.length = L) (hL4 : L ≤ 4096) (hn : al.length = n) (hP : ps.length = P) (hnP : n + P ≤ 512) (hT : T.length = n + P) :
    Calls Tryd.prog 24 #[.pointer (some ⟨g, 0, none⟩), .agg #[.slice (some ⟨c, 0, none⟩) L cap]] w (FstA w ps l) := by
  have HL := Lib.hid hL
  have HL4 := Lib.hid hL4
  have HP := Lib.hid hP
  have Hn := Lib.hid hn
  have HnP := Lib.hid hnP
  obtain ⟨m, sp, ct, hcr, _⟩ := hC
  rw [hT] at hcr
  have h3 : Below w.heap.size w (((w.alloc (.cells #[.slice (some ⟨c, 0, none⟩) L cap] 72)).alloc (.cells #[.int .i64 0, .int .i64 0] 46)).alloc (.cells #[.int .i64 0, .int .i64 0] 46)) := (((Below.refl _ _).alloc (Nat.le_refl _) _).alloc (by simp) _).alloc (by simp; omega) _
  have HF0 : Hid (Fs w.heap.size g m al ps (.slice sp (n + P) ct) w c L cap l 0 0 (((w.alloc (.cells #[.slice (some ⟨c, 0, none⟩) L cap] 72)).alloc (.cells #[.int .i64 0, .int .i64 0] 46)).alloc (.cells #[.int .i64 0, .int .i64 0] 46))) := Lib.hid ⟨h3, by
      rw [heap_alloc_old _ _ (by simp; omega), heap_alloc_old _ _ (by simp)]
      exact heap_alloc_new _ _, by
      rw [heap_alloc_old _ _ (by simp)]
      have h := heap_alloc_new (w.alloc (.cells #[.slice (some ⟨c, 0, none⟩) L cap] 72)) (.cells #[.int .i64 0, .int .i64 0] 46)
      rw [World.size_alloc] at h
      exact h, ⟨by
      have h := heap_alloc_new ((w.alloc (.cells #[.slice (some ⟨c, 0, none⟩) L cap] 72)).alloc (.cells #[.int .i64 0, .int .i64 0] 46)) (.cells #[.int .i64 0, .int .i64 0] 46)
      rw [World.size_alloc, World.size_alloc] at h
      exact h⟩, hcr, hl, rfl⟩
  clear hL hP hn hnP hcr hl hT h3
  go_enter Tryd.func24, Tryd.ntmps24
  go_upto_region 2 with fail
  refine gen_w (Q := fun w => Code.wp _ _ _ _ w) _ (Fs w.heap.size g m al ps (.slice sp (n + P) ct) w c L cap l 0 0) HF0.out ?_
  clear HF0
  intro W1 hf1
  have HF1 := Lib.hid hf1
  clear hf1
  have HBs : Hid (Below w.heap.size w W1) := Lib.hid HF1.out.below
  obtain ⟨B, hB⟩ : ∃ B, w.heap.size = B := ⟨_, rfl⟩
  rw [hB] at HF1 ⊢
  have HBe := Lib.hid hB
  clear hB HBs
  obtain ⟨M, hM⟩ : ∃ M, n + P = M := ⟨_, rfl⟩
  rw [hM] at HF1
  have HM := Lib.hid hM
  have hMs : M ≤ 512 := by have := HnP.out; omega
  clear hM
  go_wp2_with fail
  refine (many_any W1 g m al ps sp M ct HF1.out.cr (by unfold maxLen; omega)).mono ?_
  rintro e w2 ⟨rfl, rfl⟩
  go_wp2
  go_loopw [8, 9] (fun lv iv wr => ∃ (i : Nat) (a b : Int), 1 ≤ i ∧ (i ≤ L ∨ i = 1) ∧ iv = .int .i64 i ∧ lv = .int .i64 (lst n P (fst ps (l.take i))) ∧ (∀ k, fst ps (l.take i) = some k → ps.getD k (0, 0) = (a, b)) ∧ Fs B g m al ps (.slice sp M ct) w c L cap l a b wr) (fun _ iv _ => L - (intOf iv).toNat)
  case atStart => exact ⟨1, 0, 0, Nat.le_refl _, Or.inr rfl, rfl, by rw [fst_one _ _ _ (Nat.le_refl _)]; unfold lst; rw [HM.out], fun k hk => by (rw [fst_one _ _ _ (Nat.le_refl _)] at hk; cases hk), HF1.out⟩
  case round =>
    clear HF1
    obtain ⟨i, a, b, hi1, hi2, rfl, rfl, hbest, hf⟩ := hrel
    have HBest := Lib.hid hbest
    have HF := Lib.hid hf
    have Hi1 := Lib.hid hi1
    have q0 := hf.c0
    clear hbest hf
    by_cases hil : i < L
    · have hd1 : decide (i < L) = true := by simpa using hil
      have hd2 : decide ((i : Int) < (L : Int)) = true := by simp; omega
      obtain ⟨j, rfl⟩ : ∃ j, i = j + 1 := ⟨i - 1, by omega⟩
      have hNm : L ≤ 4096 := HL4.out
      have hw1 : IntKind.i64.wrap (((j : Int) + 1) - 1) = (j : Int) := by rw [IntWalk.i64_in _ (by omega)]; omega
      have HW1 := Lib.hid hw1
      have HjL : Hid (j < L) := Lib.hid (by omega)
      have HiL : Hid (j + 1 < L) := Lib.hid (by omega)
      have r1 := Nums.cell HF.out.row j (by rw [HL.out]; omega)
      have r2 := Nums.cell HF.out.row (j + 1) (by rw [HL.out]; omega)
      obtain ⟨x, hx⟩ : ∃ x, l.getD j 0 = x := ⟨_, rfl⟩
      obtain ⟨y, hy⟩ : ∃ y, l.getD (j + 1) 0 = y := ⟨_, rfl⟩
      rw [hx] at r1
      rw [hy] at r2
      have R1 := Lib.hid r1
      have R2 := Lib.hid r2
      have HXx := Lib.hid hx
      have HYy := Lib.hid hy
      clear hx hy r1 r2 hw1
      obtain ⟨v8, hv8⟩ : ∃ v8 : Nat, lst n P (fst ps (l.take (j + 1))) = v8 := ⟨_, rfl⟩
      rw [hv8]
      have HV8 := Lib.hid hv8
      clear hv8
      go_upto_region 7 with fail
      refine Tn.wp_region_spec (C := fun W => Below wr.heap.size wr W) (Le := fun w w' => Below w.heap.size w w') 13 (fun _ ixx W yy => (ixx = 12 → ∃ D, yy = .pointer (some ⟨D, 0, none⟩) ∧ wr.heap.size ≤ D ∧ Pk D 0 0 W) ∧ ∀ z, faX B c L cap j x y ixx = some z → yy = z) (by kernel_rfl) (by kernel_rfl) ⟨rfl, rfl, rfl, Nat.le_refl _, fun _ _ => rfl⟩ (fun _ _ _ _ _ _ h => h) (fun _ _ _ _ _ hb h => ⟨fun e => (h.1 e).elim fun D h => ⟨D, h.1, h.2.1, h.2.2.later hb⟩, h.2⟩) (fun ixx yy => ∀ z, faX B c L cap j x y ixx = some z → yy = z) (fun _ _ _ _ h => h.2) (fun ixx => (faX B c L cap j x y ixx).getD undef) (fun ixx z h => by simp [h]) ?_ ?_
      · intro u hu
        have h0 : u 0 = .pointer (some ⟨B, 0, none⟩) := hu 0 _ rfl
        have h1 : u 1 = .slice (some ⟨c, 0, none⟩) L cap := hu 1 _ rfl
        have h2 : u 2 = .int .i64 ((j : Int) + 1) := hu 2 _ rfl
        have h3 : u 3 = .int .i64 (j : Int) := hu 3 _ rfl
        have h4 : u 4 = .pointer (some ⟨c, 0 + j, none⟩) := hu 4 _ rfl
        have h5 : u 5 = .int .i64 x := hu 5 _ rfl
        have h6 : u 6 = .pointer (some ⟨B, 0, none⟩) := hu 6 _ rfl
        have h7 : u 7 = .slice (some ⟨c, 0, none⟩) L cap := hu 7 _ rfl
        have h8 : u 8 = .int .i64 ((j : Int) + 1) := hu 8 _ rfl
        have h9 : u 9 = .pointer (some ⟨c, 0 + (j + 1), none⟩) := hu 9 _ rfl
        have h10 : u 10 = .int .i64 y := hu 10 _ rfl
        have h11 : u 11 = .agg #[.int .i64 x, .int .i64 y] := hu 11 _ rfl
        simp only [List.take_succ_cons, List.take_zero]
        refine Tn.spec_cons (fun W hC hd => ⟨by rfl, ?_⟩) ?_
        · exact Tn.gives_val (.pointer (some ⟨B, 0, none⟩)) W (exec_rf0 (.tmp 3) rfl B rfl) ⟨hC, Below.refl _ _, (fun h => absurd h (by decide)), fun z hz => by cases hz; rfl⟩
        simp only [Act.put, List.setIfInBounds_toArray, List.set_cons_succ, List.set_cons_zero, Nat.reduceAdd]
        rw [h0]
        refine Tn.spec_cons (fun W hC hd => ⟨by rfl, ?_⟩) ?_
        · exact Tn.gives_val (.slice (some ⟨c, 0, none⟩) L cap) W (exec_load1 26 (.tmp 23) rfl ⟨B, 0, none⟩ rfl _ (HF.out.later hC).c0 _ Tryd.underlying26 rfl) ⟨hC, Below.refl _ _, (fun h => absurd h (by decide)), fun z hz => by cases hz; rfl⟩
        simp only [Act.put, List.setIfInBounds_toArray, List.set_cons_succ, List.set_cons_zero, Nat.reduceAdd]
        rw [h1]
        refine Tn.spec_cons (fun W hC hd => ⟨by rfl, ?_⟩) ?_
        · exact Tn.gives_val (.int .i64 ((j : Int) + 1)) W (by rfl) ⟨hC, Below.refl _ _, (fun h => absurd h (by decide)), fun z hz => by cases hz; rfl⟩
        simp only [Act.put, List.setIfInBounds_toArray, List.set_cons_succ, List.set_cons_zero, Nat.reduceAdd]
        rw [h2]
        refine Tn.spec_cons (fun W hC hd => ⟨by rfl, ?_⟩) ?_
        · exact Tn.gives_val (.int .i64 (j : Int)) W (exec_sub (.tmp 25) (.const (.int .i64 1)) rfl ((j : Int) + 1) 1 (j : Int) rfl rfl HW1.out) ⟨hC, Below.refl _ _, (fun h => absurd h (by decide)), fun z hz => by cases hz; rfl⟩
        simp only [Act.put, List.setIfInBounds_toArray, List.set_cons_succ, List.set_cons_zero, Nat.reduceAdd]
        rw [h3]
        refine Tn.spec_cons (fun W hC hd => ⟨by rfl, ?_⟩) ?_
        · exact Tn.gives_val (.pointer (some ⟨c, 0 + j, none⟩)) W (exec_at1 26 3 Tryd.underlying26 (by kernel_rfl) (.tmp 24) (.tmp 26) rfl c 0 L cap j rfl rfl HjL.out) ⟨hC, Below.refl _ _, (fun h => absurd h (by decide)), fun z hz => by cases hz; rfl⟩
        simp only [Act.put, List.setIfInBounds_toArray, List.set_cons_succ, List.set_cons_zero, Nat.reduceAdd]
        rw [h4]
        refine Tn.spec_cons (fun W hC hd => ⟨by rfl, ?_⟩) ?_
        · exact Tn.gives_val (.int .i64 x) W (exec_load1 3 (.tmp 27) rfl ⟨c, 0 + j, none⟩ rfl _ ((hC.cell (block_lt_of_cell R1.out)).trans R1.out) _ Tryd.underlying3 rfl) ⟨hC, Below.refl _ _, (fun h => absurd h (by decide)), fun z hz => by cases hz; rfl⟩
        simp only [Act.put, List.setIfInBounds_toArray, List.set_cons_succ, List.set_cons_zero, Nat.reduceAdd]
        rw [h5]
        refine Tn.spec_cons (fun W hC hd => ⟨by rfl, ?_⟩) ?_
        · exact Tn.gives_val (.pointer (some ⟨B, 0, none⟩)) W (exec_rf0 (.tmp 3) rfl B rfl) ⟨hC, Below.refl _ _, (fun h => absurd h (by decide)), fun z hz => by cases hz; rfl⟩
        simp only [Act.put, List.setIfInBounds_toArray, List.set_cons_succ, List.set_cons_zero, Nat.reduceAdd]
        rw [h6]
        refine Tn.spec_cons (fun W hC hd => ⟨by rfl, ?_⟩) ?_
        · exact Tn.gives_val (.slice (some ⟨c, 0, none⟩) L cap) W (exec_load1 26 (.tmp 29) rfl ⟨B, 0, none⟩ rfl _ (HF.out.later hC).c0 _ Tryd.underlying26 rfl) ⟨hC, Below.refl _ _, (fun h => absurd h (by decide)), fun z hz => by cases hz; rfl⟩
        simp only [Act.put, List.setIfInBounds_toArray, List.set_cons_succ, List.set_cons_zero, Nat.reduceAdd]
        rw [h7]
        refine Tn.spec_cons (fun W hC hd => ⟨by rfl, ?_⟩) ?_
        · exact Tn.gives_val (.int .i64 ((j : Int) + 1)) W (by rfl) ⟨hC, Below.refl _ _, (fun h => absurd h (by decide)), fun z hz => by cases hz; rfl⟩
        simp only [Act.put, List.setIfInBounds_toArray, List.set_cons_succ, List.set_cons_zero, Nat.reduceAdd]
        rw [h8]
        refine Tn.spec_cons (fun W hC hd => ⟨by rfl, ?_⟩) ?_
        · exact Tn.gives_val (.pointer (some ⟨c, 0 + (j + 1), none⟩)) W (exec_at1 26 3 Tryd.underlying26 (by kernel_rfl) (.tmp 30) (.tmp 31) rfl c 0 L cap (j + 1) rfl (by simp [Act.eval]) HiL.out) ⟨hC, Below.refl _ _, (fun h => absurd h (by decide)), fun z hz => by cases hz; rfl⟩
        simp only [Act.put, List.setIfInBounds_toArray, List.set_cons_succ, List.set_cons_zero, Nat.reduceAdd]
        rw [h9]
        refine Tn.spec_cons (fun W hC hd => ⟨by rfl, ?_⟩) ?_
        · exact Tn.gives_val (.int .i64 y) W (exec_load1 3 (.tmp 32) rfl ⟨c, 0 + (j + 1), none⟩ rfl _ ((hC.cell (block_lt_of_cell R2.out)).trans R2.out) _ Tryd.underlying3 rfl) ⟨hC, Below.refl _ _, (fun h => absurd h (by decide)), fun z hz => by cases hz; rfl⟩
        simp only [Act.put, List.setIfInBounds_toArray, List.set_cons_succ, List.set_cons_zero, Nat.reduceAdd]
        rw [h10]
        refine Tn.spec_cons (fun W hC hd => ⟨by rfl, ?_⟩) ?_
        · exact Tn.gives_val (.agg #[.int .i64 x, .int .i64 y]) W (exec_buildP (.tmp 28) (.tmp 33) rfl x y rfl rfl) ⟨hC, Below.refl _ _, (fun h => absurd h (by decide)), fun z hz => by cases hz; rfl⟩
        simp only [Act.put, List.setIfInBounds_toArray, List.set_cons_succ, List.set_cons_zero, Nat.reduceAdd]
        rw [h11]
        refine Tn.spec_cons (fun W hC hd => ⟨by rfl, ?_⟩) ?_
        · exact Tn.gives_val _ _ (exec_allocP rfl) ⟨hC.trans ((Below.refl W.heap.size W).alloc (Nat.le_refl _) _ |>.mono hC.size), (Below.refl W.heap.size W).alloc (Nat.le_refl _) _, (fun _ => ⟨W.heap.size, rfl, hC.size, ⟨heap_alloc_new _ _⟩⟩), fun z hz => by cases hz⟩
        simp only [Act.put, List.setIfInBounds_toArray, List.set_cons_succ, List.set_cons_zero, Nat.reduceAdd]
        exact Tn.spec_nil
      · intro u W hu hC hP
        have h0 : u 0 = .pointer (some ⟨B, 0, none⟩) := hu 0 _ rfl
        have h1 : u 1 = .slice (some ⟨c, 0, none⟩) L cap := hu 1 _ rfl
        have h2 : u 2 = .int .i64 ((j : Int) + 1) := hu 2 _ rfl
        have h3 : u 3 = .int .i64 (j : Int) := hu 3 _ rfl
        have h4 : u 4 = .pointer (some ⟨c, 0 + j, none⟩) := hu 4 _ rfl
        have h5 : u 5 = .int .i64 x := hu 5 _ rfl
        have h6 : u 6 = .pointer (some ⟨B, 0, none⟩) := hu 6 _ rfl
        have h7 : u 7 = .slice (some ⟨c, 0, none⟩) L cap := hu 7 _ rfl
        have h8 : u 8 = .int .i64 ((j : Int) + 1) := hu 8 _ rfl
        have h9 : u 9 = .pointer (some ⟨c, 0 + (j + 1), none⟩) := hu 9 _ rfl
        have h10 : u 10 = .int .i64 y := hu 10 _ rfl
        have h11 : u 11 = .agg #[.int .i64 x, .int .i64 y] := hu 11 _ rfl
        obtain ⟨D, e12, hD1, hD2⟩ := (hP 12 (by omega)).1 rfl
        simp only [List.take_succ_cons, List.take_zero, List.drop_succ_cons, List.drop_zero, Tn.putAll, Act.put, List.setIfInBounds_toArray, List.set_cons_succ, List.set_cons_zero, Nat.reduceAdd]
        rw [h0, h1, h2, h3, h4, h5, h6, h7, h8, h9, h10, h11, e12]
        have HCw : Hid (Below wr.heap.size wr W) := Lib.hid hC
        clear hu hC hP h0 h1 h2 h3 h4 h5 h6 h7 h8 h9 h10 h11
        have HFs : Hid (Fs B g m al ps (.slice sp M ct) w c L cap l a b (W.setRow D #[.int .i64 x, .int .i64 y])) := Lib.hid (HF.out.later (below_setRow HCw.out hD1 _))
        have HPs : Hid (Pk D x y (W.setRow D #[.int .i64 x, .int .i64 y])) := Lib.hid ⟨setRow_heap _ _ _ _ _ _ hD2.row⟩
        have HDb : Hid (wr.heap.size ≤ D) := Lib.hid hD1
        have HD2 := Lib.hid hD2
        clear hD1 hD2
        go_wp2_with (refine wpList_store_row rfl 46 (.tmp 10) (.tmp 34) rfl D #[.int .i64 x, .int .i64 y] rfl rfl 46 _ HD2.out.row (size_bpair2 _ _) rfl (two_one _ _ rfl rfl) ?_)
        go_upto_region 8 with fail
        refine gen_w (Q := fun w => Code.wp _ _ _ _ w) _ (fun W => Fs B g m al ps (.slice sp M ct) w c L cap l a b W ∧ Pk D x y W) ⟨HFs.out, HPs.out⟩ ?_
        clear HFs HPs HCw HD2 q0
        rintro w3 ⟨hf3, hp3⟩
        have HF3 := Lib.hid hf3
        have HP3 := Lib.hid hp3
        obtain ⟨q1, q2⟩ := hp3.cells
        have c2 := hf3.cr.c2
        have hlk : ∀ q, (Instr.lookup 54 (.map (some m)) (.agg #[.int .i64 x, .int .i64 y]) true).run Tryd.prog (w3.drewN q) = .ok (.tuple #[.int .i64 (tokP al.length ps (x, y)), .bool (decide ((x, y) ∈ ps))]) (w3.drewN q) := fun q => look_ok (W := w3.drewN q) HF3.out.cr.mp x y
        clear hf3 hp3
        by_cases hm : (x, y) ∈ ps
        · rw [decide_eq_true hm] at hlk
          obtain ⟨hx1, hx2⟩ := idx_pair hm
          obtain ⟨k, hk⟩ : ∃ k, ps.idxOf (x, y) = k := ⟨_, rfl⟩
          have htk : tokP al.length ps (x, y) = ((n + k : Nat) : Int) := by unfold tokP; rw [if_pos hm, Hn.out, hk]; omega
          rw [htk] at hlk
          have HK := Lib.hid hk
          have HMm := Lib.hid hm
          rw [hk] at hx1 hx2
          have HX1 : Hid (k < P) := Lib.hid (by rw [← HP.out]; exact hx1)
          have HX2 := Lib.hid hx2
          obtain ⟨t, ht⟩ : ∃ t, n + k = t := ⟨_, rfl⟩
          rw [ht] at hlk
          have HT := Lib.hid ht
          clear htk hk hm hx1 hx2 ht
          go_quiet (fail)
          have HF4 := Lib.hid (HF3.out.later (drawn_below nq))
          have HP4 := Lib.hid (HP3.out.later (drawn_below nq))
          generalize w3.drewN nq = w4 at HF4 HP4 ⊢
          clear q1 q2 c2 hlk
          by_cases hlt : t < v8
          · have d1 : decide (t < v8) = true := by simpa using hlt
            have d2 : decide ((t : Int) < (v8 : Int)) = true := by simp; omega
            have HFi : Hid (fst ps (l.take (j + 1 + 1)) = some k) := Lib.hid (by
              have h := fst_better (ps := ps) (l := l) (i := j + 1) (by omega) (by rw [HL.out]; exact hil) (p := (x, y)) (by rw [Nat.add_sub_cancel, HXx.out, HYy.out]) HMm.out (fun k' hk' => by
                have h1 := HV8.out
                rw [hk'] at h1
                simp only [lst] at h1
                have h2 := HT.out
                have h3 := HK.out
                omega)
              rw [h, HK.out])
            have HFp := Lib.hid (HF4.out.put x y)
            obtain ⟨q1, q2⟩ := HP4.out.cells
            clear hlt
            go_wp2_with (refine wpList_store_row rfl 46 (.tmp 6) (.tmp 50) rfl (B + 1 + 1) #[.int .i64 x, .int .i64 y] rfl rfl 46 _ HF4.out.best.row (size_bpair2 _ _) rfl (two_one _ _ rfl rfl) ?_)
            go_roundw
            case rel => exact ⟨j + 1 + 1, x, y, by omega, by omega, by go_num, by rw [HFi.out]; simp only [lst]; rw [HT.out], fun k' hk' => by (rw [HFi.out] at hk'; cases hk'; exact HX2.out), HFp.out⟩
            case measure => simp [intOf]; omega
          · have d1 : decide (t < v8) = false := by simpa using hlt
            have d2 : decide ((t : Int) < (v8 : Int)) = false := by simp; omega
            have HFi : Hid (fst ps (l.take (j + 1 + 1)) = fst ps (l.take (j + 1))) := Lib.hid (fst_stays (ps := ps) (l := l) (i := j + 1) (by omega) (by rw [HL.out]; exact hil) (p := (x, y)) (by rw [Nat.add_sub_cancel, HXx.out, HYy.out]) (fun _ => by
              have h1 := HV8.out
              have h2 := HT.out
              have h3 := HK.out
              have h4 := HX1.out
              rcases ho : fst ps (l.take (j + 1)) with _ | k'
              · rw [ho] at h1
                simp only [lst] at h1
                omega
              · rw [ho] at h1
                simp only [lst] at h1
                exact ⟨k', rfl, by omega⟩))
            clear hlt
            go_wp2
            go_roundw
            case rel => exact ⟨j + 1 + 1, a, b, by omega, by omega, by go_num, by rw [HFi.out, HV8.out], fun k' hk' => HBest.out k' (by rw [← HFi.out]; exact hk'), HF4.out⟩
            case measure => simp [intOf]; omega
        · rw [decide_eq_false hm] at hlk
          have HFi : Hid (fst ps (l.take (j + 1 + 1)) = fst ps (l.take (j + 1))) := Lib.hid (fst_stays (ps := ps) (l := l) (i := j + 1) (by omega) (by rw [HL.out]; exact hil) (p := (x, y)) (by rw [Nat.add_sub_cancel, HXx.out, HYy.out]) (fun h => absurd h hm))
          obtain ⟨z, hz⟩ : ∃ z, tokP al.length ps (x, y) = z := ⟨_, rfl⟩
          rw [hz] at hlk
          clear hm hz
          go_quiet (fail)
          have HF4 := Lib.hid (HF3.out.later (drawn_below nq))
          generalize w3.drewN nq = w4 at HF4 ⊢
          clear q1 q2 c2 hlk
          go_wp2
          go_roundw
          case rel => exact ⟨j + 1 + 1, a, b, by omega, by omega, by go_num, by rw [HFi.out, HV8.out], fun k' hk' => HBest.out k' (by rw [← HFi.out]; exact hk'), HF4.out⟩
          case measure => simp [intOf]; omega
    · have hdf : decide (i < L) = false := by simpa using hil
      have hdf2 : decide ((i : Int) < (L : Int)) = false := by simp; omega
      have hle : l.take i = l := List.take_of_length_le (by rw [HL.out]; omega)
      rw [hle]
      have HBest2 : Hid (∀ k, fst ps l = some k → ps.getD k (0, 0) = (a, b)) := Lib.hid (by have := HBest.out; rwa [hle] at this)
      clear hle HBest
      obtain ⟨v8, hv8⟩ : ∃ v8 : Nat, lst n P (fst ps l) = v8 := ⟨_, rfl⟩
      rw [hv8]
      obtain ⟨so, hso⟩ : ∃ so : Bool, (fst ps l).isSome = so := ⟨_, rfl⟩
      have hd3 : decide (v8 < M) = so := by
        rcases ho : fst ps l with _ | k
        · rw [ho] at hv8 hso
          simp only [lst] at hv8
          have := HM.out
          rw [← hso, ← hv8]
          simp
          omega
        · have hk := (fst_some ho).1
          rw [ho] at hv8 hso
          simp only [lst] at hv8
          have h1 := HM.out
          have h2 := HP.out
          rw [← hso, ← hv8]
          simp
          omega
      have HD3 := Lib.hid hd3
      have HSo := Lib.hid hso
      have HFr : Hid ((wr.setRow (B + 1) #[.int .i64 a, .int .i64 b]).heap[B + 1]? = some (.cells #[.int .i64 a, .int .i64 b] 46 (0, 0))) := Lib.hid (setRow_heap _ _ _ _ _ _ HF.out.res)
      have HBf : Hid (Below B w (wr.setRow (B + 1) #[.int .i64 a, .int .i64 b])) := Lib.hid (below_setRow HF.out.below (by omega) _)
      obtain ⟨q1, q2⟩ := HF.out.best.cells
      clear hv8 hso hd3 hil
      go_wp2_with (refine wpList_store_row rfl 46 (.tmp 4) (.tmp 52) rfl (B + 1) #[.int .i64 a, .int .i64 b] rfl rfl 46 _ HF.out.res (size_bpair2 _ _) rfl (two_one _ _ rfl rfl) ?_)
      exact bodyPost_ret (v := .tuple #[.agg #[.int .i64 a, .int .i64 b], .bool (decide (v8 < M))]) (results_two Tryd.results24 _ _ (B + 1) 46 #[.int .i64 a, .int .i64 b] (0, 0) _ _ rfl rfl HFr.out under_pair rfl size_bpair) rfl ⟨by rw [HBe.out]; exact HBf.out, a, b, by rw [HSo.out, HD3.out], HBest2.out⟩
end Go.Proofs.YtllaecliaojmjaaDoor.Bp
