import Derived.Test.YtchjijifmjbgoaaDoorGf
import Derived.Test.YtchjijifmjbgoaaDoorGq
namespace Go.Proofs.YtchjijifmjbgoaaDoor.Tn
open Go.ChangeShapes Go.WideShapes Go.ChangeAt Go.RowKit Go.Proofs.YtchjijifmjbgoaaDoor.Fx Go.Proofs.YtchjijifmjbgoaaDoor.Rf

def angC : Array Value := #[.int .i64 39322, .int .i64 52429, .int .i64 60495, .int .i64 25206, .int .i64 57826, .int .i64 30840, .int .i64 62915, .int .i64 18350]
def pairC (p : Int × Int) : Array Value := #[.int .i64 p.1, .int .i64 p.2]
/-- while a place's angle is reckoned -/
structure AngS (w : World) (p : Int × Int) (W : World) : Prop where
  below : Below w.heap.size w W
  res : W.heap[w.heap.size]? = some (.cells #[.int .i64 0, .int .i64 0] 78 (0, 0))
  steps : W.heap[w.heap.size + 1]? = some (.cells angC 78 (0, 0))
  out : W.heap[w.heap.size + 1 + 1]? = some (.cells (pairC p) 78 (0, 0))
theorem AngS.made (w : World) : AngS w (65536, 0) (((w.alloc (.cells #[.int .i64 0, .int .i64 0] 78)).alloc (.cells angC 78)).alloc (.cells (pairC (65536, 0)) 78)) := by
  refine ⟨below3 _ _ _ _, ?_, ?_, top3 _ _ _ _ _⟩
  · rw [Below.heap_alloc _ _ _ (by simp; omega), Below.heap_alloc _ _ _ (by simp)]
    exact heap_alloc_new _ _
  · have h := heap_alloc_new (w.alloc (.cells #[.int .i64 0, .int .i64 0] 78)) (.cells angC 78)
    rw [World.size_alloc] at h
    rw [Below.heap_alloc _ _ _ (by simp)]
    exact h
theorem AngS.later {w W W' : World} {p : Int × Int} (h : AngS w p W) (hb : Below W.heap.size W W') : AngS w p W' :=
  ⟨h.below.trans (hb.mono h.below.size), (hb.block _ (Array.getElem?_eq_some_iff.1 h.res).1).trans h.res, (hb.block _ (Array.getElem?_eq_some_iff.1 h.steps).1).trans h.steps, (hb.block _ (Array.getElem?_eq_some_iff.1 h.out).1).trans h.out⟩
/-- a block for a pair, made behind the others -/
def NewC (w : World) (X : Array Value) (W : World) (v : Value) : Prop := ∃ g, v = .pointer (some ⟨g, 0, none⟩) ∧ w.heap.size + 3 ≤ g ∧ (W.heap[g]? = some (.cells #[.int .i64 0, .int .i64 0] 78 (0, 0)) ∨ W.heap[g]? = some (.cells X 78 (0, 0)))
/-- every block stays, or was a new pair and holds X -/
def LeX (X : Array Value) (W W' : World) : Prop := ∀ (k : Nat) (o : Obj), W.heap[k]? = some o → W'.heap[k]? = some o ∨ (o = Obj.cells #[.int .i64 0, .int .i64 0] 78 (0, 0) ∧ W'.heap[k]? = some (Obj.cells X 78 (0, 0)))
theorem LeX.of {X : Array Value} {W W' : World} (hb : Below W.heap.size W W') : LeX X W W' := fun k _ h => Or.inl ((hb.block k (Array.getElem?_eq_some_iff.1 h).1).trans h)
theorem LeX.put {X : Array Value} {W : World} {g : Nat} (hg : W.heap[g]? = some (.cells #[.int .i64 0, .int .i64 0] 78 (0, 0))) : LeX X W (W.setRow g X) := fun k o h => by
  by_cases e : k = g
  · subst e
    right
    rw [hg] at h
    exact ⟨(Option.some.inj h).symm, setRow_heap _ _ _ _ _ _ hg⟩
  · left
    rw [setRow_other _ _ _ _ e]
    exact h
theorem LeX.put2 {X : Array Value} {W : World} {g : Nat} (hg : W.heap[g]? = some (.cells X 78 (0, 0))) : LeX X W (W.setRow g X) := fun k o h => by
  by_cases e : k = g
  · subst e
    left
    rw [setRow_heap _ _ _ _ _ _ hg, ← hg]
    exact h
  · left
    rw [setRow_other _ _ _ _ e]
    exact h
theorem NewC.later {w W W' : World} {X : Array Value} {v : Value} (h : NewC w X W v) (hb : LeX X W W') : NewC w X W' v := by
  obtain ⟨g, h1, h2, h3⟩ := h
  refine ⟨g, h1, h2, ?_⟩
  rcases h3 with h3 | h3
  · rcases hb g _ h3 with h4 | ⟨_, h4⟩
    · exact Or.inl h4
    · exact Or.inr h4
  · rcases hb g _ h3 with h4 | ⟨_, h4⟩
    · exact Or.inr h4
    · exact Or.inr h4
/-- the block holds X -/
def HoldC (X : Array Value) (p : Value) (W : World) : Prop := ∃ g, p = .pointer (some ⟨g, 0, none⟩) ∧ W.heap[g]? = some (.cells X 78 (0, 0))
theorem HoldC.later {X : Array Value} {p : Value} {W W' : World} (h : HoldC X p W) (hb : LeX X W W') : HoldC X p W' := by
  obtain ⟨g, h1, h3⟩ := h
  refine ⟨g, h1, ?_⟩
  rcases hb g _ h3 with h4 | ⟨_, h4⟩
  · exact h4
  · exact h4
theorem gives_skip {P : Program} {o : Oper} {a : Act} {w : World} {G : Value → World → Prop} (w' : World) (h : (execOp a.eval o).run P w = .ok .skip w') (hG : G undef w') : Gives P o a w G := by unfold Gives; rw [h]; exact hG
theorem exec_store_row {P : Program} {o : Oper} {a : Act} {w : World} (ty : TypeId) (x y : Operand) (ho : o.op = .store ty x y) (g : Nat) (cells : Array Value) (hx : a.eval x = .pointer (some ⟨g, 0, none⟩)) (hy : a.eval y = .agg cells)
    (t : TypeId) (old : Array Value) (hg : w.heap[g]? = some (.cells old t (0, 0))) (hi : (P.info? ty).map (·.size) = some cells.size) (hold : old.size = cells.size) (h1 : cells.all (·.oneCell') = true) : (execOp a.eval o).run P w = .ok .skip (w.setRow g cells) := by
  have h := run_storeVar_row (P := P) w g t ty old cells hg hi hold h1
  unfold execOp
  simp only [ho, hx, hy, Instr.storeAt, Instr.sureAddr, Sem.run_bind, Sem.run_pure, Result.andThen_ok, h]
theorem AngS.size {w W : World} {p : Int × Int} (h : AngS w p W) : w.heap.size + 3 ≤ W.heap.size := by
  have := (Array.getElem?_eq_some_iff.1 h.out).1
  omega
/-- what each operation of a turn yields -/
def angV (w : World) (p : Int × Int) (j r c d : Int) (X : Array Value) (e : Int) (q : Nat) : Nat → Option Value
  | 0 => some (.agg (pairC p)) | 1 => some (.slice (some ⟨w.heap.size + 1, 0, none⟩) 4 4) | 2 => some (.int .i64 j) | 3 => some (.int .i64 r) | 4 => some (.pointer (some ⟨w.heap.size + 1, q, none⟩))
  | 5 => some (.agg #[.int .i64 c, .int .i64 d]) | 6 => some (.tuple #[.agg X, .int .i64 e]) | 7 => some (.tuple #[.agg X, .int .i64 e]) | 8 => some (.agg X) | 9 => some (.int .i64 e) | _ => none
theorem exec_pair_at {a : Act} {o : Oper} {W : World} (x y : Operand) (ho : o.op = .indexAddr 100 x y) (c k n cap i : Nat) (hx : a.eval x = .slice (some ⟨c, k, none⟩) n cap) (hy : a.eval y = .int .i64 (i : Int)) (hi : i < n) : (execOp a.eval o).run Tryd.prog W = .ok (.value (.pointer (some ⟨c, k + i * 2, none⟩))) W := by
  have hadd := add_plain c k (i * 2)
  cases hq : Tryd.prog.info? 78 with
  | none => have := size_pair; simp [hq] at this
  | some j =>
    have hj : j.size = 2 := by have := size_pair; simpa [hq] using this
    unfold execOp
    simp [ho, hx, hy, Instr.indexAt, asIntOf, run_underlying Tryd.underlying100, sizeOf, typeInfo, hq, hj, hi, hadd]
theorem exec_load_pair {a : Act} {o : Oper} {W : World} (x : Operand) (ho : o.op = .load 78 x) (c k : Nat) (hx : a.eval x = .pointer (some ⟨c, k, none⟩)) (u v : Int) (hr : W.rangeAt c k [.int .i64 u, .int .i64 v]) : (execOp a.eval o).run Tryd.prog W = .ok (.value (.agg #[.int .i64 u, .int .i64 v])) W := by
  have h := run_loadVar_mid (P := Tryd.prog) W c k 78 [.int .i64 u, .int .i64 v] _ hr Tryd.underlying78 rfl (by simpa using size_pair)
  unfold execOp
  simp only [ho, hx, Instr.loadAt, Instr.sureAddr, Sem.run_bind, Sem.run_pure, Result.andThen_ok, h]
theorem run_rem4 (x r : Int) (h : x % 4 = r) (h0 : 0 ≤ x) (W : World) : (binOp .rem 3 (.int .i64 x) (.int .i64 4)).run Tryd.prog W = .ok (.int .i64 r) W := by
  have e : x.tmod 4 = r := by rw [Int.tmod_eq_emod_of_nonneg h0]; exact h
  have hr : 0 ≤ r ∧ r < 4 := by omega
  have b1 := hr.1
  have b2 := hr.2
  simp [go_sem, e]
theorem ang_range {w W : World} {p : Int × Int} (h : AngS w p W) (r : Nat) (hr : r < 4) : W.rangeAt (w.heap.size + 1) (r * 2) [.int .i64 (angs.getD r (0, 0)).1, .int .i64 (angs.getD r (0, 0)).2] := by
  intro i v hv
  rw [cell_of_row _ _ _ _ _ _ h.steps]
  rcases r with _ | _ | _ | _ | r <;> first | omega | (rcases i with _ | _ | i <;> first | (simp [angC, angs] at hv ⊢; exact hv) | (simp at hv) | (simpa [angC, angs] using hv))
theorem pairC_one (p : Int × Int) : (pairC p).all (·.oneCell') = true := by
  simp [pairC, Value.oneCell']
theorem ang_ways (p : Int × Int) (c d : Int) : ∃ (X : Array Value) (e : Int), pairV (trn p.1 p.2 c d) = .tuple #[.agg X, .int .i64 e] ∧ X.size = 2 ∧ X.all (·.oneCell') = true ∧ ((e = 0 ∧ ∃ q, trn p.1 p.2 c d = some q ∧ X = pairC q) ∨ (e = 17 ∧ trn p.1 p.2 c d = none ∧ X = pairC (0, 0))) := by
  cases h : trn p.1 p.2 c d with
  | none => exact ⟨_, _, rfl, rfl, pairC_one (0, 0), Or.inr ⟨rfl, rfl, rfl⟩⟩
  | some q => exact ⟨_, _, rfl, rfl, pairC_one q, Or.inl ⟨rfl, q, rfl, rfl⟩⟩
/-- behind a turn -/
structure AngT (w : World) (p : Int × Int) (g : Nat) (X : Array Value) (W : World) : Prop where
  s : AngS w p W
  far : w.heap.size + 3 ≤ g
  row : W.heap[g]? = some (.cells X 78 (0, 0))
theorem AngT.made {w W : World} {p : Int × Int} {g : Nat} {Y X : Array Value} (h : AngS w p W) (hg : w.heap.size + 3 ≤ g) (hr : W.heap[g]? = some (.cells Y 78 (0, 0))) : AngT w p g X (W.setRow g X) := by
  refine ⟨⟨below_setRow h.below (by omega) _, ?_, ?_, ?_⟩, hg, setRow_heap _ _ _ _ _ _ hr⟩
  · rw [setRow_other _ _ _ _ (by omega)]; exact h.res
  · rw [setRow_other _ _ _ _ (by omega)]; exact h.steps
  · rw [setRow_other _ _ _ _ (by omega)]; exact h.out
theorem AngT.next {w W : World} {p q : Int × Int} {g : Nat} (h : AngT w p g (pairC q) W) : AngS w q (W.setRow (w.heap.size + 1 + 1) (pairC q)) := by
  refine ⟨below_setRow h.s.below (by omega) _, ?_, ?_, setRow_heap _ _ _ _ _ _ h.s.out⟩
  · rw [setRow_other _ _ _ _ (by omega)]; exact h.s.res
  · rw [setRow_other _ _ _ _ (by omega)]; exact h.s.steps
set_option maxRecDepth 100000 in
set_option maxHeartbeats 4000000 in
theorem angle_any (w : World) (j n : Nat) (hj : j ≤ 1000000) (hn : n ≤ 1023) :
    Calls Tryd.prog 60 #[.int .i64 (j : Int), .int .i64 (n : Int)] w fun e w' => e = .returned (pairV (angP j n)) ∧ Below w.heap.size w w' := by
  obtain ⟨r, hr⟩ : ∃ r, j % 4 = r := ⟨_, rfl⟩
  have hr4 : r < 4 := by omega
  have hA : ∀ n, angP j n = ang (angs.getD r (0, 0)).1 (angs.getD r (0, 0)).2 n := fun n => by unfold angP; rw [hr]
  have hcd : isN (angs.getD r (0, 0)).1 ∧ isN (angs.getD r (0, 0)).2 := by
    rcases r with _ | _ | _ | _ | r <;> first | omega | decide
  have HRG := Lib.hid (fun (p : Int × Int) (W : World) (h : AngS w p W) => ang_range h r hr4)
  rw [hA n]
  obtain ⟨c, hc⟩ : ∃ c, (angs.getD r (0, 0)).1 = c := ⟨_, rfl⟩
  obtain ⟨d, hd⟩ : ∃ c, (angs.getD r (0, 0)).2 = c := ⟨_, rfl⟩
  rw [hc, hd] at hcd HRG ⊢
  have HCD := Lib.hid hcd
  have hjr : (j : Int) % 4 = (r : Int) := by omega
  have HJ := Lib.hid hjr
  clear hc hd hA hcd hr hjr
  go_enter Tryd.func60, Tryd.ntmps60
  go_upto_region 3 with fail
  refine gen_world (Q := fun w => Code.wp _ _ _ _ w) _ (AngS w (65536, 0)) (AngS.made w) ?_
  intro W0 h0
  have H0 := Lib.hid h0
  clear h0
  go_wp2
  go_loopw [8] (fun i wr => ∃ (k : Nat) (p : Int × Int), k ≤ n ∧ i = .int .i64 k ∧ ang c d k = some p ∧ AngS w p wr) (fun i _ => n - (intOf i).toNat)
  case atStart => exact ⟨0, _, by omega, rfl, rfl, H0.out⟩
  case round =>
    obtain ⟨k, p, hk, rfl, hp, hS⟩ := hrel
    have HS := Lib.hid hS
    have HP := Lib.hid hp
    have HI := Lib.hid (ang_in c d k p hp)
    clear hS hp
    by_cases hlt : k < n
    · have hdt : decide (k < n) = true := by simp; omega
      have hjr := HJ.out
      go_wp2
      obtain ⟨X, e, hX, hX2, hX1, hXd⟩ := ang_ways p c d
      have HXd := Lib.hid hXd
      have HTc := Lib.hid (fun W => turn_any W p.1 p.2 c d HI.out.1 HI.out.2 HCD.out.1 HCD.out.2)
      rw [hX] at HTc
      have HX := Lib.hid hX
      have HX2 := Lib.hid hX2
      have HX1 := Lib.hid hX1
      clear hX hX2 hX1 hXd
      refine wp_region_spec (C := fun W => AngS w p W) (Le := LeX X) 12 (fun u q W v => (q = 10 → NewC w X W v) ∧ (q = 11 → HoldC X (u 10) W) ∧ ∀ x, angV w p j r c d X e (0 + r * 2) q = some x → v = x) (by kernel_rfl) (by kernel_rfl) (HS.out.later ⟨rfl, rfl, rfl, Nat.le_refl _, fun _ _ => rfl⟩) (fun u u' q W v hd h => ⟨h.1, fun e => ?_, h.2.2⟩) (fun u q W W' v hb h => ⟨fun e => (h.1 e).later hb, fun e => (h.2.1 e).later hb, h.2.2⟩) (fun q v => ∀ x, angV w p j r c d X e (0 + r * 2) q = some x → v = x) (fun _ _ _ _ h => h.2.2) (fun q => (angV w p j r c d X e (0 + r * 2) q).getD undef) (fun q x h => by rw [h]; rfl) ?_ ?_
      · subst e
        have := hd _ rfl ⟨10, .data⟩ (by simp) rfl
        simp only at this
        rw [← this]
        exact h.2.1 rfl
      · intro u hu
        have h0 : u 0 = .agg (pairC p) := hu 0 _ rfl
        have h1 : u 1 = .slice (some ⟨w.heap.size + 1, 0, none⟩) 4 4 := hu 1 _ rfl
        have h2 : u 2 = .int .i64 (j : Int) := hu 2 _ rfl
        have h3 : u 3 = .int .i64 (r : Int) := hu 3 _ rfl
        have h4 : u 4 = .pointer (some ⟨w.heap.size + 1, 0 + r * 2, none⟩) := hu 4 _ rfl
        have h5 : u 5 = .agg #[.int .i64 c, .int .i64 d] := hu 5 _ rfl
        have h6 : u 6 = .tuple #[.agg X, .int .i64 e] := hu 6 _ rfl
        have h7 : u 7 = .tuple #[.agg X, .int .i64 e] := hu 7 _ rfl
        have h8 : u 8 = .agg X := hu 8 _ rfl
        have h9 : u 9 = .int .i64 e := hu 9 _ rfl
        simp only [List.take_succ_cons, List.take_zero]
        refine spec_cons (fun W hC hd => ⟨by rfl, ?_⟩) ?_
        · exact gives_val _ W (exec_load_row 78 (.tmp 7) rfl (w.heap.size + 1 + 1) rfl 78 (pairC p) (0, 0) _ hC.out Tryd.underlying78 rfl size_pair) ⟨hC, LeX.of (Below.refl _ _), (fun h => absurd h (by decide)), (fun h => absurd h (by decide)), fun x hx => by cases hx; rfl⟩
        simp only [Act.put, List.setIfInBounds_toArray, List.set_cons_succ, List.set_cons_zero, Nat.reduceAdd]
        rw [h0]
        refine spec_cons (fun W hC hd => ⟨by rfl, ?_⟩) ?_
        · exact gives_val _ W (rfl) ⟨hC, LeX.of (Below.refl _ _), (fun h => absurd h (by decide)), (fun h => absurd h (by decide)), fun x hx => by cases hx; rfl⟩
        simp only [Act.put, List.setIfInBounds_toArray, List.set_cons_succ, List.set_cons_zero, Nat.reduceAdd]
        rw [h1]
        refine spec_cons (fun W hC hd => ⟨by rfl, ?_⟩) ?_
        · exact gives_val _ W (rfl) ⟨hC, LeX.of (Below.refl _ _), (fun h => absurd h (by decide)), (fun h => absurd h (by decide)), fun x hx => by cases hx; rfl⟩
        simp only [Act.put, List.setIfInBounds_toArray, List.set_cons_succ, List.set_cons_zero, Nat.reduceAdd]
        rw [h2]
        refine spec_cons (fun W hC hd => ⟨by rfl, ?_⟩) ?_
        · exact gives_val _ W (exec_binOp .rem 3 3 (.tmp 25) (.const (.int .i64 4)) rfl (.int .i64 (j : Int)) (.int .i64 4) _ rfl rfl rfl (run_rem4 _ _ HJ.out (by omega) W)) ⟨hC, LeX.of (Below.refl _ _), (fun h => absurd h (by decide)), (fun h => absurd h (by decide)), fun x hx => by cases hx; rfl⟩
        simp only [Act.put, List.setIfInBounds_toArray, List.set_cons_succ, List.set_cons_zero, Nat.reduceAdd]
        rw [h3]
        refine spec_cons (fun W hC hd => ⟨by rfl, ?_⟩) ?_
        · exact gives_val _ W (exec_pair_at (.tmp 24) (.tmp 26) rfl (w.heap.size + 1) 0 4 4 r rfl rfl hr4) ⟨hC, LeX.of (Below.refl _ _), (fun h => absurd h (by decide)), (fun h => absurd h (by decide)), fun x hx => by cases hx; rfl⟩
        simp only [Act.put, List.setIfInBounds_toArray, List.set_cons_succ, List.set_cons_zero, Nat.reduceAdd]
        rw [h4]
        refine spec_cons (fun W hC hd => ⟨by rfl, ?_⟩) ?_
        · exact gives_val _ W (exec_load_pair (.tmp 27) rfl (w.heap.size + 1) (0 + r * 2) rfl c d (by rw [Nat.zero_add]; exact HRG.out p W hC)) ⟨hC, LeX.of (Below.refl _ _), (fun h => absurd h (by decide)), (fun h => absurd h (by decide)), fun x hx => by cases hx; rfl⟩
        simp only [Act.put, List.setIfInBounds_toArray, List.set_cons_succ, List.set_cons_zero, Nat.reduceAdd]
        rw [h5]
        refine spec_cons (fun W hC hd => ⟨by rfl, ?_⟩) ?_
        · exact gives_call _ _ (exec_call2 61 (.tmp 23) (.tmp 28) #[78, 78] _ _ rfl rfl rfl (cf Tryd.func61 (by kernel_rfl) (by kernel_rfl) _ _)) ((HTc.out W).mono fun e W' h => ⟨_, h.1, hC.later h.2, LeX.of h.2, (fun h => absurd h (by decide)), (fun h => absurd h (by decide)), fun x hx => by cases hx; rfl⟩)
        simp only [Act.put, List.setIfInBounds_toArray, List.set_cons_succ, List.set_cons_zero, Nat.reduceAdd]
        rw [h6]
        refine spec_cons (fun W hC hd => ⟨by rfl, ?_⟩) ?_
        · exact gives_val _ W (rfl) ⟨hC, LeX.of (Below.refl _ _), (fun h => absurd h (by decide)), (fun h => absurd h (by decide)), fun x hx => by cases hx; rfl⟩
        simp only [Act.put, List.setIfInBounds_toArray, List.set_cons_succ, List.set_cons_zero, Nat.reduceAdd]
        rw [h7]
        refine spec_cons (fun W hC hd => ⟨by rfl, ?_⟩) ?_
        · exact gives_val _ W (rfl) ⟨hC, LeX.of (Below.refl _ _), (fun h => absurd h (by decide)), (fun h => absurd h (by decide)), fun x hx => by cases hx; rfl⟩
        simp only [Act.put, List.setIfInBounds_toArray, List.set_cons_succ, List.set_cons_zero, Nat.reduceAdd]
        rw [h8]
        refine spec_cons (fun W hC hd => ⟨by rfl, ?_⟩) ?_
        · exact gives_val _ W (rfl) ⟨hC, LeX.of (Below.refl _ _), (fun h => absurd h (by decide)), (fun h => absurd h (by decide)), fun x hx => by cases hx; rfl⟩
        simp only [Act.put, List.setIfInBounds_toArray, List.set_cons_succ, List.set_cons_zero, Nat.reduceAdd]
        rw [h9]
        refine spec_cons (fun W hC hd => ⟨by rfl, ?_⟩) ?_
        · exact gives_val (.pointer (some ⟨W.heap.size, 0, none⟩)) (W.alloc (.cells #[.int .i64 0, .int .i64 0] 78)) (by rfl) ⟨hC.later ((Below.refl _ _).alloc (Nat.le_refl _) _), LeX.of ((Below.refl _ _).alloc (Nat.le_refl _) _), (fun _ => ⟨W.heap.size, rfl, hC.size, Or.inl (heap_alloc_new _ _)⟩), (fun h => absurd h (by decide)), fun x hx => by cases hx⟩
        simp only [Act.put, List.setIfInBounds_toArray, List.set_cons_succ, List.set_cons_zero, Nat.reduceAdd]
        refine spec_cons (fun W hC hd => ⟨by rfl, ?_⟩) ?_
        · have hn := (hd ⟨10, .data⟩ (by simp) rfl).1 rfl
          obtain ⟨g, hg1, hg2, hg3⟩ := hn
          have hZ : (Tryd.prog.info? 78).map (·.size) = some X.size := by rw [HX2.out]; exact size_pair
          rcases hg3 with hg3 | hg3
          · exact gives_skip (W.setRow g X) (exec_store_row 78 (.tmp 9) (.tmp 30) rfl g X hg1 rfl 78 _ hg3 hZ (by rw [HX2.out]; rfl) HX1.out) ⟨(AngT.made hC hg2 hg3).s, LeX.put hg3, (fun h => absurd h (by decide)), (fun _ => ⟨g, hg1, setRow_heap _ _ _ _ _ _ hg3⟩), fun x hx => by cases hx⟩
          · exact gives_skip (W.setRow g X) (exec_store_row 78 (.tmp 9) (.tmp 30) rfl g X hg1 rfl 78 _ hg3 hZ rfl HX1.out) ⟨(AngT.made hC hg2 hg3).s, LeX.put2 hg3, (fun h => absurd h (by decide)), (fun _ => ⟨g, hg1, setRow_heap _ _ _ _ _ _ hg3⟩), fun x hx => by cases hx⟩
        simp only [Act.put, Nat.reduceAdd]
        exact spec_nil
      intro u W hu hC hΦ
      have h0 : u 0 = .agg (pairC p) := hu 0 _ rfl
      have h1 : u 1 = .slice (some ⟨w.heap.size + 1, 0, none⟩) 4 4 := hu 1 _ rfl
      have h2 : u 2 = .int .i64 (j : Int) := hu 2 _ rfl
      have h3 : u 3 = .int .i64 (r : Int) := hu 3 _ rfl
      have h4 : u 4 = .pointer (some ⟨w.heap.size + 1, 0 + r * 2, none⟩) := hu 4 _ rfl
      have h5 : u 5 = .agg #[.int .i64 c, .int .i64 d] := hu 5 _ rfl
      have h6 : u 6 = .tuple #[.agg X, .int .i64 e] := hu 6 _ rfl
      have h7 : u 7 = .tuple #[.agg X, .int .i64 e] := hu 7 _ rfl
      have h8 : u 8 = .agg X := hu 8 _ rfl
      have h9 : u 9 = .int .i64 e := hu 9 _ rfl
      obtain ⟨g, h10, hg2⟩ := (hΦ 11 (by omega)).2.1 rfl
      obtain ⟨g1, h11, hg1, _⟩ := (hΦ 10 (by omega)).1 rfl
      have hgg : g1 = g := by rw [h10] at h11; cases h11; rfl
      subst hgg
      simp only [List.take_succ_cons, List.take_zero, List.drop_succ_cons, List.drop_zero, putAll, Act.put, List.setIfInBounds_toArray, List.set_cons_succ, List.set_cons_zero, Nat.reduceAdd]
      rw [h0, h1, h2, h3, h4, h5, h6, h7, h8, h9, h10]
      clear hu hΦ h0 h1 h2 h3 h4 h5 h6 h7 h8 h9 h10 h11
      go_upto_region 7 with fail
      try simp only [Act.put]
      refine gen_world (Q := fun w => Code.wp _ _ _ _ w) _ (AngT w p g1 X) ⟨hC, hg1, hg2⟩ ?_
      intro W2 hT
      have HT := Lib.hid hT
      clear hT hC hg2
      rcases HXd.out with ⟨rfl, q, hq, rfl⟩ | ⟨rfl, hnn, rfl⟩
      · have HQ : Hid (ang c d (k + 1) = some q) := Lib.hid (by rw [ang, HP.out]; exact hq)
        clear hq
        go_wp2_with (first
          | (refine wpList_load_row rfl 78 (.tmp 9) rfl g1 rfl 78 (pairC q) (0, 0) _ HT.out.row Tryd.underlying78 rfl size_pair ?_)
          | (refine wpList_store_row rfl 78 (.tmp 7) (.tmp 36) rfl (w.heap.size + 1 + 1) (pairC q) rfl rfl 78 _ HT.out.s.out size_pair rfl (pairC_one _) ?_))
        try simp only [Act.put]
        go_roundw
        case rel => exact ⟨k + 1, q, by omega, by go_num, HQ.out, HT.out.next⟩
        case measure => simp [intOf]; omega
      · have HQ : Hid (ang c d n = none) := Lib.hid (by
          have h1 : ang c d (k + 1) = none := by rw [ang, HP.out]; exact hnn
          have h2 := ang_stays c d (k + 1) h1 (n - (k + 1))
          rw [show k + 1 + (n - (k + 1)) = n by omega] at h2
          exact h2)
        clear hnn
        go_wp2_with (refine wpList_store_row rfl 78 (.tmp 4) (.tmp 34) rfl w.heap.size (pairC (0, 0)) rfl rfl 78 _ HT.out.s.res size_pair rfl (pairC_one _) ?_)
        try simp only [Act.put]
        rw [HQ.out]
        exact bodyPost_ret (v := pairV none) (results_two Tryd.results60 _ _ w.heap.size 78 (pairC (0, 0)) (0, 0) _ _ rfl rfl (setRow_heap _ _ _ _ _ _ HT.out.s.res) Tryd.underlying78 rfl size_pair) rfl ⟨rfl, below_setRow HT.out.s.below (Nat.le_refl _) _⟩
    · obtain rfl : k = n := by omega
      have hdf : decide (k < k) = false := by simp
      have HQ := Lib.hid HP.out
      go_wp2_with (first
        | (refine wpList_load_row rfl 78 (.tmp 7) rfl (w.heap.size + 1 + 1) rfl 78 (pairC p) (0, 0) _ HS.out.out Tryd.underlying78 rfl size_pair ?_)
        | (refine wpList_store_row rfl 78 (.tmp 4) (.tmp 37) rfl w.heap.size (pairC p) rfl rfl 78 _ HS.out.res size_pair rfl (pairC_one _) ?_))
      try simp only [Act.put]
      rw [HQ.out]
      exact bodyPost_ret (v := pairV (some p)) (results_two Tryd.results60 _ _ w.heap.size 78 (pairC p) (0, 0) _ _ rfl rfl (setRow_heap _ _ _ _ _ _ HS.out.res) Tryd.underlying78 rfl size_pair) rfl ⟨rfl, below_setRow HS.out.below (Nat.le_refl _) _⟩
end Go.Proofs.YtchjijifmjbgoaaDoor.Tn
