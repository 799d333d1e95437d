import Derived.Test.YtighmhoekbnagaaDoorKc
namespace Go.Proofs.YtighmhoekbnagaaDoor
open Go.ChangeShapes Go.WideShapes Go.ChangeAt Go.RowKit

/-- the root of leaves -/
def rootD (ls : List (List Int)) : List Int := if ls = [] then noneD else rt nodeD ls.length (ls.map leafD)
theorem rootD_nil : rootD [] = noneD := if_pos rfl
theorem rootD_one (l : List Int) : rootD [l] = leafD l := by
  unfold rootD
  rw [if_neg (by simp), List.length_singleton, List.map_cons, List.map_nil, rt_succ, if_pos (by simp)]
  simp only [rt, List.headD_cons]
theorem rt_all {P : List Int → Prop} (nd : List Int → List Int → List Int) (hn : ∀ a b, P (nd a b)) (h0 : P []) : ∀ (H : Nat) (ds : List (List Int)), (∀ d ∈ ds, P d) → P (rt nd H ds)
  | 0, ds, h => by
    rcases ds with _ | ⟨d, ds⟩
    · exact h0
    · exact h d (by simp)
  | H + 1, ds, h => by
    rw [rt_succ]
    split
    · exact rt_all nd hn h0 H ds h
    · exact hn _ _
theorem rt_length (nd : List Int → List Int → List Int) (hn : ∀ a b, (nd a b).length = 32) : ∀ (H : Nat) (ds : List (List Int)), ds ≠ [] → (∀ d ∈ ds, d.length = 32) → (rt nd H ds).length = 32
  | 0, ds, h0, h => by
    rcases ds with _ | ⟨d, ds⟩
    · exact absurd rfl h0
    · exact h d (by simp)
  | H + 1, ds, h0, h => by
    rw [rt_succ]
    split
    · exact rt_length nd hn H ds h0 h
    · exact hn _ _
theorem leafs_all (ls : List (List Int)) : ∀ d ∈ ls.map leafD, d.length = 32 := by
  intro d hd
  obtain ⟨l, _, rfl⟩ := List.mem_map.1 hd
  exact leafD_length l
theorem rootD_length (ls : List (List Int)) : (rootD ls).length = 32 := by
  unfold rootD
  split
  · exact sum_length _
  · rename_i h
    exact rt_length nodeD nodeD_length _ _ (by simpa using h) (leafs_all ls)
theorem two_pow_ge (n : Nat) : n ≤ 2 ^ n := Nat.le_of_lt Nat.lt_two_pow_self
theorem rootD_rt (ls : List (List Int)) (h : ls ≠ []) (H : Nat) (hH : ls.length ≤ 2 ^ H) : rootD ls = rt nodeD H (ls.map leafD) := by
  unfold rootD
  rw [if_neg h]
  exact rt_any nodeD (by simpa using two_pow_ge _) (by simpa using hH)
theorem rootD_split (ls : List (List Int)) (K : Nat) (h1 : 2 ^ K < ls.length) (h2 : ls.length ≤ 2 ^ (K + 1)) : rootD ls = nodeD (rootD (ls.take (2 ^ K))) (rootD (ls.drop (2 ^ K))) := by
  have hp := pow_pos2 K
  have h0 : ls ≠ [] := by rintro rfl; simp at h1
  have hl1 : (ls.take (2 ^ K)).length = 2 ^ K := by rw [List.length_take]; omega
  have hl2 : (ls.drop (2 ^ K)).length = ls.length - 2 ^ K := List.length_drop
  rw [pow_succ2] at h2
  rw [rootD_rt ls h0 (K + 1) (by rw [pow_succ2]; exact h2), rt_succ, if_neg (by rw [List.length_map]; omega), ← List.map_take, ← List.map_drop,
    rootD_rt (ls.take (2 ^ K)) (fun e => by rw [e] at hl1; simp at hl1; omega) K (by omega), rootD_rt (ls.drop (2 ^ K)) (fun e => by rw [e] at hl2; simp at hl2; omega) K (by omega)]
/-- s[:k] -/
theorem run_head (t e : TypeId) (hu : Tryd.prog.underlying t = some (.slice e)) (he : (Tryd.prog.info? e).map (·.size) = some 1) (sp : Option Addr) (m cap k : Nat) (hk : k ≤ cap) (w : World) : (Instr.slice t (.slice sp m cap) none (some (.int .i64 (k : Int))) none).run Tryd.prog w = .ok (.slice sp k cap) w := by
  cases hq : Tryd.prog.info? e with
  | none => simp [hq] at he
  | some i =>
    have hi : i.size = 1 := by simpa [hq] using he
    have hadd : sp.map (fun x => x.add 0) = sp := by
      rcases sp with _ | ⟨b, o, s⟩
      · rfl
      · simp [Addr.add]
    simp only [Instr.slice, run_underlying hu, Instr.sliceBounds, Instr.sliceBound, asIntOf, sizeOf, typeInfo, Sem.run_bind, Result.andThen_ok, Sem.run_pure, Sem.run_ite]
    simp [hq, hi, hk, hadd]
/-- s[k:] -/
theorem run_cut (t e : TypeId) (hu : Tryd.prog.underlying t = some (.slice e)) (he : (Tryd.prog.info? e).map (·.size) = some 1) (sp : Option Addr) (m cap k : Nat) (hk : k ≤ m) (w : World) : (Instr.slice t (.slice sp m cap) (some (.int .i64 (k : Int))) none none).run Tryd.prog w = .ok (.slice (cutA sp cap k) (m - k) (cap - k)) w := by
  cases hq : Tryd.prog.info? e with
  | none => simp [hq] at he
  | some i =>
    have hi : i.size = 1 := by simpa [hq] using he
    simp only [Instr.slice, run_underlying hu, Instr.sliceBounds, Instr.sliceBound, asIntOf, sizeOf, typeInfo, Sem.run_bind, Result.andThen_ok, Sem.run_pure, Sem.run_ite]
    simp [hq, hi, hk, cutA]
theorem exec_cut {a : Act} {o : Oper} {W : World} (t e : TypeId) (x : Operand) (lo hi : Option Operand) (ho : o.op = .slice t x lo hi none) (hu : Tryd.prog.underlying t = some (.slice e)) (u : Value) (hr : (Instr.slice t (a.eval x) (lo.map a.eval) (hi.map a.eval) none).run Tryd.prog W = .ok u W) : (execOp a.eval o).run Tryd.prog W = .ok (.value u) W := by
  unfold execOp
  simp [ho, Instr.sliceAt, run_underlying hu, hr]
theorem cfRoot (vs : Array Value) (W : World) : (callFunc 13 vs).run Tryd.prog W = .ok (.enter 13 vs) W := cf Tryd.func13 (by kernel_rfl) (by kernel_rfl) vs W
theorem cfNode (vs : Array Value) (W : World) : (callFunc 15 vs).run Tryd.prog W = .ok (.enter 15 vs) W := cf Tryd.func15 (by kernel_rfl) (by kernel_rfl) vs W
theorem exec_call2 {P : Program} {a : Act} {o : Oper} {W : World} (f : FuncId) (x y : Operand) (ats : Array TypeId) (u v : Value) (ho : o.op = .call { callee := .value (.func f), args := #[x, y], argTypes := ats }) (hx : a.eval x = u) (hy : a.eval y = v)
    (hf : (callFunc f #[u, v]).run P W = .ok (.enter f #[u, v]) W) : (execOp a.eval o).run P W = .ok (.enter f #[u, v]) W :=
  exec_call f #[x, y] ats #[u, v] ho (by simp [hx, hy]) hf
set_option maxRecDepth 100000 in
set_option maxHeartbeats 4000000 in
theorem root_none (w : World) (sp : Option Addr) (cap : Nat) (he : Env w) : Calls Tryd.prog 13 #[.slice sp 0 cap] w fun e w' => e = .returned (.agg (rowB (rootD []))) ∧ Below w.heap.size w w' := by
  have HE := Lib.hid he
  clear he
  rw [rootD_nil]
  go_enter Tryd.func13, Tryd.ntmps13
  go_wp2_with fail
  refine gen_world (Q := fun w => Calls _ _ _ w _) _ (Res w) (Res.new w _ (by kernel_rfl)) ?_
  intro w1 hr1
  have HR1 := Lib.hid hr1
  refine (hashed_any w1 2 _ 0 0 [] rfl (Pcs.nil w1) (HE.out.below hr1.below) (by simp)).mono ?_
  rintro e w2 ⟨rfl, hb2⟩
  have HR2 := Lib.hid (HR1.out.later hb2)
  clear hr1 hb2
  rw [show sum (2 :: ([] : List (List Int)).flatten) = noneD from rfl]
  have hlen : noneD.length = 32 := sum_length _
  have HZ := Lib.hid (row_dig hlen)
  have HY := Lib.hid (show (rowB (zs 32)).size = (rowB noneD).size by rw [← row_dig0 hlen]; rfl)
  have HX := Lib.hid (rowB_one noneD)
  clear hlen
  obtain ⟨F, hF⟩ : ∃ F, noneD = F := ⟨_, rfl⟩
  rw [hF] at HZ HY HX ⊢
  have HF := Lib.hid hF
  clear hF
  go_wp2_with (refine wpList_store_row rfl 24 (.tmp 2) (.tmp 8) rfl w.heap.size (rowB F) rfl rfl 24 _ HR2.out.res HZ.out HY.out HX.out ?_)
  exact bodyPost_ret (v := .agg (rowB F)) (results_cell_row Tryd.results13 _ _ w.heap.size 24 (rowB F) (0, 0) _ rfl (setRow_heap _ _ _ _ _ _ HR2.out.res) Tryd.underlying24 rfl HZ.out) rfl ⟨by rw [HF.out], below_setRow HR2.out.below (Nat.le_refl _) _⟩
end Go.Proofs.YtighmhoekbnagaaDoor
