import Derived.Test.YtighmhoekbnagaaDoorKi
namespace Go.Proofs.YtighmhoekbnagaaDoor
open Go.ChangeShapes Go.WideShapes Go.ChangeAt Go.RowKit

theorem tlen_nil (w : World) : Calls Tryd.prog 29 #[.pointer none] w fun e w' => e = .returned (.int .i64 0) ∧ w = w' := by
  go_enter Tryd.func29, Tryd.ntmps29
  go_wp2
  go_ret
  exact ⟨rfl, rfl⟩
theorem tlen_at (w : World) (p n c : Nat) (s : Option Addr) (h : w.cell? ⟨p, 0, none⟩ = some (.slice s n c)) : Calls Tryd.prog 29 #[.pointer (some ⟨p, 0, none⟩)] w fun e w' => e = .returned (.int .i64 n) ∧ w = w' := by
  go_enter Tryd.func29, Tryd.ntmps29
  go_wp2
  go_ret
  exact ⟨rfl, rfl⟩
theorem check_nil (i : Int) (w : World) : Calls Tryd.prog 44 #[.pointer none, .int .i64 i] w fun e w' => e = .returned (.int .i64 2) ∧ w = w' := by
  go_enter Tryd.func44, Tryd.ntmps44
  go_wp2
  go_ret
  exact ⟨rfl, rfl⟩
theorem get_nil (i : Int) (w : World) : Calls Tryd.prog 30 #[.pointer none, .int .i64 i] w fun e w' => e = .returned (.tuple #[.slice none 0 0, .int .i64 2]) ∧ w = w' := by
  go_enter Tryd.func30, Tryd.ntmps30
  go_wp2_with (go_at_call 44; refine (check_nil _ _).mono ?_; rintro e w' ⟨rfl, rfl⟩)
  exact bodyPost_ret (v := .tuple #[.slice none 0 0, .int .i64 2]) (by simp [results, Tryd.results30, go_sem]) rfl ⟨rfl, rfl⟩
theorem set_nil (i : Int) (w : World) (s : Option Addr) (n c : Nat) : Calls Tryd.prog 25 #[.pointer none, .int .i64 i, .slice s n c] w fun e w' => e = .returned (.int .i64 2) ∧ w = w' := by
  go_enter Tryd.func25, Tryd.ntmps25
  go_wp2_with (go_at_call 44; refine (check_nil _ _).mono ?_; rintro e w' ⟨rfl, rfl⟩)
  go_ret
  exact ⟨rfl, rfl⟩
theorem tprove_nil (i : Int) (w : World) : Calls Tryd.prog 26 #[.pointer none, .int .i64 i] w fun e w' => e = .returned (.tuple #[.slice none 0 0, .int .i64 2]) ∧ Below w.heap.size w w' := by
  go_enter Tryd.func26, Tryd.ntmps26
  go_wp2_with (go_at_call 44; refine (check_nil _ _).mono ?_; rintro e w' ⟨rfl, rfl⟩)
  exact bodyPost_ret (v := .tuple #[.slice none 0 0, .int .i64 2]) (by simp [results, Tryd.results26, go_sem]) rfl ⟨rfl, (Below.refl _ _).alloc (Nat.le_refl _) _⟩
/-- the root of a tree that has no leaf, or is none -/
theorem troot_none (w : World) (v : Value) (he : Env w) (hv : v = .pointer none ∨ ∃ p s c, v = .pointer (some ⟨p, 0, none⟩) ∧ w.cell? ⟨p, 0, none⟩ = some (.slice s 0 c)) :
    Calls Tryd.prog 24 #[v] w fun e w' => e = .returned (.agg (rowB (rootD []))) ∧ Below w.heap.size w w' := by
  have HE := Lib.hid he
  have HL : Hid (∀ W, Below w.heap.size w W → Calls Tryd.prog 29 #[v] W fun e w' => e = .returned (.int .i64 0) ∧ W = w') := by
    intro W hW
    rcases hv with rfl | ⟨p, s, c, rfl, hc⟩
    · exact tlen_nil W
    · exact tlen_at W p 0 c s ((hW.cell (block_lt_of_cell hc)).trans hc)
  clear he hv
  go_enter Tryd.func24, Tryd.ntmps24
  go_upto_region 1 with fail
  refine gen_world (Q := fun w => Code.wp _ _ _ _ w) _ (Res w) (Res.new w _ (by kernel_rfl)) ?_
  intro w1 hr1
  have HR1 := Lib.hid hr1
  clear hr1
  go_upto_region 2 with (go_at_call 29; refine (HL.out _ HR1.out.below).mono ?_; rintro e w' ⟨rfl, rfl⟩)
  go_wp2_with fail
  refine (root_none w1 none 0 (HE.out.below HR1.out.below)).mono ?_
  rintro e w2 ⟨rfl, hb2⟩
  have HR2 := Lib.hid (HR1.out.later hb2)
  clear hb2
  have hlen := rootD_length []
  have HZ := Lib.hid (row_dig hlen)
  have HY := Lib.hid (show (rowB (zs 32)).size = (rowB (rootD [])).size by rw [← row_dig0 hlen]; rfl)
  have HX := Lib.hid (rowB_one (rootD []))
  clear hlen
  obtain ⟨F, hF⟩ : ∃ F, rootD [] = F := ⟨_, rfl⟩
  rw [hF] at HZ HY HX ⊢
  have HF := Lib.hid hF
  clear hF
  go_wp2_with (refine wpList_store_row rfl 24 (.tmp 2) (.tmp 7) rfl w.heap.size (rowB F) rfl rfl 24 _ HR2.out.res HZ.out HY.out HX.out ?_)
  exact bodyPost_ret (v := .agg (rowB F)) (results_cell_row Tryd.results24 _ _ w.heap.size 24 (rowB F) (0, 0) _ rfl (setRow_heap _ _ _ _ _ _ HR2.out.res) Tryd.underlying24 rfl HZ.out) rfl ⟨by rw [HF.out], below_setRow HR2.out.below (Nat.le_refl _) _⟩
/-- append of what lies in a slice to a row of the call's own, one cell an element -/
theorem wpList_append_sl {w : World} {ops : Array Oper} {rest : List Oper} {o : Oper} {a : Act} {Q : Exit → Act → World → Prop} (t e : TypeId) (by_ : Nat) (z : Value) (hu : Tryd.prog.underlying t = some (.slice e)) (hinf : (Tryd.prog.info? e).map (fun i => (i.zero, i.size, i.bytes)) = some (some z, 1, by_)) (hzc : z.cells.size = 1) (hby : by_ ≤ 100)
    (hgd : o.guard = none) (s x : Operand)
    (ho : o.op = .call { callee := .builtin .append, args := #[s, x], argTypes := #[t, t] }) (base : Nat) (v : Value) (n m : Nat) (xs ys : List Value) (hs : a.eval s = v) (hown : w.ownsRow base e 1 v n xs)
    (sp : Option Addr) (cap : Nat) (hx : a.eval x = .slice sp m cap) (hm : ys.length = m) (hb : Sl w sp cap ys) (h1 : ∀ v ∈ ys, v.oneCell' = true) (hn : n + m ≤ 1000000) (hbase : base ≤ w.heap.size)
    (h : ∀ v' w', w'.ownsRow base e 1 v' (n + m) (xs ++ ys) → w.grownBy w' v.ownBlock → wpList Tryd.prog ops Q rest (a.put o.dst v') w') : wpList Tryd.prog ops Q (o :: rest) a w := by
  subst hm
  obtain ⟨i0, hi, hz0, hz1, hz2⟩ := info_parts hinf
  rcases sp with _ | ad
  · obtain rfl := hb.nul rfl
    have h0 : ys = [] := List.eq_nil_of_length_eq_zero (by have := hb.le; omega)
    subst h0
    refine wpList_append_own_none hgd s x t ho base e i0 1 hu hi v n _ hs hown hx ?_
    exact h v w (by simpa using hown) ⟨rfl, rfl, rfl, Nat.le_refl _, fun _ _ _ => rfl⟩
  · have hcells : ∀ j u, ys[j]? = some u → w.cell? (ad.add j) = some u := by
      intro j u hu
      have hj : 0 < ys.length := by
        by_cases h0 : 0 < ys.length
        · exact h0
        · have : ys = [] := List.eq_nil_of_length_eq_zero (by omega)
          subst this
          simp at hu
      obtain ⟨c, o', e, hl⟩ := hb.lies hj
      cases e
      exact hl.src j u hu
    obtain ⟨v', w', hrun, hown', hg, _⟩ := run_append_own (P := Tryd.prog) w base t o.type e i0 z 1 by_ hu hi hz0 hz1 hz2 hzc (by decide) v n _ hown ad ys.length cap ys (by simp) hcells h1
      (by unfold maxLen; omega) (Nat.le_trans (Nat.mul_le_mul hn hby) (by decide)) hbase
    refine wpList_plain hgd fun K hK => ?_
    unfold Oper.wp
    simp [execOp, ho, resolve, invoke, builtin, hs, hx, hrun, Result.andThen]
    exact hK _ _ (h v' w' hown' hg)
theorem info33 : (Tryd.prog.info? 33).map (fun i => (i.zero, i.size, i.bytes)) = some (some (.slice none 0 0), 1, 24) := by kernel_rfl
set_option maxRecDepth 100000 in
set_option maxHeartbeats 4000000 in
theorem new_none (w : World) : Calls Tryd.prog 23 #[.slice none 0 0] w fun e w' => (∃ p s c, e = .returned (.pointer (some ⟨p, 0, none⟩)) ∧ w'.cell? ⟨p, 0, none⟩ = some (.slice s 0 c)) ∧ Below w.heap.size w w' := by
  have hm1 : ∀ w : World, (Instr.makeSlice 22 (.int .i64 0) (.int .i64 0)).run Tryd.prog w = .ok (.slice (some ⟨w.heap.size, 0, none⟩) 0 0) (w.alloc (.cells #[] 28)) := fun _ => by kernel_rfl
  have hm2 : ∀ w : World, (Instr.makeSlice 33 (.int .i64 0) (.int .i64 0)).run Tryd.prog w = .ok (.slice (some ⟨w.heap.size, 0, none⟩) 0 0) (w.alloc (.cells #[] 24)) := fun _ => by kernel_rfl
  go_enter Tryd.func23, Tryd.ntmps23
  go_wp2
  refine wp_loop_rounds 1 ?_
  rw [rounds_succ]
  clear hm1 hm2
  go_upto_region 9 with fail
  simp only [Nat.add_assoc, Nat.reduceAdd]
  refine gen_world (Q := fun w => Code.wp _ _ _ _ w) _ (fun W => Below w.heap.size w W ∧ W.heap[w.heap.size + 1]? = some (.cells #[.slice (some ⟨w.heap.size, 0, none⟩) 0 0, .slice none 0 0] 75 (0, 0))) ⟨?_, ?_⟩ ?_
  · exact (((Below.refl _ _).alloc (Nat.le_refl _) _).alloc (by simp) _).alloc (by simp; omega) _
  · rw [Below.heap_alloc _ _ _ (by simp)]
    exact heap_alloc2_new _ _ _
  rintro W ⟨hb, hr⟩
  have c0 := cell_of_row W (w.heap.size + 1) 0 _ _ _ hr
  have c1 := cell_of_row W (w.heap.size + 1) 1 _ _ _ hr
  have hlt := (Array.getElem?_eq_some_iff.1 hr).1
  have HB := Lib.hid hb
  have HR := Lib.hid hr
  clear hb hr
  simp at c0 c1
  go_upto_region 10 with (refine wpList_append_sl 73 33 24 (.slice none 0 0) Tryd.underlying73 info33 rfl (by decide) rfl (.tmp 40) (.tmp 42) rfl (W.heap.size + 1) (.slice none 0 0) 0 1 [] [.slice (some ⟨w.heap.size + 2, 0, none⟩) 0 0] rfl (World.ownsRow_nil _ _ _ _) (some ⟨W.heap.size, 0, none⟩) 1 rfl rfl (Sl.new W [.slice (some ⟨w.heap.size + 2, 0, none⟩) 0 0] _ 33 (0, 0) rfl (by simp)) (by simp [Value.oneCell']) (by omega) (by simp) ?_; intro v' w1 hown hg; obtain ⟨g', cap', rfl⟩ := ownsRow_succ hown; have d1 := (hg.block (w.heap.size + 1) (by simp; omega) (by simp [Value.ownBlock])).trans ((Below.heap_alloc W _ _ hlt).trans HR.out); have e1 := cell_of_row w1 (w.heap.size + 1) 1 _ _ _ d1; have f1 := frozen_of_row w1 (w.heap.size + 1) 1 _ _ d1; simp at e1; have HO := Lib.hid hown; have HG := Lib.hid hg; have HD := Lib.hid d1; clear hown hg d1)
  have HS := Lib.hid (Go.Joins.block_setCell (i := 1) HD.out (.slice (some ⟨g', 0, none⟩) 1 cap'))
  refine gen_world (Q := fun w => Code.wp _ _ _ _ w) _ (fun X => Below w.heap.size w X ∧ X.cell? ⟨w.heap.size + 1, 0, none⟩ = some (.slice (some ⟨w.heap.size, 0, none⟩) 0 0)) ⟨?_, ?_⟩ ?_
  · refine (HB.out.trans (((Below.refl _ W).alloc HB.out.size _).trans (Below.ofGrown HG.out (by have := HB.out.size; simp; omega) (fun k e => by simp [Value.ownBlock] at e)))).setCell (by simp) _
  · rw [cell_of_row _ _ _ _ _ _ HS.out]
    simp
  rintro X ⟨hbX, hcX⟩
  have HX := Lib.hid hbX
  have HC := Lib.hid hcX
  clear hbX hcX HS HG HO e1 f1 c0 c1
  refine wp_loop_rounds 1 ?_
  rw [rounds_succ]
  go_wp2
  go_ret
  exact ⟨⟨_, _, _, rfl, HC.out⟩, HX.out⟩
end Go.Proofs.YtighmhoekbnagaaDoor
