/- Pools of rows in pages: the document's pool of the law's: Open, Close. -/
import Derived.Test.YtcfhchdkohjbfaaRf
namespace Go.Proofs.Ytcfhchdkohjbfaa.Kv
set_option maxRecDepth 100000
open Go.ChangeShapes Go.WideShapes Go.ChangeAt Go.RowKit Go.Proofs.Ytcfhchdkohjbfaa.Tn
section
variable {ops : Array Oper} {rest : List Oper} {o : Oper} {a : Act} {Q : Exit → Act → World → Prop}
theorem wpList_push_rrow (hgd : o.guard = none) (s x : Operand) (ho : o.op = .call { callee := .builtin .append, args := #[s, x], argTypes := #[30, 30] }) {w : World} {τ : Tags} {r : Nat} {ly : RLay} {D : Doc Int} (h : RefAt w τ r ly D) (v lv pv : Value) (hv : ly.v = v) (h1 : lv.oneCell' = true) (h2 : pv.oneCell' = true) (hs : a.eval s = v) (hx : a.eval x = .slice (some ⟨w.heap.size, 0, none⟩) 1 1) (n : Nat) (hn : D.rows.length = n) (hn2 : n ≤ 1024)
    (k : ∀ sq cq w1, w.grownBy w1 ly.v.ownBlock → w1.ownsRow 0 73 3 (.slice sq (n + 1) cq) (n + 1) (rowCells ly.lv ly.pv 0 D.rows ++ [lv, pv, .bool true]) → ((Value.slice sq (n + 1) cq).ownBlock = ly.v.ownBlock ∨ ∃ q, (Value.slice sq (n + 1) cq).ownBlock = some q ∧ w.heap.size ≤ q) → wpList Try.prog ops Q rest (a.put o.dst (.slice sq (n + 1) cq)) w1) : wpList Try.prog ops Q (o :: rest) a (w.alloc (.cells #[lv, pv, .bool true] 73)) := by
  have hb : Below w.heap.size w (w.alloc (.cells #[lv, pv, .bool true] 73)) := (Below.refl _ _).alloc (Nat.le_refl _) _
  have hown := (h.below hb).owns
  obtain ⟨i0, hi, hz0, hz1, hz2⟩ := info_parts infoRow
  refine wpList_append_own_at _ hgd s x 30 ho 0 73 i0 _ 3 56 Try.underlying30 hi hz0 hz1 hz2 rfl (by decide) v D.rows.length (rowCells ly.lv ly.pv 0 D.rows) hs (by rw [← hv]; exact hown) ⟨w.heap.size, 0, none⟩ 1 1 [lv, pv, .bool true] hx rfl (fun j u hj => ?_) (fun u hu => ?_) (by unfold maxLen; omega) (by omega) (by simp) ?_
  · rw [Tn.add_plain, Nat.zero_add, cell_of_row _ _ _ _ _ _ (heap_alloc_new _ _)]
    simpa using hj
  · simp at hu
    rcases hu with rfl | rfl | rfl
    · exact h1
    · exact h2
    · rfl
  · intro v' w' k1 k2 _ k4
    rw [hn] at k1
    obtain ⟨sq, cq, rfl⟩ : ∃ sq cq, v' = .slice sq (n + 1) cq := by
      obtain ⟨_, ⟨e, e2⟩ | ⟨g, cap, cur, e, _⟩⟩ := k1
      · omega
      · exact ⟨_, _, e⟩
    refine k sq cq w' (by rw [hv]; exact I.grown_trans (I.grown_of hb _) k2) k1 ?_
    rw [hv]
    rcases k4 with e | e
    · exact Or.inl e
    · exact Or.inr ⟨_, e, hb.size⟩
end
set_option maxHeartbeats 4000000 in
theorem open_ref {w : World} {τ : Tags} {r : Nat} {D : Doc Int} (h : Ref w τ r D) (hl : D.rows.length ≤ 1023) : Calls Try.prog 34 #[.pointer (some ⟨r, 0, none⟩)] w fun e w' => e = .returned (.tuple #[.int .i64 (openD D).1.1, .int .i64 (openD D).1.2]) ∧ ∃ τ', Ref w' τ' r (openD D).2 ∧ Step Tag.theirs τ τ' w w' := by
  obtain ⟨ly, h⟩ := h
  have ho : openD D = (((D.rows.length : Int), 0), addRow D [] []) := by unfold openD; rw [if_neg (by omega)]
  rw [ho]
  obtain ⟨c0, _, _⟩ := h.cells
  obtain ⟨sp, cap, hv, hcap, hmax, _⟩ := h.slice
  obtain ⟨N, hN⟩ : ∃ N, D.rows.length = N := ⟨_, rfl⟩
  rw [hN] at hv hcap hl ⊢
  rw [hv] at c0
  have H := Lib.hid h
  have HV := Lib.hid hv
  have HN := Lib.hid hN
  have HNm : Hid (N ≤ 1024) := Lib.hid (by omega)
  have e1 : decide (1024 ≤ N) = false := by simp; omega
  have e2 : decide ((1024 : Int) ≤ (N : Int)) = false := by simp; omega
  clear h ho hv hN
  go_enter Try.func34, Try.ntmps34
  go_upto_region 4 with (at_builtin; refine wpList_push_rrow rfl (.tmp 14) (.tmp 16) rfl H.out _ (.slice none 0 0) (.slice none 0 0) HV.out rfl rfl rfl rfl N HN.out HNm.out ?_; intro sq cq w1 k1 k2 k3; have hr1 := (k1.block r (Array.getElem?_eq_some_iff.1 H.out.hd).1 H.out.own_ne).trans H.out.hd; have hf1 := row_frozen (i := 0) hr1; have hc1 : w1.cell? ⟨r, 0, none⟩ = some ly.v := (by rw [cell_of_row _ _ _ _ _ _ hr1]; rfl); have K1 := Lib.hid k1; have K2 := Lib.hid k2; have K3 := Lib.hid k3; clear k1 k2 k3 hr1)
  refine I.gen_w (Q := fun w => Code.wp _ _ _ _ w) _ (fun W => ∃ τ' ly', ly'.v = .slice sq (N + 1) cq ∧ RefAt W τ' r ly' (addRow D [] []) ∧ Step Tag.theirs τ τ' w W) (by
    have := H.out.push (L := []) (P := []) (lb := none) (pb := none) K1.out (by rw [HN.out]; exact K2.out) K3.out (Row.nil _ _ _) (fun c hc => by cases hc) (Row.nil _ _ _) (fun c hc => by cases hc)
    exact this) ?_
  rintro W ⟨τ', ly', k1, k2, k3⟩
  have c9 := k2.cells.1
  rw [k1] at c9
  have K8 := Lib.hid k2
  have K9 := Lib.hid k3
  clear k1 k2 k3 c0 hf1 hc1 K1 K2 K3
  have hw : IntKind.i64.wrap ((N + 1 : Nat) - 1 : Int) = (N : Int) := by
    rw [show (((N + 1 : Nat) : Int) - 1) = (N : Int) by omega]
    exact IntWalk.i64_in _ (by omega)
  go_wp2
  go_ret2
  exact ⟨by go_num, τ', ⟨ly', K8.out⟩, K9.out⟩
end Go.Proofs.Ytcfhchdkohjbfaa.Kv
