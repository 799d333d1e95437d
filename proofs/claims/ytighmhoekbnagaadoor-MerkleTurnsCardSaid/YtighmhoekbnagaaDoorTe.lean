import Derived.Test.YtighmhoekbnagaaDoorTd
namespace Go.Proofs.YtighmhoekbnagaaDoor
open Go.ChangeShapes Go.WideShapes Go.ChangeAt Go.RowKit

/-- what the call owns is a slice of bytes -/
theorem own_bytT {w : World} {base n : Nat} {v : Value} {l : List Int} (h : w.ownsRow base 5 1 v n (l.map (Value.int .u8))) : ∃ sp cap, v = .slice sp n cap ∧ l.length = n ∧ Byt w sp cap l := by
  have hl : l.length = n := by have := h.1; simpa using this
  rcases h.2 with ⟨rfl, rfl⟩ | ⟨g, cap, cur, rfl, hb, hg, hn, hm, hs, ht⟩
  · obtain rfl : l = [] := List.eq_nil_of_length_eq_zero hl
    exact ⟨none, 0, rfl, rfl, Byt.nil w⟩
  · refine ⟨_, cap, rfl, hl, ⟨⟨by omega, hm, fun _ => ⟨g, 0, rfl, fun i hi => ?_⟩⟩, fun e => by cases e⟩⟩
    rw [Nat.zero_add, h.cellAt i (by omega)]
    simp [hi]
/-! ### bytes.Clone, the root of a pair, the roots of the next height -/
set_option maxRecDepth 100000 in
set_option maxHeartbeats 4000000 in
theorem clone_any (w : World) (sp : Option Addr) (n cap : Nat) (l : List Int) (hn : l.length = n) (hb : Byt w sp cap l) (hs : n ≤ 900000) :
    Calls Tryd.prog 42 #[.slice sp n cap] w fun e w' => ∃ v, e = .returned v ∧ LfVal w' v l ∧ Below w.heap.size w w' := by
  cases sp with
  | none =>
    have h0 := hb.nul rfl
    have hle := hb.by_.le
    obtain rfl : n = 0 := by omega
    subst h0
    obtain rfl : l = [] := List.eq_nil_of_length_eq_zero hn
    clear hb hn hle
    have hnil : ∀ W : World, (binOp .eql 28 (.slice none 0 0) (.slice none 0 0)).run Tryd.prog W = .ok (.bool true) W := fun _ => rfl
    go_enter Tryd.func42, Tryd.ntmps42
    go_wp2
    go_ret
    exact ⟨_, rfl, ⟨none, 0, rfl, Byt.nil w, fun _ _ h => by cases h⟩, Below.refl _ _⟩
  | some ad =>
    have HN := Lib.hid hn
    clear hn
    have hnil : ∀ W : World, (binOp .eql 28 (.slice (some ad) n cap) (.slice none 0 0)).run Tryd.prog W = .ok (.bool false) W := fun _ => rfl
    go_enter Tryd.func42, Tryd.ntmps42
    have HS := Lib.hid ((byt_iff.1 hb).below (Nat.le_refl _) ((Below.refl _ w).alloc (Nat.le_refl _) (.cells #[] 5)))
    clear hb
    go_upto_region 3 with fail
    go_wp2_with (refine wpList_append_sl 28 5 1 (.int .u8 0) Tryd.underlying28 info5 rfl (by decide) rfl (.tmp 5) (.tmp 6) rfl w.heap.size (.slice (some ⟨w.heap.size, 0, none⟩) 0 0) 0 n [] (l.map (Value.int .u8)) rfl (World.ownsRow_lit w #[] 0 (Nat.le_refl _) (by unfold maxLen; omega) rfl) (some ad) cap rfl (by simpa using HN.out) HS.out (fun v hv => by obtain ⟨x, _, rfl⟩ := List.mem_map.1 hv; rfl) (by omega) (by simp) ?_; intro v' w1 hown hg; have HO := Lib.hid hown; have HG := Lib.hid hg; clear hown hg)
    go_ret
    have ho : w1.ownsRow w.heap.size 5 1 v' (0 + n) (l.map (Value.int .u8)) := HO.out
    have hB : Below w.heap.size w w1 := ((Below.refl _ w).alloc (Nat.le_refl _) _).trans (Below.ofGrown HG.out (by simp) (fun k e => by simp [Value.ownBlock] at e; omega))
    refine ⟨v', rfl, ?_, hB⟩
    rw [Nat.zero_add] at ho
    obtain ⟨sp', cap', e1, h2, h3⟩ := own_bytT ho
    refine ⟨sp', cap', by rw [e1, h2], h3, fun c o e => ?_⟩
    subst e
    rcases ho.2 with ⟨e2, _⟩ | ⟨g, cp, cur, e2, _, hgb, _⟩
    · rw [e1] at e2; cases e2
    · rw [e1] at e2
      cases e2
      exact ⟨cur, (0, 0), hgb⟩
set_option maxRecDepth 100000 in
theorem run_twice (i k : Nat) (hk : 2 * i = k) (h : k ≤ 1000000) (W : World) : (binOp .mul 3 (.int .i64 2) (.int .i64 (i : Int))).run Tryd.prog W = .ok (.int .i64 (k : Int)) W := by
  have e : (2 : Int) * (i : Int) = (k : Int) := by omega
  have hwk : IntKind.i64.wrap (k : Int) = (k : Int) := IntWalk.i64_in _ (by omega)
  simp [go_sem, e, hwk]
set_option maxRecDepth 100000 in
theorem run_next (k : Nat) (h : k ≤ 1000000) (W : World) : (binOp .add 3 (.int .i64 (k : Int)) (.int .i64 1)).run Tryd.prog W = .ok (.int .i64 ((k + 1 : Nat) : Int)) W := by
  have hwk : IntKind.i64.wrap ((k : Int) + 1) = (k : Int) + 1 := IntWalk.i64_in _ (by omega)
  simp [go_sem, hwk]
set_option maxRecDepth 100000 in
set_option maxHeartbeats 4000000 in
theorem pair_any (w : World) (b n i : Nat) (row : List (List Int)) (hn : row.length = n) (hR : RowD w b row) (hi : i < (n + 1) / 2) (he : Env w) (hn2 : n ≤ 256) :
    Calls Tryd.prog 45 #[.slice (some ⟨b, 0, none⟩) n n, .int .i64 i] w fun e w' => e = .returned (.agg (rowB (pairD nodeD row i))) ∧ Below w.heap.size w w' := by
  obtain ⟨k, hk⟩ : ∃ k, 2 * i = k := ⟨_, rfl⟩
  have hpd : pairD nodeD row i = if k + 1 = n then row.getD k [] else nodeD (row.getD k []) (row.getD (k + 1) []) := by unfold pairD; rw [hk, hn]
  have hkn : k < n := by omega
  have e1 : (2 : Int) * (i : Int) = (k : Int) := by omega
  have ha32 : (row.getD k []).length = 32 := hR.all _ (getD_mem row k (by omega))
  have hra := hR.lies k (by omega)
  obtain ⟨a, ha⟩ : ∃ a, row.getD k [] = a := ⟨_, rfl⟩
  rw [ha] at ha32 hra hpd
  have HRa := Lib.hid (fun W (hB : Below w.heap.size w W) => (hR.below hB).lies k (by omega))
  rw [ha] at HRa
  by_cases hc : k + 1 = n
  · rw [if_pos hc] at hpd
    have d1 : ((k : Int) + 1 == (n : Int)) = true := by simp; omega
    have HP := Lib.hid hpd
    have HZ := Lib.hid (row_dig ha32)
    have HY := Lib.hid (row_dig0 ha32)
    have HX := Lib.hid (rowB_one a)
    have e0 : 0 + 32 * k = 32 * k := Nat.zero_add _
    clear hpd hra hn hR he ha hk
    go_enter Tryd.func45, Tryd.ntmps45
    go_upto_region 1 with fail
    refine gen_world (Q := fun w => Code.wp _ _ _ _ w) _ (Res w) (Res.new w _ (by kernel_rfl)) ?_
    intro w1 hr1
    have HR1 := Lib.hid hr1
    clear hr1
    go_wp2_with (first
      | (refine wpList_val rfl (.pointer (some ⟨b, 0 + 32 * k, none⟩)) (exec_dig_at (.tmp 11) (.tmp 13) rfl b 0 n n k rfl rfl hkn) ?_)
      | (refine wpList_val rfl (.agg (rowB a)) (exec_load_mid (.tmp 14) rfl b (0 + 32 * k) rfl a ha32 (by rw [e0]; exact HRa.out _ HR1.out.below)) ?_)
      | (refine wpList_store_row rfl 24 (.tmp 4) (.tmp 15) rfl w.heap.size (rowB a) rfl rfl 24 _ HR1.out.res HZ.out HY.out HX.out ?_))
    exact bodyPost_ret (v := .agg (rowB a)) (results_cell_row Tryd.results45 _ _ w.heap.size 24 (rowB a) (0, 0) _ rfl (setRow_heap _ _ _ _ _ _ HR1.out.res) Tryd.underlying24 rfl HZ.out) rfl ⟨by rw [HP.out], below_setRow HR1.out.below (Nat.le_refl _) _⟩
  · rw [if_neg hc] at hpd
    have d1 : ((k : Int) + 1 == (n : Int)) = false := by rw [beq_eq_false_iff_ne]; omega
    have hkn2 : k + 1 < n := by omega
    have hc32 : (row.getD (k + 1) []).length = 32 := hR.all _ (getD_mem row (k + 1) (by omega))
    have HRc := Lib.hid (fun W (hB : Below w.heap.size w W) => (hR.below hB).lies (k + 1) (by omega))
    obtain ⟨c, hcc⟩ : ∃ a, row.getD (k + 1) [] = a := ⟨_, rfl⟩
    rw [hcc] at hc32 HRc hpd
    have HNd := Lib.hid (fun W (hB : Below w.heap.size w W) => node_any W a c ha32 hc32 (he.below hB))
    have h32 := nodeD_length a c
    obtain ⟨F, hF⟩ : ∃ F, nodeD a c = F := ⟨_, rfl⟩
    rw [hF] at HNd h32 hpd
    have HP := Lib.hid hpd
    have HZ := Lib.hid (row_dig h32)
    have HY := Lib.hid (row_dig0 h32)
    have HX := Lib.hid (rowB_one F)
    have e0 : 0 + 32 * k = 32 * k := Nat.zero_add _
    have e00 : 0 + 32 * (k + 1) = 32 * (k + 1) := Nat.zero_add _
    clear hpd hra hn hR he ha hcc hF
    go_enter Tryd.func45, Tryd.ntmps45
    go_upto_region 1 with fail
    refine gen_world (Q := fun w => Code.wp _ _ _ _ w) _ (Res w) (Res.new w _ (by kernel_rfl)) ?_
    intro w1 hr1
    have HR1 := Lib.hid hr1
    clear hr1
    go_upto_region 3 with fail
    have hw : ∀ W, Below w1.heap.size w1 W → Below w.heap.size w W := fun W h => HR1.out.below.trans (h.mono HR1.out.below.size)
    refine wp_region_quiet_tail (C := fun W => Below w1.heap.size w1 W) 12 (by kernel_rfl) (by kernel_rfl) ⟨rfl, rfl, rfl, Nat.le_refl _, fun _ _ => rfl⟩ ?_
    simp only [List.take_succ_cons, List.take_zero, List.drop_succ_cons, List.drop_zero]
    refine q_val _ rfl (fun _ _ => rfl) ?_
    simp only [Act.put, List.setIfInBounds_toArray, List.set_cons_succ, List.set_cons_zero]
    refine q_val _ rfl (fun _ _ => rfl) ?_
    simp only [Act.put, List.setIfInBounds_toArray, List.set_cons_succ, List.set_cons_zero]
    refine q_val (.int .i64 (k : Int)) rfl (fun W _ => exec_bin .mul (.const (.int .i64 2)) (.tmp 17) rfl rfl _ _ _ rfl rfl (run_twice i k hk (by omega) W)) ?_
    simp only [Act.put, List.setIfInBounds_toArray, List.set_cons_succ, List.set_cons_zero]
    refine q_val (.pointer (some ⟨b, 0 + 32 * k, none⟩)) rfl (fun _ _ => exec_dig_at (.tmp 16) (.tmp 18) rfl b 0 n n k rfl rfl hkn) ?_
    simp only [Act.put, List.setIfInBounds_toArray, List.set_cons_succ, List.set_cons_zero]
    refine q_val (.agg (rowB a)) rfl (fun W hW => exec_load_mid (.tmp 19) rfl b (0 + 32 * k) rfl a ha32 (by rw [e0]; exact HRa.out _ (hw W hW))) ?_
    simp only [Act.put, List.setIfInBounds_toArray, List.set_cons_succ, List.set_cons_zero]
    refine q_val _ rfl (fun _ _ => rfl) ?_
    simp only [Act.put, List.setIfInBounds_toArray, List.set_cons_succ, List.set_cons_zero]
    refine q_val _ rfl (fun _ _ => rfl) ?_
    simp only [Act.put, List.setIfInBounds_toArray, List.set_cons_succ, List.set_cons_zero]
    refine q_val (.int .i64 (k : Int)) rfl (fun W _ => exec_bin .mul (.const (.int .i64 2)) (.tmp 22) rfl rfl _ _ _ rfl rfl (run_twice i k hk (by omega) W)) ?_
    simp only [Act.put, List.setIfInBounds_toArray, List.set_cons_succ, List.set_cons_zero]
    refine q_val (.int .i64 ((k + 1 : Nat) : Int)) rfl (fun W _ => exec_bin .add (.tmp 23) (.const (.int .i64 1)) rfl rfl _ _ _ rfl rfl (run_next k (by omega) W)) ?_
    simp only [Act.put, List.setIfInBounds_toArray, List.set_cons_succ, List.set_cons_zero]
    refine q_val (.pointer (some ⟨b, 0 + 32 * (k + 1), none⟩)) rfl (fun _ _ => exec_dig_at (.tmp 21) (.tmp 24) rfl b 0 n n (k + 1) rfl rfl hkn2) ?_
    simp only [Act.put, List.setIfInBounds_toArray, List.set_cons_succ, List.set_cons_zero]
    refine q_val (.agg (rowB c)) rfl (fun W hW => exec_load_mid (.tmp 25) rfl b (0 + 32 * (k + 1)) rfl c hc32 (by rw [e00]; exact HRc.out _ (hw W hW))) ?_
    simp only [Act.put, List.setIfInBounds_toArray, List.set_cons_succ, List.set_cons_zero]
    refine q_call 15 #[.agg (rowB a), .agg (rowB c)] (.agg (rowB F)) rfl (fun _ _ => exec_call2 15 (.tmp 20) (.tmp 26) #[24, 24] _ _ rfl rfl rfl (cfNode _ _)) (fun W hW => (HNd.out W (hw W hW)).mono fun e W' h => ⟨h.1, hW.trans (h.2.mono hW.size)⟩) ?_
    simp only [Act.put, List.setIfInBounds_toArray, List.set_cons_succ, List.set_cons_zero]
    refine wpQuiet_nil ?_
    intro w2 hw2
    have HR2 := Lib.hid (HR1.out.later hw2)
    clear hw2 hw
    go_wp2_with (refine wpList_store_row rfl 24 (.tmp 4) (.tmp 27) rfl w.heap.size (rowB F) rfl rfl 24 _ HR2.out.res HZ.out HY.out HX.out ?_)
    exact bodyPost_ret (v := .agg (rowB F)) (results_cell_row Tryd.results45 _ _ w.heap.size 24 (rowB F) (0, 0) _ rfl (setRow_heap _ _ _ _ _ _ HR2.out.res) Tryd.underlying24 rfl HZ.out) rfl ⟨by rw [HP.out], below_setRow HR2.out.below (Nat.le_refl _) _⟩
/-- make([]Digest, n) -/
theorem wpList_makeD {w : World} {ops : Array Oper} {rest : List Oper} {o : Oper} {a : Act} {Q : Exit → Act → World → Prop} (hgd : o.guard = none) (s x : Operand) (ho : o.op = .makeSlice 33 s x) (c : Nat) (hs : a.eval s = .int .i64 (c : Int)) (hx : a.eval x = .int .i64 (c : Int)) (hc : c ≤ 1000)
    (h : ∀ w', RowD w' w.heap.size (List.replicate c (zs 32)) → w'.heap.size = w.heap.size + 1 → Below w.heap.size w w' → wpList Tryd.prog ops Q rest (a.put o.dst (.slice (some ⟨w.heap.size, 0, none⟩) c c)) w') : wpList Tryd.prog ops Q (o :: rest) a w := by
  obtain ⟨i0, hi, hz0, hz1, hz2⟩ := info_parts zero24
  have hb : (i0.bytes : Int) * (c : Int) ≤ 281474976710656 := by rw [hz2]; omega
  have hrun := run_makeSlice (P := Tryd.prog) w 33 24 i0 _ Tryd.underlying33 hi hz0 .i64 .i64 (c : Int) (c : Int) (by omega) (by omega) (by rw [hz1]; simp; omega) hb (by omega)
  rw [hz1] at hrun
  simp only [Int.toNat_natCast] at hrun
  refine wpList_plain hgd fun K hK => ?_
  unfold Oper.wp
  simp [execOp, ho, hs, hx, hrun, Result.andThen]
  refine hK _ _ (h _ ⟨⟨_, heap_alloc_new _ _, ?_⟩, fun d hd => ?_, fun p hp j v hv => ?_⟩ (by simp) ((Below.refl _ _).alloc (Nat.le_refl _) _))
  · rw [size_madeCells, List.length_replicate, Nat.mul_comm]
  · rw [List.eq_of_mem_replicate hd]; rfl
  · rw [List.length_replicate] at hp
    have e : (List.replicate c (zs 32)).getD p [] = zs 32 := by simp [hp]
    rw [e] at hv
    have hj : j < 32 := by
      have := (List.getElem?_eq_some_iff.1 hv).1
      rw [List.length_map] at this
      exact this
    rw [cell_of_row _ _ _ _ _ _ (heap_alloc_new _ _), ← hv]
    have hz : zs 32 = List.replicate 32 0 := rfl
    have hsz : 32 * p + j < c * 32 := by omega
    have hcl : (Value.agg (rowB (zs 32))).cells = (List.replicate 32 (Value.int .u8 0)).toArray := by rw [hz]; rfl
    unfold madeCells
    rw [hcl, Array.getElem?_map, Array.getElem?_range, if_pos hsz, hz]
    have hm : (32 * p + j) % 32 = j := by omega
    simp [hm, hj]
end Go.Proofs.YtighmhoekbnagaaDoor
