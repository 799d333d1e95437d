import Derived.Test.YtkfkjapkcjidnaaNg
import Derived.Test.YtkfkjapkcjidnaaCs
import Derived.Deep.WholeRow
namespace Go.Proofs.Ytkfkjapkcjidnaa.Wg
set_option maxRecDepth 100000
open Go.ChangeShapes Go.WideShapes Go.ChangeAt Go.RowKit Go.Shelf Go.Proofs.Ytkfkjapkcjidnaa.Tn
attribute [local go_sem] Oper.semAt_some

/-! ### Parse, from below: so many numbers of a leaf -/
set_option maxHeartbeats 4000000 in
theorem parseNums_no (w : World) (sp : Option Addr) (cap m C : Nat) (l : List Int) (hm : l.length = m) (hb : Cd.Bytes w sp cap l) (hml : m ≤ 100000) (hne : m ≠ 8 * C) :
    Calls Try.prog 50 #[.slice sp m cap, .int .i64 C] w fun e w' => e = .returned (.tuple #[.slice none 0 0, .int .i64 11]) ∧ Below w.heap.size w w' := by
  have HM := Lib.hid hm
  have HB := Lib.hid hb
  clear hm hb
  by_cases h8 : m % 8 = 0
  · obtain ⟨q, hq⟩ : ∃ q, m = 8 * q := ⟨m / 8, by omega⟩
    have hqC : q ≠ C := by omega
    have n1 : ((q : Int) == (C : Int)) = false := by rw [beq_eq_false_iff_ne]; omega
    have n2 : ((q : Int) != (C : Int)) = true := by rw [bne_iff_ne]; omega
    have n3 : (q == C) = false := by simpa using hqC
    have n4 : (q != C) = true := by simpa using hqC
    have HC := Lib.hid (fun W (h : Below w.heap.size w W) => Cd.ints_ok W sp m cap q l HM.out hq (HB.out.below h) hml)
    clear h8 hq hne hml
    go_enter Try.func50, Try.ntmps50
    go_wp2_with (go_at_call 65; refine (HC.out _ (Below.refl _ _)).mono ?_; rintro e w2 ⟨g, rfl, hn, hb2⟩; have HB2 := Lib.hid hb2; clear hn hb2)
    exact bodyPost_ret (v := .tuple #[.slice none 0 0, .int .i64 11]) (by simp [results, Try.results50, go_sem]) rfl ⟨rfl, HB2.out⟩
  · have HC := Lib.hid (fun W => Cd.ints_bad W sp m cap h8 hml)
    clear h8 hne hml
    go_enter Try.func50, Try.ntmps50
    go_wp2_with (go_at_call 65; refine (HC.out _).mono ?_; rintro e w2 ⟨rfl, rfl⟩)
    exact bodyPost_ret (v := .tuple #[.slice none 0 0, .int .i64 11]) (by simp [results, Try.results50, go_sem]) rfl ⟨rfl, Below.refl _ _⟩
set_option maxHeartbeats 4000000 in
theorem parseNums_okB (w : World) (sp : Option Addr) (cap m C : Nat) (l : List Int) (hm : l.length = m) (hb : Cd.Bytes w sp cap l) (hml : m ≤ 100000) (he : m = 8 * C) :
    Calls Try.prog 50 #[.slice sp m cap, .int .i64 C] w fun e w' => ∃ g, w.heap.size ≤ g ∧ e = .returned (.tuple #[.slice (some ⟨g, 0, none⟩) C C, .int .i64 0]) ∧ Cd.Nums w' (some ⟨g, 0, none⟩) C (Cd.ints l C) ∧ Below w.heap.size w w' := by
  have HC := Lib.hid (Cd.ints_okB w sp m cap C l hm he hb hml)
  clear hm hb he hml
  go_enter Try.func50, Try.ntmps50
  go_wp2_with (go_at_call 65; refine HC.out.mono ?_; rintro e w2 ⟨g, hg, rfl, hn, hb2⟩; have HB2 := Lib.hid hb2; have HN2 := Lib.hid hn; have HG := Lib.hid hg; clear hn hb2 hg)
  exact bodyPost_ret (v := .tuple #[.slice (some ⟨g, 0, none⟩) C C, .int .i64 0]) (by simp [results, Try.results50, go_sem]) rfl ⟨g, HG.out, rfl, HN2.out, HB2.out⟩
theorem parseNums_ok (w : World) (sp : Option Addr) (cap m C : Nat) (l : List Int) (hm : l.length = m) (hb : Cd.Bytes w sp cap l) (hml : m ≤ 100000) (he : m = 8 * C) :
    Calls Try.prog 50 #[.slice sp m cap, .int .i64 C] w fun e w' => ∃ g, e = .returned (.tuple #[.slice (some ⟨g, 0, none⟩) C C, .int .i64 0]) ∧ Cd.Nums w' (some ⟨g, 0, none⟩) C (Cd.ints l C) ∧ Below w.heap.size w w' :=
  (parseNums_okB w sp cap m C l hm hb hml he).mono fun _ _ ⟨g, _, h⟩ => ⟨g, h⟩
end Go.Proofs.Ytkfkjapkcjidnaa.Wg
namespace Go.Proofs.Ytkfkjapkcjidnaa.Wg
set_option maxRecDepth 100000
open Go.ChangeShapes Go.WideShapes Go.ChangeAt Go.RowKit Go.Shelf Go.Proofs.Ytkfkjapkcjidnaa.Tn
attribute [local go_sem] Oper.semAt_some

/-! ### sizes of bytes -/
theorem results_row_tmp {P : Program} {fn : Func} {p q : Tmp} {ty : TypeId} (h : fn.results = #[.cell p ty, .tmp q]) (tmps : Array Value) (w : World) (g : Nat) (t : TypeId) (cs : Array Value) (fr : Nat × Nat) (d : TypeDesc) (u : Value)
    (hp : tmps.getD p undef = .pointer (some ⟨g, 0, none⟩)) (hg : w.heap[g]? = some (.cells cs t fr))
    (hu : P.underlying ty = some d) (hd : (match d with | .struct _ | .array _ _ => true | _ => false) = true) (hi : (P.info? ty).map (·.size) = some cs.size) (hq : tmps.getD q undef = u) :
    (results fn tmps).run P w = .ok (.tuple #[.agg cs, u]) w := by
  have hp' : tmps[p]?.getD undef = .pointer (some ⟨g, 0, none⟩) := by simpa using hp
  have hq' : tmps[q]?.getD undef = u := by simpa using hq
  simp [results, h, hp', hq', asAddr, run_loadVar_row w g t ty cs fr d hg hu hd hi]
def cfgOf (l : List Int) : Cfg := ⟨l.getD 0 0, l.getD 1 0, l.getD 2 0, l.getD 3 0, l.getD 4 0, l.getD 5 0⟩
theorem cfg_one (c : Cfg) : (Cfg.cells c).all (·.oneCell') = true := by
  simp [Cfg.cells]
  exact ⟨rfl, rfl, rfl, rfl, rfl, rfl⟩
theorem nums_cells {W : World} {g C : Nat} {l : List Int} (h : Cd.Nums W (some ⟨g, 0, none⟩) C l) (i : Nat) (hi : i < l.length) : W.cell? ⟨g, i, none⟩ = some (.int .i64 (l.getD i 0)) := by
  obtain ⟨c, o, e, hl⟩ := h.lies (by rw [List.length_map]; omega)
  cases e
  have := hl i (.int .i64 (l.getD i 0)) (by simp [hi])
  rwa [Nat.zero_add] at this
set_option maxHeartbeats 4000000 in
theorem parseCfg_no (w : World) (sp : Option Addr) (cap m : Nat) (l : List Int) (hm : l.length = m) (hb : Cd.Bytes w sp cap l) (hml : m ≤ 100000) (hne : m ≠ 8 * 6) :
    Calls Try.prog 48 #[.slice sp m cap] w fun e w' => e = .returned (.tuple #[.agg #[.int .i64 0, .int .i64 0, .int .i64 0, .int .i64 0, .int .i64 0, .int .i64 0], .int .i64 11]) ∧ Below w.heap.size w w' := by
  have HC : Hid (∀ W, Below w.heap.size w W → Calls Try.prog 50 #[.slice sp m cap, .int .i64 6] W fun e w' => e = .returned (.tuple #[.slice none 0 0, .int .i64 11]) ∧ Below W.heap.size W w') := Lib.hid (fun W h => parseNums_no W sp cap m 6 l hm (hb.below h) hml hne)
  clear hm hb hml hne
  go_enter Try.func48, Try.ntmps48
  go_wp2_with (first
    | (go_at_call 50; refine (HC.out _ ((Below.refl _ _).alloc (Nat.le_refl _) _)).mono ?_; rintro e w2 ⟨rfl, hb2⟩; have hal := (Below.refl w.heap.size w).alloc (Nat.le_refl _) (.cells #[.int .i64 0, .int .i64 0, .int .i64 0, .int .i64 0, .int .i64 0, .int .i64 0] 23); have HR := Lib.hid ((hb2.block w.heap.size (by simp)).trans (heap_alloc_new w (.cells #[.int .i64 0, .int .i64 0, .int .i64 0, .int .i64 0, .int .i64 0, .int .i64 0] 23))); have HB2 := Lib.hid (hal.trans (hb2.mono hal.size)); clear hb2)
    | (refine wpList_store_row rfl 23 (.tmp 2) (.tmp 13) rfl w.heap.size #[.int .i64 0, .int .i64 0, .int .i64 0, .int .i64 0, .int .i64 0, .int .i64 0] rfl rfl 23 _ HR.out size_cfg rfl (cfg_one ⟨0, 0, 0, 0, 0, 0⟩) ?_))
  exact bodyPost_ret (v := .tuple #[.agg #[.int .i64 0, .int .i64 0, .int .i64 0, .int .i64 0, .int .i64 0, .int .i64 0], .int .i64 11]) (results_row_tmp Try.results48 _ _ w.heap.size 23 _ (0, 0) _ _ rfl (setRow_heap _ _ _ _ _ _ HR.out) Try.underlying23 rfl size_cfg rfl) rfl ⟨rfl, Cd.below_setRow HB2.out (Nat.le_refl _) _⟩
set_option maxHeartbeats 4000000 in
theorem parseCfg_ok (w : World) (sp : Option Addr) (cap m : Nat) (l : List Int) (hm : l.length = m) (hb : Cd.Bytes w sp cap l) (hml : m ≤ 100000) (he : m = 8 * 6) :
    Calls Try.prog 48 #[.slice sp m cap] w fun e w' => e = .returned (.tuple #[.agg (cfgOf (Cd.ints l 6)).cells, .int .i64 0]) ∧ Below w.heap.size w w' := by
  have HC : Hid (∀ W, Below w.heap.size w W → Calls Try.prog 50 #[.slice sp m cap, .int .i64 6] W fun e w' => ∃ g, e = .returned (.tuple #[.slice (some ⟨g, 0, none⟩) 6 6, .int .i64 0]) ∧ Cd.Nums w' (some ⟨g, 0, none⟩) 6 (Cd.ints l 6) ∧ Below W.heap.size W w') := Lib.hid (fun W h => parseNums_ok W sp cap m 6 l hm (hb.below h) hml he)
  have hil := Cd.ints_length l 6
  obtain ⟨il, hI⟩ : ∃ il, Cd.ints l 6 = il := ⟨_, rfl⟩
  rw [hI] at HC hil ⊢
  have HIl := Lib.hid hil
  clear hm hb hml he hI hil
  go_enter Try.func48, Try.ntmps48
  go_upto_region 4 with (go_at_call 50; refine (HC.out _ ((Below.refl _ _).alloc (Nat.le_refl _) _)).mono ?_; rintro e w2 ⟨g, rfl, hn, hb2⟩; have hal := (Below.refl w.heap.size w).alloc (Nat.le_refl _) (.cells #[.int .i64 0, .int .i64 0, .int .i64 0, .int .i64 0, .int .i64 0, .int .i64 0] 23); have HR := Lib.hid ((hb2.block w.heap.size (by simp)).trans (heap_alloc_new w (.cells #[.int .i64 0, .int .i64 0, .int .i64 0, .int .i64 0, .int .i64 0, .int .i64 0] 23))); have HB2 := Lib.hid (hal.trans (hb2.mono hal.size)); have HNm := Lib.hid hn; clear hb2 hn)
  have k0 := nums_cells HNm.out 0 (by rw [HIl.out]; omega)
  have k1 := nums_cells HNm.out 1 (by rw [HIl.out]; omega)
  have k2 := nums_cells HNm.out 2 (by rw [HIl.out]; omega)
  have k3 := nums_cells HNm.out 3 (by rw [HIl.out]; omega)
  have k4 := nums_cells HNm.out 4 (by rw [HIl.out]; omega)
  have k5 := nums_cells HNm.out 5 (by rw [HIl.out]; omega)
  have hcf : (cfgOf il).cells = #[.int .i64 (il.getD 0 0), .int .i64 (il.getD 1 0), .int .i64 (il.getD 2 0), .int .i64 (il.getD 3 0), .int .i64 (il.getD 4 0), .int .i64 (il.getD 5 0)] := rfl
  obtain ⟨c0, e0⟩ : ∃ c, il.getD 0 0 = c := ⟨_, rfl⟩
  obtain ⟨c1, e1⟩ : ∃ c, il.getD 1 0 = c := ⟨_, rfl⟩
  obtain ⟨c2, e2⟩ : ∃ c, il.getD 2 0 = c := ⟨_, rfl⟩
  obtain ⟨c3, e3⟩ : ∃ c, il.getD 3 0 = c := ⟨_, rfl⟩
  obtain ⟨c4, e4⟩ : ∃ c, il.getD 4 0 = c := ⟨_, rfl⟩
  obtain ⟨c5, e5⟩ : ∃ c, il.getD 5 0 = c := ⟨_, rfl⟩
  rw [e0] at k0 hcf
  rw [e1] at k1 hcf
  rw [e2] at k2 hcf
  rw [e3] at k3 hcf
  rw [e4] at k4 hcf
  rw [e5] at k5 hcf
  have HCf := Lib.hid hcf
  clear e0 e1 e2 e3 e4 e5 hcf
  refine wp_region_any (by kernel_rfl) (any_quiet_tail (C := fun W => Below w2.heap.size w2 W) 18 (by kernel_rfl) ⟨rfl, rfl, rfl, Nat.le_refl _, fun _ _ => rfl⟩ ?_)
  simp only [List.take_succ_cons, List.take_zero, List.drop_succ_cons, List.drop_zero]
  refine q_val (.slice (some ⟨g, 0, none⟩) 6 6) rfl (fun _ _ => by rfl) ?_
  simp only [Act.put, List.setIfInBounds_toArray, List.set_cons_succ, List.set_cons_zero]
  refine q_val (.pointer (some ⟨g, 0 + 0, none⟩)) rfl (fun _ _ => Bp.exec_at1 26 3 Try.underlying26 size3 (.tmp 15) (.const (.int .i64 0)) rfl g 0 6 6 0 rfl rfl (by omega)) ?_
  simp only [Act.put, List.setIfInBounds_toArray, List.set_cons_succ, List.set_cons_zero]
  refine q_val (.int .i64 c0) rfl (fun W hW => Bp.exec_load1 3 (.tmp 16) rfl ⟨g, 0 + 0, none⟩ rfl _ ((hW.cell (block_lt_of_cell k0)).trans (by simpa using k0)) _ Try.underlying3 rfl) ?_
  simp only [Act.put, List.setIfInBounds_toArray, List.set_cons_succ, List.set_cons_zero]
  refine q_val (.slice (some ⟨g, 0, none⟩) 6 6) rfl (fun _ _ => by rfl) ?_
  simp only [Act.put, List.setIfInBounds_toArray, List.set_cons_succ, List.set_cons_zero]
  refine q_val (.pointer (some ⟨g, 0 + 1, none⟩)) rfl (fun _ _ => Bp.exec_at1 26 3 Try.underlying26 size3 (.tmp 18) (.const (.int .i64 1)) rfl g 0 6 6 1 rfl rfl (by omega)) ?_
  simp only [Act.put, List.setIfInBounds_toArray, List.set_cons_succ, List.set_cons_zero]
  refine q_val (.int .i64 c1) rfl (fun W hW => Bp.exec_load1 3 (.tmp 19) rfl ⟨g, 0 + 1, none⟩ rfl _ ((hW.cell (block_lt_of_cell k1)).trans (by simpa using k1)) _ Try.underlying3 rfl) ?_
  simp only [Act.put, List.setIfInBounds_toArray, List.set_cons_succ, List.set_cons_zero]
  refine q_val (.slice (some ⟨g, 0, none⟩) 6 6) rfl (fun _ _ => by rfl) ?_
  simp only [Act.put, List.setIfInBounds_toArray, List.set_cons_succ, List.set_cons_zero]
  refine q_val (.pointer (some ⟨g, 0 + 2, none⟩)) rfl (fun _ _ => Bp.exec_at1 26 3 Try.underlying26 size3 (.tmp 21) (.const (.int .i64 2)) rfl g 0 6 6 2 rfl rfl (by omega)) ?_
  simp only [Act.put, List.setIfInBounds_toArray, List.set_cons_succ, List.set_cons_zero]
  refine q_val (.int .i64 c2) rfl (fun W hW => Bp.exec_load1 3 (.tmp 22) rfl ⟨g, 0 + 2, none⟩ rfl _ ((hW.cell (block_lt_of_cell k2)).trans (by simpa using k2)) _ Try.underlying3 rfl) ?_
  simp only [Act.put, List.setIfInBounds_toArray, List.set_cons_succ, List.set_cons_zero]
  refine q_val (.slice (some ⟨g, 0, none⟩) 6 6) rfl (fun _ _ => by rfl) ?_
  simp only [Act.put, List.setIfInBounds_toArray, List.set_cons_succ, List.set_cons_zero]
  refine q_val (.pointer (some ⟨g, 0 + 3, none⟩)) rfl (fun _ _ => Bp.exec_at1 26 3 Try.underlying26 size3 (.tmp 24) (.const (.int .i64 3)) rfl g 0 6 6 3 rfl rfl (by omega)) ?_
  simp only [Act.put, List.setIfInBounds_toArray, List.set_cons_succ, List.set_cons_zero]
  refine q_val (.int .i64 c3) rfl (fun W hW => Bp.exec_load1 3 (.tmp 25) rfl ⟨g, 0 + 3, none⟩ rfl _ ((hW.cell (block_lt_of_cell k3)).trans (by simpa using k3)) _ Try.underlying3 rfl) ?_
  simp only [Act.put, List.setIfInBounds_toArray, List.set_cons_succ, List.set_cons_zero]
  refine q_val (.slice (some ⟨g, 0, none⟩) 6 6) rfl (fun _ _ => by rfl) ?_
  simp only [Act.put, List.setIfInBounds_toArray, List.set_cons_succ, List.set_cons_zero]
  refine q_val (.pointer (some ⟨g, 0 + 4, none⟩)) rfl (fun _ _ => Bp.exec_at1 26 3 Try.underlying26 size3 (.tmp 27) (.const (.int .i64 4)) rfl g 0 6 6 4 rfl rfl (by omega)) ?_
  simp only [Act.put, List.setIfInBounds_toArray, List.set_cons_succ, List.set_cons_zero]
  refine q_val (.int .i64 c4) rfl (fun W hW => Bp.exec_load1 3 (.tmp 28) rfl ⟨g, 0 + 4, none⟩ rfl _ ((hW.cell (block_lt_of_cell k4)).trans (by simpa using k4)) _ Try.underlying3 rfl) ?_
  simp only [Act.put, List.setIfInBounds_toArray, List.set_cons_succ, List.set_cons_zero]
  refine q_val (.slice (some ⟨g, 0, none⟩) 6 6) rfl (fun _ _ => by rfl) ?_
  simp only [Act.put, List.setIfInBounds_toArray, List.set_cons_succ, List.set_cons_zero]
  refine q_val (.pointer (some ⟨g, 0 + 5, none⟩)) rfl (fun _ _ => Bp.exec_at1 26 3 Try.underlying26 size3 (.tmp 30) (.const (.int .i64 5)) rfl g 0 6 6 5 rfl rfl (by omega)) ?_
  simp only [Act.put, List.setIfInBounds_toArray, List.set_cons_succ, List.set_cons_zero]
  refine q_val (.int .i64 c5) rfl (fun W hW => Bp.exec_load1 3 (.tmp 31) rfl ⟨g, 0 + 5, none⟩ rfl _ ((hW.cell (block_lt_of_cell k5)).trans (by simpa using k5)) _ Try.underlying3 rfl) ?_
  simp only [Act.put, List.setIfInBounds_toArray, List.set_cons_succ, List.set_cons_zero]
  refine wpQuiet_nil ?_
  intro w3 hw3
  have HR3 := Lib.hid ((hw3.block _ (Array.getElem?_eq_some_iff.1 HR.out).1).trans HR.out)
  have HB3 := Lib.hid (HB2.out.trans (hw3.mono HB2.out.size))
  clear hw3 k0 k1 k2 k3 k4 k5
  go_wp2_with (refine wpList_store_row rfl 23 (.tmp 2) (.tmp 33) rfl w.heap.size #[.int .i64 c0, .int .i64 c1, .int .i64 c2, .int .i64 c3, .int .i64 c4, .int .i64 c5] rfl rfl 23 _ HR3.out size_cfg rfl (cfg_one ⟨c0, c1, c2, c3, c4, c5⟩) ?_)
  exact bodyPost_ret (v := .tuple #[.agg #[.int .i64 c0, .int .i64 c1, .int .i64 c2, .int .i64 c3, .int .i64 c4, .int .i64 c5], .int .i64 0]) (results_row_tmp Try.results48 _ _ w.heap.size 23 _ (0, 0) _ _ rfl (setRow_heap _ _ _ _ _ _ HR3.out) Try.underlying23 rfl size_cfg rfl) rfl ⟨by rw [HCf.out], Cd.below_setRow HB3.out (Nat.le_refl _) _⟩
end Go.Proofs.Ytkfkjapkcjidnaa.Wg
namespace Go.Proofs.Ytkfkjapkcjidnaa.Wg
set_option maxRecDepth 100000
open Go.ChangeShapes Go.WideShapes Go.ChangeAt Go.RowKit Go.Shelf Go.Proofs.Ytkfkjapkcjidnaa.Tn
attribute [local go_sem] Oper.semAt_some

/-! ### pairs of bytes -/
set_option maxHeartbeats 4000000 in
theorem parsePrs_no (w : World) (sp : Option Addr) (cap m : Nat) (l : List Int) (hm : l.length = m) (hb : Cd.Bytes w sp cap l) (hml : m ≤ 100000) (hne : m % 16 ≠ 0) :
    Calls Try.prog 49 #[.slice sp m cap] w fun e w' => e = .returned (.tuple #[.slice none 0 0, .int .i64 11]) ∧ Below w.heap.size w w' := by
  have HM := Lib.hid hm
  have HB := Lib.hid hb
  clear hm hb
  by_cases h8 : m % 8 = 0
  · obtain ⟨q, hq⟩ : ∃ q, m = 8 * q := ⟨m / 8, by omega⟩
    have n2 : (((q : Int) % 2) != 0) = true := by rw [bne_iff_ne]; omega
    have n1 : (((q : Int) % 2) == 0) = false := by rw [beq_eq_false_iff_ne]; omega
    have HC := Lib.hid (fun W (h : Below w.heap.size w W) => Cd.ints_ok W sp m cap q l HM.out hq (HB.out.below h) hml)
    clear h8 hq hne hml
    go_enter Try.func49, Try.ntmps49
    go_wp2_with (go_at_call 65; refine (HC.out _ (Below.refl _ _)).mono ?_; rintro e w2 ⟨g, rfl, hn, hb2⟩; have HB2 := Lib.hid hb2; clear hn hb2)
    exact bodyPost_ret (v := .tuple #[.slice none 0 0, .int .i64 11]) (by simp [results, Try.results49, go_sem]) rfl ⟨rfl, HB2.out⟩
  · have HC := Lib.hid (fun W => Cd.ints_bad W sp m cap h8 hml)
    clear h8 hne hml
    go_enter Try.func49, Try.ntmps49
    go_wp2_with (go_at_call 65; refine (HC.out _).mono ?_; rintro e w2 ⟨rfl, rfl⟩)
    exact bodyPost_ret (v := .tuple #[.slice none 0 0, .int .i64 11]) (by simp [results, Try.results49, go_sem]) rfl ⟨rfl, Below.refl _ _⟩
/-- the pairs of a list of numbers -/
def prsOf (il : List Int) (P : Nat) : List (Int × Int) := (List.range P).map fun k => (il.getD (2 * k) 0, il.getD (2 * k + 1) 0)
theorem infoPr : (Try.prog.info? 82).map (fun i => (i.zero, i.size, i.bytes)) = some (some (.agg #[.int .i64 0, .int .i64 0]), 2, 16) := by kernel_rfl
theorem sizePr : (Try.prog.info? 82).map (·.size) = some 2 := by kernel_rfl
theorem wpList_makePr {w : World} {ops : Array Oper} {rest : List Oper} {o : Oper} {a : Act} {Q : Exit → Act → World → Prop} (hgd : o.guard = none) (s x : Operand) (ho : o.op = .makeSlice 25 s x) (c : Nat) (hs : a.eval s = .int .i64 (c : Int)) (hx : a.eval x = .int .i64 (c : Int)) (hc : c ≤ 100000)
    (h : wpList Try.prog ops Q rest (a.put o.dst (.slice (some ⟨w.heap.size, 0, none⟩) c c)) (w.alloc (.cells (madeCells #[.int .i64 0, .int .i64 0] (c * 2)) 82))) : wpList Try.prog ops Q (o :: rest) a w := by
  obtain ⟨i0, hi, hz0, hz1, hz2⟩ := info_parts infoPr
  have hb : (i0.bytes : Int) * (c : Int) ≤ 281474976710656 := by
    have h1 : i0.bytes * c ≤ 100 * 1000000 := Nat.mul_le_mul (by omega) (by omega)
    have h2 : ((i0.bytes * c : Nat) : Int) ≤ 100000000 := by omega
    rw [Int.natCast_mul] at h2
    omega
  have hrun := run_makeSlice (P := Try.prog) w 25 82 i0 _ Try.underlying25 hi hz0 .i64 .i64 (c : Int) (c : Int) (by omega) (by omega) (by rw [hz1]; simp; omega) hb (by omega)
  rw [hz1] at hrun
  simp only [Int.toNat_natCast] at hrun
  refine wpList_plain hgd fun K hK => ?_
  unfold Oper.wp
  simp [execOp, ho, hs, hx, hrun, Result.andThen]
  exact hK _ _ h
theorem there_block {W : World} {b : Nat} {C : Array Value} {t : TypeId} (hb : W.heap[b]? = some (.cells C t (0, 0))) : W.there b 0 C.size := fun j hj => by
  refine ⟨?_, by simp [World.frozen?, hb]⟩
  rw [cell_of_row _ _ _ _ _ _ hb, Nat.zero_add, Array.getElem?_eq_getElem hj]
  rfl
theorem exec_at2 {P : Program} {a : Act} {o : Oper} {W : World} (t e : TypeId) (ht : P.underlying t = some (.slice e)) (hs : (P.info? e).map (·.size) = some 2) (x y : Operand) (ho : o.op = .indexAddr t x y) (c k n cap i : Nat) (hx : a.eval x = .slice (some ⟨c, k, none⟩) n cap) (hy : a.eval y = .int .i64 (i : Int)) (hi : i < n) : (execOp a.eval o).run P W = .ok (.value (.pointer (some ⟨c, k + i * 2, none⟩))) W := by
  have hadd := Tn.add_plain c k (i * 2)
  cases hq : P.info? e with
  | none => simp [hq] at hs
  | some j =>
    have hj : j.size = 2 := by simpa [hq] using hs
    unfold execOp
    simp [ho, hx, hy, Instr.indexAt, asIntOf, run_underlying ht, sizeOf, typeInfo, hq, hj, hi, hadd]
section
variable {a : Act} {o : Oper} {W : World}
theorem run_add (u v z : Int) (h : u + v = z) (h1 : -9223372036854775808 ≤ z) (h2 : z ≤ 9223372036854775807) : (binOp .add 3 (.int .i64 u) (.int .i64 v)).run Try.prog W = .ok (.int .i64 z) W := by
  have e : IntKind.i64.wrap (u + v) = z := by rw [IntWalk.i64_in _ (by omega)]; exact h
  simp [go_sem, e]
theorem run_mul (u v z : Int) (h : u * v = z) (h1 : -9223372036854775808 ≤ z) (h2 : z ≤ 9223372036854775807) : (binOp .mul 3 (.int .i64 u) (.int .i64 v)).run Try.prog W = .ok (.int .i64 z) W := by
  have e : IntKind.i64.wrap (u * v) = z := by rw [IntWalk.i64_in _ (by omega)]; exact h
  simp [go_sem, e]
theorem exec_bin (op : BinOp) (x y : Operand) (ho : o.op = .binOp op 3 x y 3) (hop : (op == .eql || op == .neq) = false) (u v z : Int) (hx : a.eval x = .int .i64 u) (hy : a.eval y = .int .i64 v) (h : (binOp op 3 (.int .i64 u) (.int .i64 v)).run Try.prog W = .ok (.int .i64 z) W) : (execOp a.eval o).run Try.prog W = .ok (.value (.int .i64 z)) W := by
  unfold execOp
  have hg : (eqGuard op 3 x y (.int .i64 u) (.int .i64 v)).run Try.prog W = .ok () W := by
    unfold eqGuard
    cases op <;> simp_all
  simp [ho, hx, hy, hg, h]
end
theorem run_buildP {W : World} (u v : Int) : (Instr.build 82 #[(0, .int .i64 u), (1, .int .i64 v)]).run Try.prog W = .ok (.agg #[.int .i64 u, .int .i64 v]) W := by kernel_rfl
theorem exec_buildP {a : Act} {o : Oper} {W : World} (x y : Operand) (ho : o.op = .build 82 #[(0, x), (1, y)]) (u v : Int) (hx : a.eval x = .int .i64 u) (hy : a.eval y = .int .i64 v) : (execOp a.eval o).run Try.prog W = .ok (.value (.agg #[.int .i64 u, .int .i64 v])) W := by
  unfold execOp
  simp [ho, hx, hy, run_buildP]
theorem pr_one (x y : Int) : (#[Value.int .i64 x, .int .i64 y]).all (·.oneCell') = true := by
  simp
  exact ⟨rfl, rfl⟩
theorem below_setC {B b : Nat} (hb : B ≤ b) : ∀ (vs : List Value) (o : Nat) (W : World), Below B W (W.setCells b o vs)
  | [], _, W => Below.refl B W
  | v :: vs, o, W => by
    rw [World.setCells]
    exact ((Below.refl B W).setCell (p := ⟨b, o, none⟩) hb v).trans (below_setC hb vs _ _)
/-- while pairs are laid -/
structure PrI (w w2 : World) (b g P : Nat) (il : List Int) (i : Nat) (W : World) : Prop where
  below : Below w.heap.size w W
  keep : Below b w2 W
  there : W.there b 0 (2 * P)
  done : ∀ k, k < i → W.rangeAt b (k * 2) [.int .i64 (il.getD (2 * k) 0), .int .i64 (il.getD (2 * k + 1) 0)]
theorem rangeAt_later {W W' : World} {b o : Nat} {cs : List Value} (h : W.rangeAt b o cs) (hb : Below W.heap.size W W') : W'.rangeAt b o cs := fun j v hv => (hb.cell (block_lt_of_cell (h j v hv))).trans (h j v hv)
theorem there_later {W W' : World} {b n : Nat} (h : W.there b 0 n) (hb : Below W.heap.size W W') : W'.there b 0 n := fun j hj => by
  obtain ⟨h1, h2⟩ := h j hj
  obtain ⟨v, hv⟩ := Option.isSome_iff_exists.1 h1
  have hl := block_lt_of_cell hv
  have hbk := hb.block b hl
  refine ⟨?_, ?_⟩
  · rw [hb.cell hl]; exact h1
  · unfold World.frozen? at h2 ⊢
    simp only at h2 ⊢
    rw [hbk]
    exact h2
set_option maxHeartbeats 8000000 in
theorem parsePrs_ok (w : World) (sp : Option Addr) (cap m P : Nat) (l : List Int) (hm : l.length = m) (hb : Cd.Bytes w sp cap l) (hml : m ≤ 100000) (he : m = 16 * P) :
    Calls Try.prog 49 #[.slice sp m cap] w fun e w' => ∃ b, w.heap.size ≤ b ∧ e = .returned (.tuple #[.slice (some ⟨b, 0, none⟩) P P, .int .i64 0]) ∧ Bp.Prs w' (some ⟨b, 0, none⟩) P (prsOf (Cd.ints l (2 * P)) P) ∧ Below w.heap.size w w' := by
  obtain ⟨Q, hQ⟩ : ∃ Q, 2 * P = Q := ⟨_, rfl⟩
  have HC := Lib.hid (Cd.ints_ok w sp m cap Q l hm (by omega) hb hml)
  have hil := Cd.ints_length l Q
  rw [hQ]
  obtain ⟨il, hI⟩ : ∃ il, Cd.ints l Q = il := ⟨_, rfl⟩
  rw [hI] at HC hil ⊢
  have HIl := Lib.hid hil
  have HQ := Lib.hid hQ
  have hP : P ≤ 6250 := by omega
  have r1 : ((Q : Int) % 2 != 0) = false := by rw [bne_eq_false_iff_eq]; omega
  have r2 : (Q : Int) / 2 = (P : Int) := by omega
  have r3 : (Q : Int) % 2 = 0 := by omega
  clear hm hb hml he hI hil hQ
  go_enter Try.func49, Try.ntmps49
  go_wp2_with (first
    | (go_at_call 65; refine HC.out.mono ?_; rintro e w2 ⟨g, rfl, hn, hb2⟩; have HB2 := Lib.hid hb2; have HNm := Lib.hid hn; clear hb2 hn)
    | (refine wpList_makePr rfl (.tmp 23) (.tmp 23) rfl P rfl rfl (by omega) ?_))
  have hal := (Below.refl w2.heap.size w2).alloc (Nat.le_refl _) (.cells (madeCells #[.int .i64 0, .int .i64 0] (P * 2)) 82)
  have hth := there_block (heap_alloc_new w2 (.cells (madeCells #[.int .i64 0, .int .i64 0] (P * 2)) 82))
  rw [size_madeCells] at hth
  have h0 : PrI w w2 w2.heap.size g P il 0 (w2.alloc (.cells (madeCells #[.int .i64 0, .int .i64 0] (P * 2)) 82)) := ⟨HB2.out.trans (hal.mono HB2.out.size), hal, fun j hj => hth j (by omega), fun k hk => by omega⟩
  have kc := fun i (hi : i < Q) => nums_cells HNm.out i (by rw [HIl.out]; exact hi)
  have Kc := Lib.hid (fun W i (hW : Below w2.heap.size w2 W) (hi : i < Q) => (hW.cell (block_lt_of_cell (kc i hi))).trans (kc i hi))
  have hbB : w.heap.size ≤ w2.heap.size := HB2.out.size
  obtain ⟨b, hb⟩ : ∃ b, w2.heap.size = b := ⟨_, rfl⟩
  have hbw : b ≤ w2.heap.size := Nat.le_of_eq hb.symm
  rw [hb] at h0 Kc hbB ⊢
  clear hal hth kc hb r1 r2 r3
  go_loopw [27] (fun v wr => ∃ i : Nat, i ≤ P ∧ v = .int .i64 i ∧ PrI w w2 b g P il i wr) (fun v _ => P - (intOf v).toNat)
  case atStart => exact ⟨0, by omega, rfl, h0⟩
  case round =>
    clear h0
    obtain ⟨i, hi, rfl, hp⟩ := hrel
    have HP := Lib.hid hp
    clear hp
    by_cases hlt : i < P
    · have hdt : decide (i < P) = true := by simp; omega
      have hq1 : 2 * i < Q := by have := HQ.out; omega
      have hq2 : 2 * i + 1 < Q := by have := HQ.out; omega
      have kx := Kc.out wr (2 * i) HP.out.keep hq1
      have ky := Kc.out wr (2 * i + 1) HP.out.keep hq2
      obtain ⟨x, hx⟩ : ∃ x, il.getD (2 * i) 0 = x := ⟨_, rfl⟩
      obtain ⟨y, hy⟩ : ∃ y, il.getD (2 * i + 1) 0 = y := ⟨_, rfl⟩
      rw [hx, ← Nat.zero_add (2 * i)] at kx
      rw [hy, ← Nat.zero_add (2 * i + 1)] at ky
      have HX := Lib.hid hx
      have HY := Lib.hid hy
      clear hx hy
      go_upto_region 8 with fail
      refine wp_region_any (by kernel_rfl) (any_quiet_tail (C := fun W => Below wr.heap.size wr W) 15 (by kernel_rfl) ⟨rfl, rfl, rfl, Nat.le_refl _, fun _ _ => rfl⟩ ?_)
      simp only [List.take_succ_cons, List.take_zero, List.drop_succ_cons, List.drop_zero]
      refine q_val (.slice (some ⟨b, 0, none⟩) P P) rfl (fun _ _ => by rfl) ?_
      simp only [Act.put, List.setIfInBounds_toArray, List.set_cons_succ, List.set_cons_zero]
      refine q_val (.int .i64 (i : Int)) rfl (fun _ _ => by rfl) ?_
      simp only [Act.put, List.setIfInBounds_toArray, List.set_cons_succ, List.set_cons_zero]
      refine q_val (.slice (some ⟨g, 0, none⟩) Q Q) rfl (fun _ _ => by rfl) ?_
      simp only [Act.put, List.setIfInBounds_toArray, List.set_cons_succ, List.set_cons_zero]
      refine q_val (.int .i64 (i : Int)) rfl (fun _ _ => by rfl) ?_
      simp only [Act.put, List.setIfInBounds_toArray, List.set_cons_succ, List.set_cons_zero]
      refine q_val (.int .i64 ((2 * i : Nat) : Int)) rfl (fun _ _ => exec_bin .mul (.const (.int .i64 2)) (.tmp 33) rfl rfl 2 i _ rfl rfl (run_mul _ _ _ (by omega) (by omega) (by omega))) ?_
      simp only [Act.put, List.setIfInBounds_toArray, List.set_cons_succ, List.set_cons_zero]
      refine q_val (.pointer (some ⟨g, 0 + 2 * i, none⟩)) rfl (fun _ _ => Bp.exec_at1 26 3 Try.underlying26 size3 (.tmp 32) (.tmp 34) rfl g 0 Q Q (2 * i) rfl rfl hq1) ?_
      simp only [Act.put, List.setIfInBounds_toArray, List.set_cons_succ, List.set_cons_zero]
      refine q_val (.int .i64 x) rfl (fun W hW => Bp.exec_load1 3 (.tmp 35) rfl ⟨g, 0 + 2 * i, none⟩ rfl _ ((hW.cell (block_lt_of_cell kx)).trans kx) _ Try.underlying3 rfl) ?_
      simp only [Act.put, List.setIfInBounds_toArray, List.set_cons_succ, List.set_cons_zero]
      refine q_val (.slice (some ⟨g, 0, none⟩) Q Q) rfl (fun _ _ => by rfl) ?_
      simp only [Act.put, List.setIfInBounds_toArray, List.set_cons_succ, List.set_cons_zero]
      refine q_val (.int .i64 (i : Int)) rfl (fun _ _ => by rfl) ?_
      simp only [Act.put, List.setIfInBounds_toArray, List.set_cons_succ, List.set_cons_zero]
      refine q_val (.int .i64 ((2 * i : Nat) : Int)) rfl (fun _ _ => exec_bin .mul (.const (.int .i64 2)) (.tmp 38) rfl rfl 2 i _ rfl rfl (run_mul _ _ _ (by omega) (by omega) (by omega))) ?_
      simp only [Act.put, List.setIfInBounds_toArray, List.set_cons_succ, List.set_cons_zero]
      refine q_val (.int .i64 ((2 * i + 1 : Nat) : Int)) rfl (fun _ _ => exec_bin .add (.tmp 39) (.const (.int .i64 1)) rfl rfl ((2 * i : Nat) : Int) 1 _ rfl rfl (run_add _ _ _ (by omega) (by omega) (by omega))) ?_
      simp only [Act.put, List.setIfInBounds_toArray, List.set_cons_succ, List.set_cons_zero]
      refine q_val (.pointer (some ⟨g, 0 + (2 * i + 1), none⟩)) rfl (fun _ _ => Bp.exec_at1 26 3 Try.underlying26 size3 (.tmp 37) (.tmp 40) rfl g 0 Q Q (2 * i + 1) rfl rfl hq2) ?_
      simp only [Act.put, List.setIfInBounds_toArray, List.set_cons_succ, List.set_cons_zero]
      refine q_val (.int .i64 y) rfl (fun W hW => Bp.exec_load1 3 (.tmp 41) rfl ⟨g, 0 + (2 * i + 1), none⟩ rfl _ ((hW.cell (block_lt_of_cell ky)).trans ky) _ Try.underlying3 rfl) ?_
      simp only [Act.put, List.setIfInBounds_toArray, List.set_cons_succ, List.set_cons_zero]
      refine q_val (.agg #[.int .i64 x, .int .i64 y]) rfl (fun _ _ => exec_buildP (.tmp 36) (.tmp 42) rfl x y rfl rfl) ?_
      simp only [Act.put, List.setIfInBounds_toArray, List.set_cons_succ, List.set_cons_zero]
      refine q_val (.pointer (some ⟨b, 0 + i * 2, none⟩)) rfl (fun _ _ => exec_at2 25 82 Try.underlying25 sizePr (.tmp 30) (.tmp 31) rfl b 0 P P i rfl rfl hlt) ?_
      simp only [Act.put, List.setIfInBounds_toArray, List.set_cons_succ, List.set_cons_zero]
      refine wpQuiet_nil ?_
      intro w3 hw3
      have hth := there_later HP.out.there hw3
      have hst : w3.there b (0 + i * 2) 2 := fun j hj => by
        have := hth (i * 2 + j) (by omega)
        rw [Nat.zero_add] at this ⊢
        exact this
      have HTh := Lib.hid hth
      have HW3 := Lib.hid hw3
      clear hth hw3 kx ky
      refine wpList_store_mid rfl 82 (.tmp 44) (.tmp 43) rfl b (0 + i * 2) #[.int .i64 x, .int .i64 y] rfl rfl hst sizePr (pr_one x y) ?_
      rw [Nat.zero_add] at hst ⊢
      go_wp2
      go_roundw
      case rel =>
        have hsz : b ≤ wr.heap.size := Nat.le_trans hbw HP.out.keep.size
        refine ⟨i + 1, by omega, by go_num, ⟨?_, ?_, ?_, fun k hk => ?_⟩⟩
        · exact (HP.out.below.trans (HW3.out.mono HP.out.below.size)).trans (below_setC hbB _ _ _)
        · exact (HP.out.keep.trans (HW3.out.mono hsz)).trans (below_setC (Nat.le_refl b) _ _ _)
        · exact World.there_setCells HTh.out _ _ _
        · by_cases hk2 : k = i
          · subst hk2
            rw [HX.out, HY.out]
            have := World.rangeAt_setCells_same w3 b (k * 2) [.int .i64 x, .int .i64 y] hst
            exact this
          · exact World.rangeAt_setCells_apart (rangeAt_later (HP.out.done k (by omega)) HW3.out) b (i * 2) _ (Or.inr (Or.inl (by simp; omega)))
      case measure => simp [intOf]; omega
    · obtain rfl : i = P := by omega
      have hdf : decide (i < i) = false := by simp
      go_wp2
      refine bodyPost_ret (v := .tuple #[.slice (some ⟨b, 0, none⟩) i i, .int .i64 0]) (by simp [results, Try.results49, go_sem]) rfl ?_
      refine ⟨b, hbB, rfl, ⟨by simp [prsOf], by unfold maxLen; omega, (fun h => by cases h), fun _ => ⟨b, 0, rfl, fun k hk => ?_⟩⟩, HP.out.below⟩
      have hk2 : k < i := by simpa [prsOf] using hk
      have e : (prsOf il i).getD k (0, 0) = (il.getD (2 * k) 0, il.getD (2 * k + 1) 0) := by simp [prsOf, List.getD_eq_getElem?_getD, hk2]
      rw [e, Nat.zero_add]
      exact HP.out.done k hk2
end Go.Proofs.Ytkfkjapkcjidnaa.Wg
namespace Go.Proofs.Ytkfkjapkcjidnaa.Wg
set_option maxRecDepth 100000
open Go.ChangeShapes Go.WideShapes Go.ChangeAt Go.RowKit Go.Shelf Go.Proofs.Ytkfkjapkcjidnaa.Tn
attribute [local go_sem] Oper.semAt_some

/-! ### Split, by what the bytes are -/
theorem join_one {ps qs : List (List Int)} (hp : Cd.small ps) (hq : Cd.small qs) (h : Cd.join ps = Cd.join qs) : ps = qs := by
  obtain ⟨rs, e, hr⟩ := Cd.join_cancel qs ps [] hq hp (by rw [h, List.append_nil])
  cases rs with
  | nil => rw [e, List.append_nil]
  | cons r rs =>
    rw [Cd.join_cons] at hr
    have := congrArg List.length hr
    simp [Cd.be_length] at this
theorem split_no (w : World) (sp : Option Addr) (m cap : Nat) (l : List Int) (hm : l.length = m) (hb : Cd.Bytes w sp cap l) (hmx : m ≤ 1000000) (hn : ∀ ps, Cd.small ps → Cd.join ps ≠ l) :
    Calls Try.prog 31 #[.slice sp m cap] w fun e w' => e = .returned (.tuple #[.slice none 0 0, .int .i64 11]) ∧ Below w.heap.size w w' :=
  (Cd.split_any w sp m cap l hm hb hmx).mono fun e w' ⟨h1, h2⟩ => by
    rcases h2 with ⟨A, c, ps, _, _, h3, h4⟩ | ⟨h3, _⟩
    · exact absurd h3 (hn ps h4)
    · exact ⟨h3, h1⟩
theorem split_yes (w : World) (sp : Option Addr) (m cap : Nat) (l : List Int) (hm : l.length = m) (hb : Cd.Bytes w sp cap l) (hmx : m ≤ 1000000) (ps : List (List Int)) (hs : Cd.small ps) (hj : Cd.join ps = l) :
    Calls Try.prog 31 #[.slice sp m cap] w fun e w' => ∃ A c, e = .returned (.tuple #[.slice A ps.length c, .int .i64 0]) ∧ Cd.Pieces w' A c ps ∧ Below w.heap.size w w' :=
  (Cd.split_any w sp m cap l hm hb hmx).mono fun e w' ⟨h1, h2⟩ => by
    rcases h2 with ⟨A, c, qs, h3, h4, h5, h6⟩ | ⟨_, h3⟩
    · obtain rfl := join_one h6 hs (h5.trans hj.symm)
      exact ⟨A, c, h3, h4.pieces, h1⟩
    · exact absurd hj (h3 ps hs)
/-- the pieces are the call's own -/
theorem split_own (w : World) (sp : Option Addr) (m cap : Nat) (l : List Int) (hm : l.length = m) (hb : Cd.Bytes w sp cap l) (hmx : m ≤ 1000000) (ps : List (List Int)) (hs : Cd.small ps) (hj : Cd.join ps = l) :
    Calls Try.prog 31 #[.slice sp m cap] w fun e w' => ∃ A c, e = .returned (.tuple #[.slice A ps.length c, .int .i64 0]) ∧ Cd.PiecesM w.heap.size w' A c ps ∧ Below w.heap.size w w' :=
  (Cd.split_any w sp m cap l hm hb hmx).mono fun e w' ⟨h1, h2⟩ => by
    rcases h2 with ⟨A, c, qs, h3, h4, h5, h6⟩ | ⟨_, h3⟩
    · obtain rfl := join_one h6 hs (h5.trans hj.symm)
      exact ⟨A, c, h3, h4, h1⟩
    · exact absurd hj (h3 ps hs)
/-! ### the first leaf: bytes that are none -/
def zeroC : Array Value := #[.int .i64 0, .int .i64 0, .int .i64 0, .int .i64 0, .int .i64 0, .int .i64 0, .slice none 0 0, .slice none 0 0, .int .i64 0, .int .i64 0, .slice none 0 0, .slice none 0 0, .slice none 0 0, .int .i64 0, .int .i64 0, .slice none 0 0]
theorem zeroC_one : zeroC.all (·.oneCell') = true := by kernel_rfl
set_option maxHeartbeats 4000000 in
theorem parseHead_no0 (w : World) (sp : Option Addr) (cap m : Nat) (l : List Int) (hm : l.length = m) (hb : Cd.Bytes w sp cap l) (hml : m ≤ 1000000) (hn : ∀ ps, Cd.small ps → Cd.join ps ≠ l) :
    Calls Try.prog 32 #[.slice sp m cap] w fun e w' => e = .returned (.tuple #[.agg zeroC, .int .i64 11]) ∧ Below w.heap.size w w' := by
  have HC := Lib.hid (fun W (h : Below w.heap.size w W) => split_no W sp m cap l hm (hb.below h) hml hn)
  clear hm hb hml hn
  go_enter Try.func32, Try.ntmps32
  go_wp2_with (first
    | (go_at_call 31; refine (HC.out _ ((Below.refl _ _).alloc (Nat.le_refl _) _)).mono ?_; rintro e w2 ⟨rfl, hb2⟩; have hal := (Below.refl w.heap.size w).alloc (Nat.le_refl _) (.cells zeroC 31); have HR := Lib.hid ((hb2.block w.heap.size (by simp)).trans (heap_alloc_new w (.cells zeroC 31))); have HB2 := Lib.hid (hal.trans (hb2.mono hal.size)); clear hb2 hal)
    | (refine wpList_store_row rfl 31 (.tmp 2) (.tmp 22) rfl w.heap.size zeroC rfl rfl 31 _ HR.out size_wts rfl zeroC_one ?_))
  exact bodyPost_ret (v := .tuple #[.agg zeroC, .int .i64 11]) (results_row_tmp Try.results32 _ _ w.heap.size 31 _ (0, 0) _ _ rfl (setRow_heap _ _ _ _ _ _ HR.out) Try.underlying31 rfl size_wts rfl) rfl ⟨rfl, Cd.below_setRow HB2.out (Nat.le_refl _) _⟩
set_option maxHeartbeats 4000000 in
theorem parseHead_no1 (w : World) (sp : Option Addr) (cap m : Nat) (l : List Int) (hm : l.length = m) (hb : Cd.Bytes w sp cap l) (hml : m ≤ 1000000) (ps : List (List Int)) (hs : Cd.small ps) (hj : Cd.join ps = l) (h3 : ps.length ≠ 3) :
    Calls Try.prog 32 #[.slice sp m cap] w fun e w' => e = .returned (.tuple #[.agg zeroC, .int .i64 11]) ∧ Below w.heap.size w w' := by
  have HC := Lib.hid (fun W (h : Below w.heap.size w W) => split_yes W sp m cap l hm (hb.below h) hml ps hs hj)
  obtain ⟨K, hK⟩ : ∃ K, ps.length = K := ⟨_, rfl⟩
  rw [hK] at HC h3
  have n1 : ((K : Int) == 3) = false := by rw [beq_eq_false_iff_ne]; omega
  have n2 : ((K : Int) != 3) = true := by rw [bne_iff_ne]; omega
  have n3 : (K == 3) = false := by rw [beq_eq_false_iff_ne]; omega
  clear hm hb hml hs hj hK h3
  go_enter Try.func32, Try.ntmps32
  go_wp2_with (first
    | (go_at_call 31; refine (HC.out _ ((Below.refl _ _).alloc (Nat.le_refl _) _)).mono ?_; rintro e w2 ⟨A, c, rfl, _, hb2⟩; have hal := (Below.refl w.heap.size w).alloc (Nat.le_refl _) (.cells zeroC 31); have HR := Lib.hid ((hb2.block w.heap.size (by simp)).trans (heap_alloc_new w (.cells zeroC 31))); have HB2 := Lib.hid (hal.trans (hb2.mono hal.size)); clear hb2 hal)
    | (refine wpList_store_row rfl 31 (.tmp 2) (.tmp 22) rfl w.heap.size zeroC rfl rfl 31 _ HR.out size_wts rfl zeroC_one ?_))
  exact bodyPost_ret (v := .tuple #[.agg zeroC, .int .i64 11]) (results_row_tmp Try.results32 _ _ w.heap.size 31 _ (0, 0) _ _ rfl (setRow_heap _ _ _ _ _ _ HR.out) Try.underlying31 rfl size_wts rfl) rfl ⟨rfl, Cd.below_setRow HB2.out (Nat.le_refl _) _⟩
end Go.Proofs.Ytkfkjapkcjidnaa.Wg
namespace Go.Proofs.Ytkfkjapkcjidnaa.Wg
set_option maxRecDepth 100000
open Go.ChangeShapes Go.WideShapes Go.ChangeAt Go.RowKit Go.Shelf Go.Proofs.Ytkfkjapkcjidnaa.Tn
attribute [local go_sem] Oper.semAt_some

/-! ### the first leaf: three pieces, of which one is none -/
set_option maxHeartbeats 8000000 in
theorem parseHead_no2 (w : World) (sp : Option Addr) (cap m : Nat) (l : List Int) (hm : l.length = m) (hb : Cd.Bytes w sp cap l) (hml : m ≤ 1000000) (a b p : List Int) (hs : Cd.small [a, b, p]) (hj : Cd.join [a, b, p] = l) (cv : Cfg) (e1 e2 : Int)
    (hcf : ∀ W s c, Cd.Bytes W s c a → Calls Try.prog 48 #[.slice s a.length c] W fun e w' => e = .returned (.tuple #[.agg cv.cells, .int .i64 e1]) ∧ Below W.heap.size W w')
    (hpr : ∀ W s c, Cd.Bytes W s c p → Calls Try.prog 49 #[.slice s p.length c] W fun e w' => ∃ sv P cp, e = .returned (.tuple #[.slice sv P cp, .int .i64 e2]) ∧ Below W.heap.size W w') (he : e1 ≠ 0) :
    Calls Try.prog 32 #[.slice sp m cap] w fun e w' => e = .returned (.tuple #[.agg zeroC, .int .i64 11]) ∧ Below w.heap.size w w' := by
  have HC := Lib.hid (fun W (h : Below w.heap.size w W) => split_yes W sp m cap l hm (hb.below h) hml [a, b, p] hs hj)
  have HCf := Lib.hid hcf
  have HPr := Lib.hid hpr
  have hC1 := cfg_one cv
  have hC6 : cv.cells.size = 6 := rfl
  obtain ⟨C, hCe⟩ : ∃ C, cv.cells = C := ⟨_, rfl⟩
  rw [hCe] at HCf hC1 hC6
  have HC1 := Lib.hid hC1
  have HC6 := Lib.hid (show (Try.prog.info? 23).map (·.size) = some C.size by rw [hC6]; exact size_cfg)
  have HC7 := Lib.hid (show (6 : Nat) = C.size from hC6.symm)
  have n1 : (e1 == 0) = false := by simpa using he
  have n2 : (e1 != 0) = true := by simpa using he
  clear he
  clear hm hb hml hs hj hcf hpr hC1 hC6 hCe
  go_enter Try.func32, Try.ntmps32
  go_wp2_with (first
    | (go_at_call 31; refine (HC.out _ ((Below.refl _ _).alloc (Nat.le_refl _) _)).mono ?_; rintro e w2 ⟨A, c9, rfl, hpc, hb2⟩; have hal := (Below.refl w.heap.size w).alloc (Nat.le_refl _) (.cells zeroC 31); have HR := Lib.hid ((hb2.block w.heap.size (by simp)).trans (heap_alloc_new w (.cells zeroC 31))); have HB2 := Lib.hid (hal.trans (hb2.mono hal.size)); obtain ⟨c, o, s0, q0, rfl, k0, b0⟩ := hpc.at_ 0 (by simp); obtain ⟨c', o', s2, q2, ee, k2, b2⟩ := hpc.at_ 2 (by simp); cases ee; have K2 := Lib.hid k2; have B2 := Lib.hid b2; have B0 := Lib.hid b0; simp only [Nat.add_zero] at k0; clear hb2 hal hpc k2 b2 b0)
    | (go_at_call 48; refine (HCf.out _ s0 q0 B0.out).mono ?_; rintro e w3 ⟨rfl, hb3⟩; have hal3 := hb3.trans (((Below.refl w3.heap.size w3).alloc (Nat.le_refl _) (.cells C 23)).mono hb3.size); rw [← World.setRow_alloc_new w3 #[.int .i64 0, .int .i64 0, .int .i64 0, .int .i64 0, .int .i64 0, .int .i64 0] C 23] at hal3; have k2 := (hal3.cell (block_lt_of_cell K2.out)).trans K2.out; have B2' := Lib.hid (B2.out.below hal3); have HR3 := Lib.hid ((hal3.block _ (Array.getElem?_eq_some_iff.1 HR.out).1).trans HR.out); have HB3 := Lib.hid (HB2.out.trans (hal3.mono HB2.out.size)); clear hb3 hal3)
    | (go_at_call 49; refine (HPr.out _ s2 q2 B2'.out).mono ?_; rintro e w4 ⟨sv, P, cp, rfl, hb4⟩; have HR4 := Lib.hid ((hb4.block _ (Array.getElem?_eq_some_iff.1 HR3.out).1).trans HR3.out); have HB4 := Lib.hid (HB3.out.trans (hb4.mono HB3.out.size)); clear hb4)
    | (refine wpList_store_row rfl 23 (.tmp 6) (.tmp 28) rfl w3.heap.size C rfl rfl 23 _ (heap_alloc_new _ _) HC6.out HC7.out HC1.out ?_)
    | (refine wpList_store_row rfl 31 (.tmp 2) (.tmp 43) rfl w.heap.size zeroC rfl rfl 31 _ HR4.out size_wts rfl zeroC_one ?_))
  exact bodyPost_ret (v := .tuple #[.agg zeroC, .int .i64 11]) (results_row_tmp Try.results32 _ _ w.heap.size 31 _ (0, 0) _ _ rfl (setRow_heap _ _ _ _ _ _ HR4.out) Try.underlying31 rfl size_wts rfl) rfl ⟨rfl, Cd.below_setRow HB4.out (Nat.le_refl _) _⟩
set_option maxHeartbeats 8000000 in
theorem parseHead_no3 (w : World) (sp : Option Addr) (cap m : Nat) (l : List Int) (hm : l.length = m) (hb : Cd.Bytes w sp cap l) (hml : m ≤ 1000000) (a b p : List Int) (hs : Cd.small [a, b, p]) (hj : Cd.join [a, b, p] = l) (cv : Cfg) (e1 e2 : Int)
    (hcf : ∀ W s c, Cd.Bytes W s c a → Calls Try.prog 48 #[.slice s a.length c] W fun e w' => e = .returned (.tuple #[.agg cv.cells, .int .i64 e1]) ∧ Below W.heap.size W w')
    (hpr : ∀ W s c, Cd.Bytes W s c p → Calls Try.prog 49 #[.slice s p.length c] W fun e w' => ∃ sv P cp, e = .returned (.tuple #[.slice sv P cp, .int .i64 e2]) ∧ Below W.heap.size W w') (he : e1 = 0) (he2 : e2 ≠ 0) :
    Calls Try.prog 32 #[.slice sp m cap] w fun e w' => e = .returned (.tuple #[.agg zeroC, .int .i64 11]) ∧ Below w.heap.size w w' := by
  have HC := Lib.hid (fun W (h : Below w.heap.size w W) => split_yes W sp m cap l hm (hb.below h) hml [a, b, p] hs hj)
  have HCf := Lib.hid hcf
  have HPr := Lib.hid hpr
  have hC1 := cfg_one cv
  have hC6 : cv.cells.size = 6 := rfl
  obtain ⟨C, hCe⟩ : ∃ C, cv.cells = C := ⟨_, rfl⟩
  rw [hCe] at HCf hC1 hC6
  have HC1 := Lib.hid hC1
  have HC6 := Lib.hid (show (Try.prog.info? 23).map (·.size) = some C.size by rw [hC6]; exact size_cfg)
  have HC7 := Lib.hid (show (6 : Nat) = C.size from hC6.symm)
  have n1 : (e2 == 0) = false := by simpa using he2
  have n2 : (e2 != 0) = true := by simpa using he2
  subst he
  clear he2
  clear hm hb hml hs hj hcf hpr hC1 hC6 hCe
  go_enter Try.func32, Try.ntmps32
  go_wp2_with (first
    | (go_at_call 31; refine (HC.out _ ((Below.refl _ _).alloc (Nat.le_refl _) _)).mono ?_; rintro e w2 ⟨A, c9, rfl, hpc, hb2⟩; have hal := (Below.refl w.heap.size w).alloc (Nat.le_refl _) (.cells zeroC 31); have HR := Lib.hid ((hb2.block w.heap.size (by simp)).trans (heap_alloc_new w (.cells zeroC 31))); have HB2 := Lib.hid (hal.trans (hb2.mono hal.size)); obtain ⟨c, o, s0, q0, rfl, k0, b0⟩ := hpc.at_ 0 (by simp); obtain ⟨c', o', s2, q2, ee, k2, b2⟩ := hpc.at_ 2 (by simp); cases ee; have K2 := Lib.hid k2; have B2 := Lib.hid b2; have B0 := Lib.hid b0; simp only [Nat.add_zero] at k0; clear hb2 hal hpc k2 b2 b0)
    | (go_at_call 48; refine (HCf.out _ s0 q0 B0.out).mono ?_; rintro e w3 ⟨rfl, hb3⟩; have hal3 := hb3.trans (((Below.refl w3.heap.size w3).alloc (Nat.le_refl _) (.cells C 23)).mono hb3.size); rw [← World.setRow_alloc_new w3 #[.int .i64 0, .int .i64 0, .int .i64 0, .int .i64 0, .int .i64 0, .int .i64 0] C 23] at hal3; have k2 := (hal3.cell (block_lt_of_cell K2.out)).trans K2.out; have B2' := Lib.hid (B2.out.below hal3); have HR3 := Lib.hid ((hal3.block _ (Array.getElem?_eq_some_iff.1 HR.out).1).trans HR.out); have HB3 := Lib.hid (HB2.out.trans (hal3.mono HB2.out.size)); clear hb3 hal3)
    | (go_at_call 49; refine (HPr.out _ s2 q2 B2'.out).mono ?_; rintro e w4 ⟨sv, P, cp, rfl, hb4⟩; have HR4 := Lib.hid ((hb4.block _ (Array.getElem?_eq_some_iff.1 HR3.out).1).trans HR3.out); have HB4 := Lib.hid (HB3.out.trans (hb4.mono HB3.out.size)); clear hb4)
    | (refine wpList_store_row rfl 23 (.tmp 6) (.tmp 28) rfl w3.heap.size C rfl rfl 23 _ (heap_alloc_new _ _) HC6.out HC7.out HC1.out ?_)
    | (refine wpList_store_row rfl 31 (.tmp 2) (.tmp 43) rfl w.heap.size zeroC rfl rfl 31 _ HR4.out size_wts rfl zeroC_one ?_))
  exact bodyPost_ret (v := .tuple #[.agg zeroC, .int .i64 11]) (results_row_tmp Try.results32 _ _ w.heap.size 31 _ (0, 0) _ _ rfl (setRow_heap _ _ _ _ _ _ HR4.out) Try.underlying31 rfl size_wts rfl) rfl ⟨rfl, Cd.below_setRow HB4.out (Nat.le_refl _) _⟩
end Go.Proofs.Ytkfkjapkcjidnaa.Wg
namespace Go.Proofs.Ytkfkjapkcjidnaa.Wg
set_option maxRecDepth 100000
open Go.ChangeShapes Go.WideShapes Go.ChangeAt Go.RowKit Go.Shelf Go.Proofs.Ytkfkjapkcjidnaa.Tn
attribute [local go_sem] Oper.semAt_some

/-! ### the first leaf: three pieces that may be -/
/-- a model that has sizes, an alphabet and pairs, and nothing else -/
def headC (c : Cfg) (sa : Option Addr) (na ca : Nat) (sv : Option Addr) (P cp : Nat) : Array Value := #[.int .i64 c.v, .int .i64 c.d, .int .i64 c.h, .int .i64 c.l, .int .i64 c.x, .int .i64 c.i, .slice sa na ca, .slice sv P cp, .int .i64 0, .int .i64 0, .slice none 0 0, .slice none 0 0, .slice none 0 0, .int .i64 0, .int .i64 0, .slice none 0 0]
theorem headC_one (c : Cfg) (sa : Option Addr) (na ca : Nat) (sv : Option Addr) (P cp : Nat) : (headC c sa na ca sv P cp).all (·.oneCell') = true := by kernel_rfl
theorem bytes_setRow {W : World} {sp : Option Addr} {cap g : Nat} {l : List Int} {cs C : Array Value} {t : TypeId} (h : Cd.Bytes W sp cap l) (hg : W.heap[g]? = some (.cells cs t (0, 0))) (hn : ∀ (i : Nat) (x : Int), cs[i]? ≠ some (Value.int .u8 x)) : Cd.Bytes (W.setRow g C) sp cap l := by
  by_cases h0 : 0 < l.length
  · obtain ⟨c, o, e, hl⟩ := h.sl.lies (by simpa using h0)
    have h1 := hl 0 (.int .u8 (l.getD 0 0)) (by simp [h0])
    have hne : c ≠ g := fun e2 => by
      subst e2
      rw [cell_of_row _ _ _ _ _ _ hg] at h1
      exact hn _ _ h1
    have hc := setRow_other W g c C hne
    exact ⟨⟨h.sl.le, h.sl.max, h.sl.nul, fun _ => ⟨c, o, e, fun i v hv => by
      have := hl i v hv
      unfold World.cell? at this ⊢
      simpa only [hc] using this⟩⟩, h.rng⟩
  · exact ⟨⟨h.sl.le, h.sl.max, h.sl.nul, fun h2 => absurd h2 (by simpa using h0)⟩, h.rng⟩
theorem prs_setRow {W : World} {d cap g : Nat} {ps : List (Int × Int)} {C : Array Value} (h : Bp.Prs W (some ⟨d, 0, none⟩) cap ps) (hne : d ≠ g) : Bp.Prs (W.setRow g C) (some ⟨d, 0, none⟩) cap ps :=
  ⟨h.le, h.max, h.nul, fun h0 => by
    obtain ⟨c, o, e, hl⟩ := h.lies h0
    cases e
    have hc := setRow_other W g d C hne
    exact ⟨_, _, rfl, fun k hk j v hv => by
      have := hl k hk j v hv
      unfold World.cell? at this ⊢
      simpa only [hc] using this⟩⟩
theorem zeroC_no (i : Nat) (x : Int) : zeroC[i]? ≠ some (Value.int .u8 x) := by
  intro h
  have hi : i < 16 := (Array.getElem?_eq_some_iff.1 h).1
  rcases i with _ | _ | _ | _ | _ | _ | _ | _ | _ | _ | _ | _ | _ | _ | _ | _ | i
  all_goals first | omega | (simp [zeroC] at h)
theorem size39 : (Try.prog.info? 24).map (·.size) = some 1 := by kernel_rfl
theorem run_buildW (cv : Cfg) (sa : Option Addr) (na ca : Nat) (sv : Option Addr) (P cp : Nat) (W : World) : (Instr.build 31 #[(0, .agg cv.cells), (1, .slice sa na ca), (2, .slice sv P cp)]).run Try.prog W = .ok (.agg (headC cv sa na ca sv P cp)) W := by kernel_rfl
theorem wpList_buildW {w : World} {ops : Array Oper} {rest : List Oper} {o : Oper} {a : Act} {Q : Exit → Act → World → Prop} (hg : o.guard = none) (x y z : Operand) (ho : o.op = .build 31 #[(0, x), (1, y), (2, z)]) (cv : Cfg) (sa : Option Addr) (na ca : Nat) (sv : Option Addr) (P cp : Nat)
    (hx : a.eval x = .agg cv.cells) (hy : a.eval y = .slice sa na ca) (hz : a.eval z = .slice sv P cp) (h : wpList Try.prog ops Q rest (a.put o.dst (.agg (headC cv sa na ca sv P cp))) w) : wpList Try.prog ops Q (o :: rest) a w := by
  refine wpList_plain hg fun K hK => ?_
  unfold Oper.wp
  simp [execOp, ho, hx, hy, hz, run_buildW, Result.andThen]
  exact hK _ _ h
set_option maxHeartbeats 8000000 in
theorem parseHead_ok (w : World) (sp : Option Addr) (cap m : Nat) (l : List Int) (hm : l.length = m) (hb : Cd.Bytes w sp cap l) (hml : m ≤ 1000000) (a b p : List Int) (hs : Cd.small [a, b, p]) (hj : Cd.join [a, b, p] = l) (cv : Cfg) (P : Nat) (ps : List (Int × Int))
    (hcf : ∀ W s c, Cd.Bytes W s c a → Calls Try.prog 48 #[.slice s a.length c] W fun e w' => e = .returned (.tuple #[.agg cv.cells, .int .i64 0]) ∧ Below W.heap.size W w')
    (hpr : ∀ W s c, Cd.Bytes W s c p → Calls Try.prog 49 #[.slice s p.length c] W fun e w' => ∃ b, W.heap.size ≤ b ∧ e = .returned (.tuple #[.slice (some ⟨b, 0, none⟩) P P, .int .i64 0]) ∧ Bp.Prs w' (some ⟨b, 0, none⟩) P ps ∧ Below W.heap.size W w') :
    Calls Try.prog 32 #[.slice sp m cap] w fun e w' => ∃ sa ca d, e = .returned (.tuple #[.agg (headC cv sa b.length ca (some ⟨d, 0, none⟩) P P), .int .i64 0]) ∧ Cd.Bytes w' sa ca b ∧ Bp.Prs w' (some ⟨d, 0, none⟩) P ps ∧ Below w.heap.size w w' ∧ (∃ g, sa = some ⟨g, 0, none⟩ ∧ w.heap.size ≤ g) ∧ w.heap.size ≤ d := by
  have HC := Lib.hid (fun W (h : Below w.heap.size w W) => split_own W sp m cap l hm (hb.below h) hml [a, b, p] hs hj)
  have HCf := Lib.hid hcf
  have HPr := Lib.hid hpr
  have hC1 := cfg_one cv
  have hC6 : cv.cells.size = 6 := rfl
  obtain ⟨C, hCe⟩ : ∃ C, cv.cells = C := ⟨_, rfl⟩
  rw [hCe] at HCf hC1 hC6
  have HCe := Lib.hid hCe
  have HC1 := Lib.hid hC1
  have HC6 := Lib.hid (show (Try.prog.info? 23).map (·.size) = some C.size by rw [hC6]; exact size_cfg)
  have HC7 := Lib.hid (show (6 : Nat) = C.size from hC6.symm)
  clear hm hb hml hs hj hcf hpr hC1 hC6 hCe
  go_enter Try.func32, Try.ntmps32
  go_upto_region 8 with (first
    | (go_at_call 31; refine (HC.out _ ((Below.refl _ _).alloc (Nat.le_refl _) _)).mono ?_; rintro e w2 ⟨A, c9, rfl, hpc, hb2⟩; have hal := (Below.refl w.heap.size w).alloc (Nat.le_refl _) (.cells zeroC 31); have HR := Lib.hid ((hb2.block w.heap.size (by simp)).trans (heap_alloc_new w (.cells zeroC 31))); have HB2 := Lib.hid (hal.trans (hb2.mono hal.size)); obtain ⟨c, o, s0, q0, rfl, k0, b0⟩ := hpc.pieces.at_ 0 (by simp); obtain ⟨c', o', s2, q2, ee, k2, b2⟩ := hpc.pieces.at_ 2 (by simp); cases ee; obtain ⟨c', o', s1, q1, ee, k1, b1, g1, es1, hg1⟩ := hpc.at_ 1 (by simp); cases ee; have HS1 : Hid (∃ g, s1 = some ⟨g, 0, none⟩ ∧ w.heap.size ≤ g) := Lib.hid ⟨g1, es1, Nat.le_trans (by simp) hg1⟩; clear es1 hg1; have K1 := Lib.hid k1; have B1 := Lib.hid b1; have K2 := Lib.hid k2; have B2 := Lib.hid b2; have B0 := Lib.hid b0; simp only [Nat.add_zero] at k0; clear hb2 hal hpc k2 b2 b0 k1 b1)
    | (go_at_call 48; refine (HCf.out _ s0 q0 B0.out).mono ?_; rintro e w3 ⟨rfl, hb3⟩; have hal3 := hb3.trans (((Below.refl w3.heap.size w3).alloc (Nat.le_refl _) (.cells C 23)).mono hb3.size); have HG := Lib.hid (heap_alloc_new w3 (.cells C 23)); rw [← World.setRow_alloc_new w3 #[.int .i64 0, .int .i64 0, .int .i64 0, .int .i64 0, .int .i64 0, .int .i64 0] C 23] at hal3 HG; have k2 := (hal3.cell (block_lt_of_cell K2.out)).trans K2.out; have K1' := Lib.hid ((hal3.cell (block_lt_of_cell K1.out)).trans K1.out); have B1' := Lib.hid (B1.out.below hal3); have B2' := Lib.hid (B2.out.below hal3); have HR3 := Lib.hid ((hal3.block _ (Array.getElem?_eq_some_iff.1 HR.out).1).trans HR.out); have HB3 := Lib.hid (HB2.out.trans (hal3.mono HB2.out.size)); clear hb3 hal3)
    | (go_at_call 49; refine (HPr.out _ s2 q2 B2'.out).mono ?_; rintro e w4 ⟨d, hd, rfl, hp4, hb4⟩; have HD := Lib.hid (Nat.ne_of_gt (Nat.lt_of_lt_of_le (Array.getElem?_eq_some_iff.1 HR3.out).1 hd)); have HDge : Hid (w.heap.size ≤ d) := Lib.hid (Nat.le_of_lt (Nat.lt_of_lt_of_le (Array.getElem?_eq_some_iff.1 HR3.out).1 hd)); clear hd; have HP4 := Lib.hid hp4; have HG4 := Lib.hid ((hb4.block _ (Array.getElem?_eq_some_iff.1 HG.out).1).trans HG.out); have K4 := Lib.hid ((hb4.cell (block_lt_of_cell K1'.out)).trans K1'.out); have B4 := Lib.hid (B1'.out.below hb4); have HR4 := Lib.hid ((hb4.block _ (Array.getElem?_eq_some_iff.1 HR3.out).1).trans HR3.out); have HB4 := Lib.hid (HB3.out.trans (hb4.mono HB3.out.size)); clear hb4 hp4 k2 k0)
    | (refine wpList_store_row rfl 23 (.tmp 6) (.tmp 28) rfl w3.heap.size C rfl rfl 23 _ (heap_alloc_new _ _) HC6.out HC7.out HC1.out ?_))
  refine wp_region_any (by kernel_rfl) (any_quiet_tail (C := fun W => Below w4.heap.size w4 W) 5 (by kernel_rfl) ⟨rfl, rfl, rfl, Nat.le_refl _, fun _ _ => rfl⟩ ?_)
  simp only [List.take_succ_cons, List.take_zero, List.drop_succ_cons, List.drop_zero]
  refine q_val (.agg C) rfl (fun W hW => exec_load_row 23 (.tmp 6) rfl w3.heap.size rfl 23 C (0, 0) _ ((hW.block _ (Array.getElem?_eq_some_iff.1 HG4.out).1).trans HG4.out) Try.underlying23 rfl HC6.out) ?_
  simp only [Act.put, List.setIfInBounds_toArray, List.set_cons_succ, List.set_cons_zero]
  refine q_val (.slice (some ⟨c, o, none⟩) 3 c9) rfl (fun _ _ => by rfl) ?_
  simp only [Act.put, List.setIfInBounds_toArray, List.set_cons_succ, List.set_cons_zero]
  refine q_val (.pointer (some ⟨c, o + 1, none⟩)) rfl (fun _ _ => Bp.exec_at1 39 24 Try.underlying39 size39 (.tmp 45) (.const (.int .i64 1)) rfl c o 3 c9 1 rfl rfl (by omega)) ?_
  simp only [Act.put, List.setIfInBounds_toArray, List.set_cons_succ, List.set_cons_zero]
  refine q_val (.slice s1 b.length q1) rfl (fun W hW => Bp.exec_load1 24 (.tmp 46) rfl ⟨c, o + 1, none⟩ rfl _ ((hW.cell (block_lt_of_cell K4.out)).trans K4.out) _ Try.underlying24 rfl) ?_
  simp only [Act.put, List.setIfInBounds_toArray, List.set_cons_succ, List.set_cons_zero]
  refine q_val (.slice (some ⟨d, 0, none⟩) P P) rfl (fun _ _ => by rfl) ?_
  simp only [Act.put, List.setIfInBounds_toArray, List.set_cons_succ, List.set_cons_zero]
  refine wpQuiet_nil ?_
  intro w5 hw5
  have HR5 := Lib.hid ((hw5.block _ (Array.getElem?_eq_some_iff.1 HR4.out).1).trans HR4.out)
  have HB5 := Lib.hid (HB4.out.trans (hw5.mono HB4.out.size))
  have HBy := Lib.hid (B4.out.below hw5)
  have HPs := Lib.hid (HP4.out.below hw5)
  have hlt := (Array.getElem?_eq_some_iff.1 HR5.out).1
  clear hw5
  refine wpList_buildW rfl (.tmp 44) (.tmp 47) (.tmp 48) rfl cv s1 b.length q1 (some ⟨d, 0, none⟩) P P (by rw [HCe.out]; rfl) rfl rfl ?_
  obtain ⟨H, hH⟩ : ∃ H, headC cv s1 b.length q1 (some ⟨d, 0, none⟩) P P = H := ⟨_, rfl⟩
  have h1 := headC_one cv s1 b.length q1 (some ⟨d, 0, none⟩) P P
  have h16 : (headC cv s1 b.length q1 (some ⟨d, 0, none⟩) P P).size = 16 := rfl
  rw [hH] at h1 h16 ⊢
  have HHs := Lib.hid (show (Try.prog.info? 31).map (·.size) = some H.size by rw [h16]; exact size_wts)
  have HH1 := Lib.hid h1
  have HHz := Lib.hid (show zeroC.size = H.size by rw [h16]; rfl)
  have HHe := Lib.hid hH
  clear h1 h16 hH
  simp only [Act.put, List.setIfInBounds_toArray, List.set_cons_succ, List.set_cons_zero]
  refine wpList_store_row rfl 31 (.tmp 2) (.tmp 49) rfl w.heap.size H rfl rfl 31 _ HR5.out HHs.out HHz.out HH1.out ?_
  go_wp2
  exact bodyPost_ret (v := .tuple #[.agg H, .int .i64 0]) (results_row_tmp Try.results32 _ _ w.heap.size 31 _ (0, 0) _ _ rfl (setRow_heap _ _ _ _ _ _ HR5.out) Try.underlying31 rfl HHs.out rfl) rfl ⟨s1, q1, d, by rw [HHe.out], bytes_setRow HBy.out HR5.out zeroC_no, prs_setRow HPs.out HD.out, Cd.below_setRow HB5.out (Nat.le_refl _) _, HS1.out, HDge.out⟩
end Go.Proofs.Ytkfkjapkcjidnaa.Wg
