import Derived.Test.YtighmhoekbnagaaDoorRb
import Derived.Test.YtighmhoekbnagaaDoorSl
namespace Go.Proofs.YtighmhoekbnagaaDoor
open Go.ChangeShapes Go.WideShapes Go.ChangeAt Go.RowKit

theorem few_smal {ls : List (List Int)} (h : few ls = true) (hr : ∀ l ∈ ls, rng l) : Smal ls := by
  obtain ⟨h1, h2⟩ := few_yes h
  exact ⟨by omega, h1, hr⟩
theorem exec_pc_at {a : Act} {o : Oper} {W : World} (x y : Operand) (ho : o.op = .indexAddr 22 x y) (c k n cap i : Nat) (hx : a.eval x = .slice (some ⟨c, k, none⟩) n cap) (hy : a.eval y = .int .i64 (i : Int)) (hi : i < n) : (execOp a.eval o).run Tryd.prog W = .ok (.value (.pointer (some ⟨c, k + i, none⟩))) W := by
  have hadd := add_plain c k i
  cases hq : Tryd.prog.info? 28 with
  | none => have := size28; simp [hq] at this
  | some j =>
    have hj : j.size = 1 := by have := size28; simpa [hq] using this
    unfold execOp
    simp [ho, hx, hy, Instr.indexAt, asIntOf, run_underlying Tryd.underlying22, sizeOf, typeInfo, hq, hj, hi, hadd]
theorem Stood.two (w : World) (a b : List Int) : Stood w [(w.heap.size, a), (w.heap.size + 1, b)] ((w.alloc (.cells (rowB a) 24)).alloc (.cells (rowB b) 24)) := by
  refine ⟨((Below.refl _ _).alloc (Nat.le_refl _) _).alloc (by simp) _, fun x hx => ?_⟩
  rcases List.mem_cons.1 hx with rfl | hx
  · exact (Below.heap_alloc _ _ _ (by simp)).trans (heap_alloc_new _ _)
  · rcases List.mem_singleton.1 hx with rfl
    have := heap_alloc_new (w.alloc (.cells (rowB a) 24)) (.cells (rowB b) 24)
    simp only [World.size_alloc] at this
    exact this
set_option maxRecDepth 100000 in
set_option maxHeartbeats 4000000 in
theorem roots_few (w : World) (sp : Option Addr) (n cap : Nat) (ls : List (List Int)) (a b : List Int) (hn : ls.length = n) (hP : Pcs w sp cap ls) (he : Env w) (hf : few ls = false) :
    Calls Tryd.prog 3 #[.slice sp n cap, .agg (rowB a), .agg (rowB b)] w fun e w' => e = .returned (.bool true) ∧ Below w.heap.size w w' := by
  have HE := Lib.hid he
  have HF := Lib.hid (fun W (hb : Below w.heap.size w W) => few_any W sp n cap ls hn (hP.below hb))
  rw [hf] at HF
  clear hn hP he hf
  go_enter Tryd.func3, Tryd.ntmps3
  go_upto_region 1 with fail
  refine gen_world (Q := fun w => Code.wp _ _ _ _ w) _ (Stood w [(w.heap.size, a), (w.heap.size + 1, b)]) (Stood.two w a b) ?_
  intro w1 h1
  have H1 := Lib.hid h1
  clear h1
  go_wp2_with (first
    | (go_at_call 9; refine (HF.out _ H1.out.below).mono ?_; rintro e w' ⟨rfl, q, rfl⟩; have H2 := Lib.hid (H1.out.later (below_drewN (Below.refl _ _) q)))
    | (go_at_call 10; refine (awake_any _ (HE.out.below H2.out.below)).mono ?_; rintro e w' ⟨rfl, hb⟩; have H3 := Lib.hid (H2.out.later hb)))
  go_ret
  exact ⟨rfl, H3.out.below⟩
set_option maxRecDepth 100000 in
set_option maxHeartbeats 4000000 in
theorem roots_many (w : World) (sp : Option Addr) (n cap : Nat) (ls : List (List Int)) (a b : List Int) (hn : ls.length = n) (hP : Pcs w sp cap ls) (he : Env w) (hf : few ls = true) (hr : ∀ l ∈ ls, rng l)
    (ha : a.length = 32) (hb : b.length = 32) (ra : rng a) (rb : rng b) :
    Calls Tryd.prog 3 #[.slice sp n cap, .agg (rowB a), .agg (rowB b)] w fun e w' => e = .returned (.bool true) ∧ Below w.heap.size w w' := by
  have hn20 : n ≤ 20 := by rw [← hn]; exact (few_yes hf).2
  have HS : Hid (Smal ls) := few_smal hf hr
  have HM : Hid (Mild ls) := few_mild hf
  have HE := Lib.hid he
  have HF := Lib.hid (fun W (hb : Below w.heap.size w W) => few_any W sp n cap ls hn (hP.below hb))
  have HP := Lib.hid hP
  have HN := Lib.hid hn
  have HNn := Lib.hid (fun W (hB : Below w.heap.size w W) => node_any W a b ha hb (he.below hB))
  have HNr := Lib.hid (fun W => refNode_any block_any W a b ha hb ra rb)
  have za := row_dig ha
  have zb := row_dig hb
  rw [hf] at HF
  clear hn hP he hf hr ha hb ra rb
  go_enter Tryd.func3, Tryd.ntmps3
  go_upto_region 1 with fail
  refine gen_world (Q := fun w => Code.wp _ _ _ _ w) _ (Stood w [(w.heap.size, a), (w.heap.size + 1, b)]) (Stood.two w a b) ?_
  intro w1 h1
  have H1 := Lib.hid h1
  clear h1
  go_wp2_with (go_at_call 9; refine (HF.out _ H1.out.below).mono ?_; rintro e w' ⟨rfl, q, rfl⟩; have H2 := Lib.hid (H1.out.later (below_drewN (Below.refl _ _) q)))
  go_loopw [7] (fun i wr => ∃ k : Nat, k ≤ n ∧ i = .int .i64 k ∧ Stood w [(w.heap.size, a), (w.heap.size + 1, b)] wr) (fun i _ => n - (intOf i).toNat)
  case atStart => exact ⟨0, by omega, rfl, H2.out⟩
  case round =>
    rename_i wr
    obtain ⟨k, hk, rfl, hs⟩ := hrel
    have HT := Lib.hid hs
    clear hs
    by_cases hlt : k < n
    · have hdt : decide (k < n) = true := by simp; omega
      obtain ⟨c, o, s2, c2, rfl, hc, hby⟩ := HP.out.at_ k (by rw [HN.out]; exact hlt)
      have hmem : ls.getD k [] ∈ ls := getD_mem ls k (by rw [HN.out]; exact hlt)
      have h100 := HS.out.long _ hmem
      have hrg := HS.out.rng _ hmem
      obtain ⟨l, hl⟩ : ∃ l, ls.getD k [] = l := ⟨_, rfl⟩
      rw [hl] at hc hby h100 hrg
      clear hmem hl
      obtain ⟨m, hm⟩ : ∃ m, l.length = m := ⟨_, rfl⟩
      rw [hm] at hc h100
      go_wp2
      have hw : ∀ W, Below wr.heap.size wr W → Below w.heap.size w W := fun W hB => (HT.out.later hB).below
      have hC2 : ∀ W, Below wr.heap.size wr W → W.cell? ⟨c, o + k, none⟩ = some (.slice s2 m c2) ∧ True := fun W hB => ⟨((hw W hB).cell (block_lt_of_cell hc)).trans hc, trivial⟩
      have HL1 := Lib.hid (fun W (hB : Below wr.heap.size wr W) => leaf_any W s2 m c2 l hm (hby.below (hw W hB)) (HE.out.below (hw W hB)) (by omega))
      have HL2 := Lib.hid (fun W (hB : Below wr.heap.size wr W) => refLeaf_any block_any W s2 m c2 l hm (hby.below (hw W hB)) h100 hrg)
      have hl32 := leafD_length l
      obtain ⟨X, hX⟩ : ∃ X, leafD l = X := ⟨_, rfl⟩
      rw [hX] at HL1 HL2 hl32
      have eR : ∀ W : World, (binOp .neq 24 (.agg (rowB X)) (.agg (rowB X))).run Tryd.prog W = .ok (.bool false) W := fun W => by
        rw [run_neq_row (P := Tryd.prog) 24 5 32 .u8 Tryd.underlying24 Tryd.underlying5 size5 X X hl32 hl32 W]
        simp
      clear hX hl32 hby hrg hc
      refine wp_region_quiet_tail (C := fun W => Below wr.heap.size wr W) 10 (by kernel_rfl) (by kernel_rfl) ⟨rfl, rfl, rfl, Nat.le_refl _, fun _ _ => rfl⟩ ?_
      simp only [List.take_succ_cons, List.take_zero, List.drop_succ_cons, List.drop_zero]
      refine q_val _ rfl (fun _ _ => rfl) ?_
      simp only [Act.put, List.setIfInBounds_toArray, List.set_cons_succ, List.set_cons_zero]
      refine q_val _ rfl (fun _ _ => rfl) ?_
      simp only [Act.put, List.setIfInBounds_toArray, List.set_cons_succ, List.set_cons_zero]
      refine q_val (.pointer (some ⟨c, o + k, none⟩)) rfl (fun W hW => exec_pc_at (.tmp 18) (.tmp 19) rfl c o n cap k rfl rfl hlt) ?_
      simp only [Act.put, List.setIfInBounds_toArray, List.set_cons_succ, List.set_cons_zero]
      refine q_val (.slice s2 m c2) rfl (fun W hW => exec_load1 28 (.tmp 20) rfl ⟨c, o + k, none⟩ rfl _ ((hC2 W hW).1) _ Tryd.underlying28 rfl) ?_
      simp only [Act.put, List.setIfInBounds_toArray, List.set_cons_succ, List.set_cons_zero]
      refine q_call 11 #[.slice s2 m c2] (.agg (rowB X)) rfl (fun _ _ => exec_call1 11 (.tmp 21) #[28] _ rfl rfl (cfLeaf _ _)) (fun W hW => (HL1.out W hW).mono fun e W' h => ⟨h.1, hW.trans (h.2.mono hW.size)⟩) ?_
      simp only [Act.put, List.setIfInBounds_toArray, List.set_cons_succ, List.set_cons_zero]
      refine q_val _ rfl (fun _ _ => rfl) ?_
      simp only [Act.put, List.setIfInBounds_toArray, List.set_cons_succ, List.set_cons_zero]
      refine q_val _ rfl (fun _ _ => rfl) ?_
      simp only [Act.put, List.setIfInBounds_toArray, List.set_cons_succ, List.set_cons_zero]
      refine q_val (.pointer (some ⟨c, o + k, none⟩)) rfl (fun W hW => exec_pc_at (.tmp 23) (.tmp 24) rfl c o n cap k rfl rfl hlt) ?_
      simp only [Act.put, List.setIfInBounds_toArray, List.set_cons_succ, List.set_cons_zero]
      refine q_val (.slice s2 m c2) rfl (fun W hW => exec_load1 28 (.tmp 25) rfl ⟨c, o + k, none⟩ rfl _ ((hC2 W hW).1) _ Tryd.underlying28 rfl) ?_
      simp only [Act.put, List.setIfInBounds_toArray, List.set_cons_succ, List.set_cons_zero]
      refine q_call 12 #[.slice s2 m c2] (.agg (rowB X)) rfl (fun _ _ => exec_call1 12 (.tmp 26) #[28] _ rfl rfl (cfRefLeaf _ _)) (fun W hW => (HL2.out W hW).mono fun e W' h => ⟨h.1, hW.trans (h.2.mono hW.size)⟩) ?_
      simp only [Act.put, List.setIfInBounds_toArray, List.set_cons_succ, List.set_cons_zero]
      refine wpQuiet_nil ?_
      intro w2 hw2
      have HT2 := Lib.hid (HT.out.later hw2)
      clear hw2 hw hC2 HL1 HL2
      go_wp2
      go_roundw
      case rel => exact ⟨k + 1, by omega, by go_num, HT2.out⟩
      case measure => simp [intOf]; omega
    obtain rfl : k = n := by omega
    have hdf : decide (k < k) = false := by simp
    go_wp2
    obtain ⟨w6, hw6⟩ : ∃ x, wr = x := ⟨_, rfl⟩
    rw [hw6] at HT ⊢
    have HS6 := HT
    have dA : ∀ W, Below w6.heap.size w6 W → Dg W w.heap.size a := fun W hb => (HS6.out.later hb).all (w.heap.size, a) (by simp)
    have dB : ∀ W, Below w6.heap.size w6 W → Dg W (w.heap.size + 1) b := fun W hb => (HS6.out.later hb).all (w.heap.size + 1, b) (by simp)
    have HRt := Lib.hid (fun W (hb : Below w6.heap.size w6 W) => root_any W sp k cap ls HN.out (HP.out.below (HS6.out.later hb).below) (HE.out.below (HS6.out.later hb).below) HM.out)
    have HRr := Lib.hid (fun W (hb : Below w6.heap.size w6 W) => refRoot_any block_any W sp k cap ls HN.out (HP.out.below (HS6.out.later hb).below) HS.out)
    have HAw := Lib.hid (fun W (hb : Below w6.heap.size w6 W) => awake_any W (HE.out.below (HS6.out.later hb).below))
    have HNn := Lib.hid (fun W (hb : Below w6.heap.size w6 W) => HNn.out W (HS6.out.later hb).below)
    have HNr := Lib.hid (fun W (_ : Below w6.heap.size w6 W) => HNr.out W)
    have hR := rootD_length ls
    have hF := nodeD_length a b
    obtain ⟨R, hR'⟩ : ∃ R, rootD ls = R := ⟨_, rfl⟩
    obtain ⟨F, hF'⟩ : ∃ R, nodeD a b = R := ⟨_, rfl⟩
    rw [hR'] at HRt HRr hR
    rw [hF'] at HNn HNr hF
    have HRl := Lib.hid hR
    have HFl := Lib.hid hF
    clear hR' hF' hR hF
    refine wp_region_spec (C := fun W => Below w6.heap.size w6 W) (Le := Lk) 17 (fun j _ v => v = ([.slice sp k cap, .agg (rowB R), .slice sp k cap, .agg (rowB R), .bool true, .bool true, .agg (rowB a), .agg (rowB b), .agg (rowB F), .agg (rowB a), .agg (rowB b), .agg (rowB F), .bool true, .bool true, .bool true, .bool true, .bool true] : List Value).getD j undef) (by kernel_rfl) (by kernel_rfl) ⟨rfl, rfl, rfl, Nat.le_refl _, fun _ _ => rfl⟩ (fun _ _ _ _ _ h => h) (fun j v => v = ([.slice sp k cap, .agg (rowB R), .slice sp k cap, .agg (rowB R), .bool true, .bool true, .agg (rowB a), .agg (rowB b), .agg (rowB F), .agg (rowB a), .agg (rowB b), .agg (rowB F), .bool true, .bool true, .bool true, .bool true, .bool true] : List Value).getD j undef) (fun _ _ _ h => h) (fun j => ([.slice sp k cap, .agg (rowB R), .slice sp k cap, .agg (rowB R), .bool true, .bool true, .agg (rowB a), .agg (rowB b), .agg (rowB F), .agg (rowB a), .agg (rowB b), .agg (rowB F), .bool true, .bool true, .bool true, .bool true, .bool true] : List Value).getD j undef) (fun _ => rfl) ?_ ?_
    · intro u hu
      have h0 : u 0 = .slice sp k cap := hu 0
      have h1 : u 1 = .agg (rowB R) := hu 1
      have h2 : u 2 = .slice sp k cap := hu 2
      have h3 : u 3 = .agg (rowB R) := hu 3
      have h4 : u 4 = .bool true := hu 4
      have h5 : u 5 = .bool true := hu 5
      have h6 : u 6 = .agg (rowB a) := hu 6
      have h7 : u 7 = .agg (rowB b) := hu 7
      have h8 : u 8 = .agg (rowB F) := hu 8
      have h9 : u 9 = .agg (rowB a) := hu 9
      have h10 : u 10 = .agg (rowB b) := hu 10
      have h11 : u 11 = .agg (rowB F) := hu 11
      have h12 : u 12 = .bool true := hu 12
      have h13 : u 13 = .bool true := hu 13
      have h14 : u 14 = .bool true := hu 14
      have h15 : u 15 = .bool true := hu 15
      have h16 : u 16 = .bool true := hu 16
      clear hu
      simp only [List.take_succ_cons, List.take_zero]
      refine spec_cons (fun W hC hd => ⟨by rfl, ?_⟩) ?_
      · exact gives_val _ W (rfl) ⟨hC, lk_refl W, rfl⟩
      simp only [Act.put, List.setIfInBounds_toArray, List.set_cons_succ, List.set_cons_zero, Nat.reduceAdd]
      rw [h0]
      refine spec_cons (fun W hC hd => ⟨by rfl, ?_⟩) ?_
      · exact gives_call _ _ (exec_call1 13 (.tmp 29) #[22] _ rfl rfl (cfRoot _ _)) ((HRt.out W hC).mono fun e W' h => ⟨_, h.1, hC.trans (h.2.mono hC.size), Lk.of_below h.2, rfl⟩)
      simp only [Act.put, List.setIfInBounds_toArray, List.set_cons_succ, List.set_cons_zero, Nat.reduceAdd]
      rw [h1]
      refine spec_cons (fun W hC hd => ⟨by rfl, ?_⟩) ?_
      · exact gives_val _ W (rfl) ⟨hC, lk_refl W, rfl⟩
      simp only [Act.put, List.setIfInBounds_toArray, List.set_cons_succ, List.set_cons_zero, Nat.reduceAdd]
      rw [h2]
      refine spec_cons (fun W hC hd => ⟨by rfl, ?_⟩) ?_
      · exact gives_call _ _ (exec_call1 14 (.tmp 31) #[22] _ rfl rfl (cfRefRoot _ _)) ((HRr.out W hC).mono fun e W' h => ⟨_, h.1, hC.trans (h.2.mono hC.size), Lk.of_below h.2, rfl⟩)
      simp only [Act.put, List.setIfInBounds_toArray, List.set_cons_succ, List.set_cons_zero, Nat.reduceAdd]
      rw [h3]
      refine spec_cons (fun W hC hd => ⟨by rfl, ?_⟩) ?_
      · exact gives_val _ W (exec_eqD (.tmp 30) (.tmp 32) rfl R R rfl rfl HRl.out HRl.out) ⟨hC, lk_refl W, by simp⟩
      simp only [Act.put, List.setIfInBounds_toArray, List.set_cons_succ, List.set_cons_zero, Nat.reduceAdd]
      rw [h4]
      refine spec_cons (fun W hC hd => ⟨by rfl, ?_⟩) ?_
      · exact gives_val _ W (rfl) ⟨hC, lk_refl W, rfl⟩
      simp only [Act.put, List.setIfInBounds_toArray, List.set_cons_succ, List.set_cons_zero, Nat.reduceAdd]
      rw [h5]
      refine spec_cons (fun W hC hd => ⟨by rfl, ?_⟩) ?_
      · exact gives_val _ W (exec_load_row 24 (.tmp 4) rfl w.heap.size rfl 24 (rowB a) (0, 0) _ (dA W hC) Tryd.underlying24 rfl za) ⟨hC, lk_refl W, rfl⟩
      simp only [Act.put, List.setIfInBounds_toArray, List.set_cons_succ, List.set_cons_zero, Nat.reduceAdd]
      rw [h6]
      refine spec_cons (fun W hC hd => ⟨by rfl, ?_⟩) ?_
      · exact gives_val _ W (exec_load_row 24 (.tmp 5) rfl (w.heap.size + 1) rfl 24 (rowB b) (0, 0) _ (dB W hC) Tryd.underlying24 rfl zb) ⟨hC, lk_refl W, rfl⟩
      simp only [Act.put, List.setIfInBounds_toArray, List.set_cons_succ, List.set_cons_zero, Nat.reduceAdd]
      rw [h7]
      refine spec_cons (fun W hC hd => ⟨by rfl, ?_⟩) ?_
      · exact gives_call _ _ (exec_call2 15 (.tmp 35) (.tmp 36) #[24, 24] _ _ rfl rfl rfl (cfNode _ _)) ((HNn.out W hC).mono fun e W' h => ⟨_, h.1, hC.trans (h.2.mono hC.size), Lk.of_below h.2, rfl⟩)
      simp only [Act.put, List.setIfInBounds_toArray, List.set_cons_succ, List.set_cons_zero, Nat.reduceAdd]
      rw [h8]
      refine spec_cons (fun W hC hd => ⟨by rfl, ?_⟩) ?_
      · exact gives_val _ W (exec_load_row 24 (.tmp 4) rfl w.heap.size rfl 24 (rowB a) (0, 0) _ (dA W hC) Tryd.underlying24 rfl za) ⟨hC, lk_refl W, rfl⟩
      simp only [Act.put, List.setIfInBounds_toArray, List.set_cons_succ, List.set_cons_zero, Nat.reduceAdd]
      rw [h9]
      refine spec_cons (fun W hC hd => ⟨by rfl, ?_⟩) ?_
      · exact gives_val _ W (exec_load_row 24 (.tmp 5) rfl (w.heap.size + 1) rfl 24 (rowB b) (0, 0) _ (dB W hC) Tryd.underlying24 rfl zb) ⟨hC, lk_refl W, rfl⟩
      simp only [Act.put, List.setIfInBounds_toArray, List.set_cons_succ, List.set_cons_zero, Nat.reduceAdd]
      rw [h10]
      refine spec_cons (fun W hC hd => ⟨by rfl, ?_⟩) ?_
      · exact gives_call _ _ (exec_call2 16 (.tmp 38) (.tmp 39) #[24, 24] _ _ rfl rfl rfl (cfRefNode _ _)) ((HNr.out W hC).mono fun e W' h => ⟨_, h.1, hC.trans (h.2.mono hC.size), Lk.of_below h.2, rfl⟩)
      simp only [Act.put, List.setIfInBounds_toArray, List.set_cons_succ, List.set_cons_zero, Nat.reduceAdd]
      rw [h11]
      refine spec_cons (fun W hC hd => ⟨by rfl, ?_⟩) ?_
      · exact gives_val _ W (exec_eqD (.tmp 37) (.tmp 40) rfl F F rfl rfl HFl.out HFl.out) ⟨hC, lk_refl W, by simp⟩
      simp only [Act.put, List.setIfInBounds_toArray, List.set_cons_succ, List.set_cons_zero, Nat.reduceAdd]
      rw [h12]
      refine spec_cons (fun W hC hd => ⟨by rfl, ?_⟩) ?_
      · exact gives_val _ W (rfl) ⟨hC, lk_refl W, rfl⟩
      simp only [Act.put, List.setIfInBounds_toArray, List.set_cons_succ, List.set_cons_zero, Nat.reduceAdd]
      rw [h13]
      refine spec_cons (fun W hC hd => ⟨by rfl, ?_⟩) ?_
      · exact gives_val _ W (rfl) ⟨hC, lk_refl W, rfl⟩
      simp only [Act.put, List.setIfInBounds_toArray, List.set_cons_succ, List.set_cons_zero, Nat.reduceAdd]
      rw [h14]
      refine spec_cons (fun W hC hd => ⟨by rfl, ?_⟩) ?_
      · exact gives_call _ _ (exec_call0 10 #[] rfl (cfAwake _ _)) ((HAw.out W hC).mono fun e W' h => ⟨_, h.1, hC.trans (h.2.mono hC.size), Lk.of_below h.2, rfl⟩)
      simp only [Act.put, List.setIfInBounds_toArray, List.set_cons_succ, List.set_cons_zero, Nat.reduceAdd]
      rw [h15]
      refine spec_cons (fun W hC hd => ⟨by rfl, ?_⟩) ?_
      · exact gives_val _ W (rfl) ⟨hC, lk_refl W, rfl⟩
      simp only [Act.put, List.setIfInBounds_toArray, List.set_cons_succ, List.set_cons_zero, Nat.reduceAdd]
      rw [h16]
      exact spec_nil
    · intro u W hu hC _
      have h16 : u 16 = .bool true := hu 16
      simp only [List.take_succ_cons, List.take_zero, List.drop_succ_cons, List.drop_zero, putAll, Act.put, List.setIfInBounds_toArray, List.set_cons_succ, List.set_cons_zero, Nat.reduceAdd]
      rw [h16]
      have HW := Lib.hid (HS6.out.later hC).below
      clear hu h16 hC HRt HRr HNn HNr HAw dA dB
      go_wp2
      go_ret
      exact ⟨rfl, HW.out⟩
theorem roots_walk (w : World) (sp : Option Addr) (n cap : Nat) (ls : List (List Int)) (a b : List Int) (hn : ls.length = n) (hP : Pcs w sp cap ls) (he : Env w) (hr : ∀ l ∈ ls, rng l) (ha : a.length = 32) (hb : b.length = 32) (ra : rng a) (rb : rng b) :
    Calls Tryd.prog 3 #[.slice sp n cap, .agg (rowB a), .agg (rowB b)] w fun e w' => e = .returned (.bool true) ∧ Below w.heap.size w w' := by
  by_cases hf : few ls = true
  · exact roots_many w sp n cap ls a b hn hP he hf hr ha hb ra rb
  · exact roots_few w sp n cap ls a b hn hP he (by simpa using hf)
end Go.Proofs.YtighmhoekbnagaaDoor
