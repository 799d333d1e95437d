import Derived.Test.YtighmhoekbnagabDoorNh
namespace Go.Proofs.YtighmhoekbnagabDoor
open Go.ChangeShapes Go.WideShapes Go.ChangeAt Go.RowKit

set_option maxRecDepth 100000 in
set_option maxHeartbeats 4000000 in
theorem splits_few (w : World) (sp : Option Addr) (n cap : Nat) (i : Int) (ls : List (List Int)) (hn : ls.length = n) (hP : Pcs w sp cap ls) (he : Env w) (hf : few ls = false) :
    Calls Tryd.prog 3 #[.slice sp n cap, .int .i64 i] w fun e w' => e = .returned (.bool true) ∧ Below w.heap.size w w' := by
  have HF := Lib.hid (few_any w sp n cap ls hn hP)
  have HE := Lib.hid he
  rw [hf] at HF
  clear hn hP he hf
  go_enter Tryd.func3, Tryd.ntmps3
  go_wp2_with (first
    | (go_at_call 4; refine HF.out.mono ?_; rintro e w' ⟨rfl, q, rfl⟩)
    | (go_at_call 5; refine (awake_any _ (HE.out.below (below_drewN (Below.refl _ _) q))).mono ?_; rintro e w' ⟨rfl, hb⟩))
  go_ret
  exact ⟨rfl, (below_drewN (Below.refl _ _) q).trans hb⟩
set_option maxRecDepth 100000 in
set_option maxHeartbeats 4000000 in
theorem splits_one (w : World) (sp : Option Addr) (n cap : Nat) (i : Int) (ls : List (List Int)) (hn : ls.length = n) (hP : Pcs w sp cap ls) (he : Env w) (hf : few ls = true) (h2 : n < 2) :
    Calls Tryd.prog 3 #[.slice sp n cap, .int .i64 i] w fun e w' => e = .returned (.bool true) ∧ Below w.heap.size w w' := by
  have HF := Lib.hid (few_any w sp n cap ls hn hP)
  have HE := Lib.hid he
  rw [hf] at HF
  clear hn hP he hf
  have hd : decide ((n : Int) < 2) = true := by simp; omega
  go_enter Tryd.func3, Tryd.ntmps3
  go_wp2_with (first
    | (go_at_call 4; refine HF.out.mono ?_; rintro e w' ⟨rfl, q, rfl⟩)
    | (go_at_call 5; refine (awake_any _ (HE.out.below (below_drewN (Below.refl _ _) q))).mono ?_; rintro e w' ⟨rfl, hb⟩))
  go_ret
  exact ⟨rfl, (below_drewN (Below.refl _ _) q).trans hb⟩
set_option maxRecDepth 100000 in
set_option maxHeartbeats 4000000 in
theorem splits_many (w : World) (sp : Option Addr) (n cap : Nat) (i : Int) (ls : List (List Int)) (hn : ls.length = n) (hP : Pcs w sp cap ls) (he : Env w) (hf : few ls = true) (h2 : ¬ n < 2) (hi0 : -9223372036854775808 ≤ i) (hi1 : i ≤ 9223372036854775807) :
    Calls Tryd.prog 3 #[.slice sp n cap, .int .i64 i] w fun e w' => e = .returned (.bool true) ∧ Below w.heap.size w w' := by
  have HF := Lib.hid (few_any w sp n cap ls hn hP)
  have hn20 : n ≤ 20 := by rw [← hn]; exact (few_yes hf).2
  have HM : Hid (Mild ls) := few_mild hf
  have HE := Lib.hid he
  have HN := Lib.hid hn
  have HP := Lib.hid hP
  rw [hf] at HF
  clear hn hP he hf
  have hd : decide ((n : Int) < 2) = false := by simp; omega
  go_enter Tryd.func3, Tryd.ntmps3
  go_wp2_with (first
    | (go_at_call 4; refine HF.out.mono ?_; rintro e w' ⟨rfl, q, rfl⟩))
  go_loopw [5] (fun v wr => ∃ k : Nat, (∃ h, 2 ^ h = k) ∧ k < n ∧ v = .int .i64 k ∧ ∃ q, wr = w.drewN q) (fun v _ => n - (intOf v).toNat)
  case atStart => exact ⟨1, ⟨0, rfl⟩, by omega, rfl, q, rfl⟩
  case round =>
    obtain ⟨k, hp, hk, rfl, q', rfl⟩ := hrel
    have HPw := Lib.hid hp
    have hk0 : 0 < k := by obtain ⟨h, rfl⟩ := hp; exact pow_pos2 h
    clear hp
    by_cases hlt : k * 2 < n
    · have hdt : decide ((k : Int) * 2 < (n : Int)) = true := by simp; omega
      go_wp2_with fail
      go_roundw
      case rel => exact ⟨k * 2, by obtain ⟨h, hh⟩ := HPw.out; exact ⟨h + 1, by rw [Nat.pow_succ, hh]⟩, by omega, by go_num, _, rfl⟩
      case measure => simp [intOf]; omega
    · have hdt : decide ((k : Int) * 2 < (n : Int)) = false := by simp; omega
      obtain ⟨h, hh⟩ := HPw.out
      have hsp := rootD_split ls h (by rw [HN.out]; omega) (by rw [HN.out, Nat.pow_succ]; omega)
      have hpv := fun j => proofD_split j ls h (by rw [HN.out]; omega) (by rw [HN.out, Nat.pow_succ]; omega)
      rw [hh] at hsp
      simp only [hh] at hpv
      clear hh HPw
      have hcap : n ≤ cap := by have := HP.out.le; rw [HN.out] at this; exact this
      have hl1 : (ls.take k).length = k := by rw [List.length_take, HN.out]; omega
      have hl2 : (ls.drop k).length = n - k := by rw [List.length_drop, HN.out]
      have hP1 := HP.out.first k
      have hP2 := HP.out.cut k (by rw [HN.out]; omega)
      have hm1 := HM.out.take k
      have hm2 := HM.out.drop k
      obtain ⟨A, hA⟩ : ∃ A, ls.take k = A := ⟨_, rfl⟩
      obtain ⟨B, hB⟩ : ∃ B, ls.drop k = B := ⟨_, rfl⟩
      rw [hA, hB] at hsp
      simp only [hA, hB] at hpv
      rw [hA] at hl1 hP1 hm1
      rw [hB] at hl2 hP2 hm2
      have HI1 := Lib.hid (fun W (hb : Below w.heap.size w W) => root_any W sp k cap A hl1 (hP1.below hb) (HE.out.below hb) hm1)
      have HI2 := Lib.hid (fun W (hb : Below w.heap.size w W) => root_any W (cutA sp cap k) (n - k) (cap - k) B hl2 (hP2.below hb) (HE.out.below hb) hm2)
      have HRt := Lib.hid (fun W (hb : Below w.heap.size w W) => root_any W sp n cap ls HN.out (HP.out.below hb) (HE.out.below hb) HM.out)
      have HN1 := Lib.hid (fun W (hb : Below w.heap.size w W) => node_any W (rootD A) (rootD B) (rootD_length A) (rootD_length B) (HE.out.below hb))
      have HQ1 := Lib.hid (fun j (hj : j < k) W (hb : Below w.heap.size w W) => prove_yes j W sp k cap A hl1 (hP1.below hb) (HE.out.below hb) hm1 hj)
      have HQ2 := Lib.hid (fun j (hj : j < n - k) W (hb : Below w.heap.size w W) => prove_yes j W (cutA sp cap k) (n - k) (cap - k) B hl2 (hP2.below hb) (HE.out.below hb) hm2 hj)
      have HQ := Lib.hid (fun j (hj : j < n) W (hb : Below w.heap.size w W) => prove_yes j W sp n cap ls HN.out (HP.out.below hb) (HE.out.below hb) HM.out hj)
      have HC1 := Lib.hid (run_head 22 35 Tryd.underlying22 size28 sp n cap k (by omega))
      have HC2 := Lib.hid (run_cut 22 35 Tryd.underlying22 size28 sp n cap k (by omega))
      rw [hsp] at HRt
      have h1 := rootD_length A
      have h2' := rootD_length B
      have hF := nodeD_length (rootD A) (rootD B)
      clear hsp hP1 hP2 hm1 hm2 hl1 hl2 hA hB
      obtain ⟨R1, hR1⟩ : ∃ R, rootD A = R := ⟨_, rfl⟩
      obtain ⟨R2, hR2⟩ : ∃ R, rootD B = R := ⟨_, rfl⟩
      rw [hR1, hR2] at HN1 HRt hF
      rw [hR1] at HI1 h1
      rw [hR2] at HI2 h2'
      simp only [hR1, hR2] at hpv
      clear hR1 hR2
      obtain ⟨F, hF'⟩ : ∃ R, nodeD R1 R2 = R := ⟨_, rfl⟩
      rw [hF'] at HN1 HRt hF
      clear hF'
      have HPV := Lib.hid hpv
      clear hpv
      have HZ1 := Lib.hid (row_dig h1)
      have HY1 := Lib.hid (row_dig0 h1)
      have HX1 := Lib.hid (rowB_one R1)
      have HZ2 := Lib.hid (row_dig h2')
      have HY2 := Lib.hid (row_dig0 h2')
      have HX2 := Lib.hid (rowB_one R2)
      have H1 := Lib.hid h1
      have H2 := Lib.hid h2'
      have H3 := Lib.hid hF
      clear h1 h2' hF
      go_upto_region 6 with fail
      refine gen_world (Q := fun w => Code.wp _ _ _ _ w) _ (Stood w []) ⟨below_drewN (Below.refl _ _) _, fun x hx => by cases hx⟩ ?_
      intro v0 hs0
      have HS0 := Lib.hid hs0
      clear hs0
      go_wp2_with (refine wpList_val rfl (.slice sp k cap) (exec_cut 22 35 (.tmp 30) none (some (.tmp 31)) rfl Tryd.underlying22 _ (HC1.out _)) ?_)
      refine (HI1.out _ HS0.out.below).mono ?_
      rintro e w1 ⟨rfl, hb1⟩
      have HT1 := Lib.hid (HS0.out.later hb1)
      clear hb1
      go_upto_region 7 with (refine wpList_store_row rfl 26 (.tmp 6) (.tmp 33) rfl w1.heap.size (rowB R1) rfl rfl 26 _ (heap_alloc_new _ _) HZ1.out HY1.out HX1.out ?_)
      refine gen_world (Q := fun w => Code.wp _ _ _ _ w) _ (Stood w [(w1.heap.size, R1)]) (HT1.out.more _ R1) ?_
      intro v1 hs1
      have HS1 := Lib.hid hs1
      clear hs1 HZ1 HY1 HX1 HT1
      obtain ⟨g1, hg1⟩ : ∃ g, w1.heap.size = g := ⟨_, rfl⟩
      rw [hg1] at HS1 ⊢
      clear hg1 HS0
      go_wp2_with (refine wpList_val rfl (.slice (cutA sp cap k) (n - k) (cap - k)) (exec_cut 22 35 (.tmp 34) (some (.tmp 35)) none rfl Tryd.underlying22 _ (HC2.out _)) ?_)
      refine (HI2.out _ HS1.out.below).mono ?_
      rintro e w3 ⟨rfl, hb3⟩
      have HT3 := Lib.hid (HS1.out.later hb3)
      clear hb3
      go_upto_region 8 with (refine wpList_store_row rfl 26 (.tmp 7) (.tmp 37) rfl w3.heap.size (rowB R2) rfl rfl 26 _ (heap_alloc_new _ _) HZ2.out HY2.out HX2.out ?_)
      refine gen_world (Q := fun w => Code.wp _ _ _ _ w) _ (Stood w [(w3.heap.size, R2), (g1, R1)]) (HT3.out.more _ R2) ?_
      intro v2 hs2
      have HS2 := Lib.hid hs2
      clear hs2 HZ2 HY2 HX2 HT3
      obtain ⟨g2, hg2⟩ : ∃ g, w3.heap.size = g := ⟨_, rfl⟩
      rw [hg2] at HS2 ⊢
      clear hg2 HS1
      have za := row_dig H1.out
      have zb := row_dig H2.out
      have d1 : ∀ W, Below v2.heap.size v2 W → Dg W g1 R1 := fun W hb => (HS2.out.later hb).all (g1, R1) (by simp)
      have d2 : ∀ W, Below v2.heap.size v2 W → Dg W g2 R2 := fun W hb => (HS2.out.later hb).all (g2, R2) (by simp)
      have hw : ∀ W, Below v2.heap.size v2 W → Below w.heap.size w W := fun W hb => (HS2.out.later hb).below
      have eR : ∀ W : World, (binOp .neq 26 (.agg (rowB F)) (.agg (rowB F))).run Tryd.prog W = .ok (.bool false) W := fun W => by
        rw [run_neq_row (P := Tryd.prog) 26 5 32 .u8 Tryd.underlying26 Tryd.underlying5 size5 F F H3.out H3.out W]
        simp
      refine wp_region_quiet_tail (C := fun W => Below v2.heap.size v2 W) 5 (by kernel_rfl) (by kernel_rfl) ⟨rfl, rfl, rfl, Nat.le_refl _, fun _ _ => rfl⟩ ?_
      simp only [List.take_succ_cons, List.take_zero, List.drop_succ_cons, List.drop_zero]
      refine q_val _ rfl (fun _ _ => rfl) ?_
      simp only [Act.put, List.setIfInBounds_toArray, List.set_cons_succ, List.set_cons_zero]
      refine q_call 6 #[.slice sp n cap] (.agg (rowB F)) rfl (fun _ _ => exec_call1 6 (.tmp 38) #[22] (.slice sp n cap) rfl rfl (cfRoot _ _)) (fun W hW => (HRt.out W (hw W hW)).mono fun e W' h => ⟨h.1, hW.trans (h.2.mono hW.size)⟩) ?_
      simp only [Act.put, List.setIfInBounds_toArray, List.set_cons_succ, List.set_cons_zero]
      refine q_val (.agg (rowB R1)) rfl (fun W hW => exec_load_row 26 (.tmp 6) rfl g1 rfl 26 (rowB R1) (0, 0) _ (d1 W hW) Tryd.underlying26 rfl za) ?_
      simp only [Act.put, List.setIfInBounds_toArray, List.set_cons_succ, List.set_cons_zero]
      refine q_val (.agg (rowB R2)) rfl (fun W hW => exec_load_row 26 (.tmp 7) rfl g2 rfl 26 (rowB R2) (0, 0) _ (d2 W hW) Tryd.underlying26 rfl zb) ?_
      simp only [Act.put, List.setIfInBounds_toArray, List.set_cons_succ, List.set_cons_zero]
      refine q_call 7 #[.agg (rowB R1), .agg (rowB R2)] (.agg (rowB F)) rfl (fun _ _ => exec_call2 7 (.tmp 40) (.tmp 41) #[26, 26] _ _ rfl rfl rfl (cfNode _ _)) (fun W hW => (HN1.out W (hw W hW)).mono fun e W' h => ⟨h.1, hW.trans (h.2.mono hW.size)⟩) ?_
      simp only [Act.put, List.setIfInBounds_toArray, List.set_cons_succ, List.set_cons_zero]
      refine wpQuiet_nil ?_
      intro v3 hv3
      have HS3 := Lib.hid (HS2.out.later hv3)
      clear hv3 hw d1 d2 HS2
      by_cases hin : 0 ≤ i ∧ i < n
      · obtain ⟨j, rfl⟩ : ∃ j : Nat, i = j := ⟨i.toNat, by omega⟩
        have hjn : j < n := by omega
        have e0 : decide ((j : Int) < 0) = false := by simp
        have e1 : decide ((n : Int) ≤ (j : Int)) = false := by simp; omega
        go_wp2_with fail
        refine (HQ.out j hjn v3 HS3.out.below).mono ?_
        rintro e w5 ⟨sp5, cap5, rfl, hd5, hb5⟩
        have HS5 := Lib.hid (HS3.out.later hb5)
        clear hb5 HQ HRt HN1 HI1 HI2 HF
        rw [HPV.out j] at hd5 ⊢
        by_cases hjk : j < k
        · rw [if_pos hjk] at hd5 ⊢
          have e2 : decide ((j : Int) < (k : Int)) = true := by simp; omega
          rw [List.length_append, List.length_singleton]
          have HQj := Lib.hid (HQ1.out j hjk)
          obtain ⟨D, hD⟩ : ∃ D, proofD j A = D := ⟨_, rfl⟩
          rw [hD] at hd5 HQj ⊢
          have hml := hd5.len
          rw [List.length_append, List.length_singleton] at hml
          obtain ⟨m, hm⟩ : ∃ m, D.length = m := ⟨_, rfl⟩
          rw [hm] at hml HQj ⊢
          have HD := Lib.hid hd5
          have HMm := Lib.hid hm
          clear hd5 hm hD HQ1 HQ2 HPV
          go_wp2_with (refine wpList_val rfl (.slice sp k cap) (exec_cut 22 35 (.tmp 68) none (some (.tmp 69)) rfl Tryd.underlying22 _ (HC1.out _)) ?_)
          refine (HQj.out w5 HS5.out.below).mono ?_
          rintro e w6 ⟨sp6, cap6, rfl, hd6, hb6⟩
          have HS6 := Lib.hid (HS5.out.later hb6)
          have HD5 := Lib.hid (HD.out.below hb6)
          have HD6 := Lib.hid hd6
          clear hb6 hd6 HD HQj
          go_wp2_with fail
          obtain ⟨c, o, rfl, hr0, _⟩ := HD5.out.last
          have hI := HD5.out.init
          have hmc : m ≤ cap5 := by have := hI.le; rw [HMm.out] at this; exact this
          rw [HMm.out] at hr0
          have hrg : ∀ W, Below w6.heap.size w6 W → W.rangeAt c (o + 32 * m) (R2.map (Value.int .u8)) := fun W hb j v hv => (hb.cell (block_lt_of_cell (hr0 j v hv))).trans (hr0 j v hv)
          have dG : ∀ W, Below w6.heap.size w6 W → Dg W g2 R2 := fun W hb => (HS6.out.later hb).all (g2, R2) (by simp)
          have HDg := Lib.hid (fun W (hb : Below w6.heap.size w6 W) => (digests_any W _ sp6 m m cap5 cap6 D D HMm.out HMm.out (hI.below hb) (HD6.out.below hb)).mono fun e W' h => (show e = .returned (.bool true) ∧ Below W.heap.size W W' by have := h.below; simpa using this))
          have HAw := Lib.hid (fun W (hb : Below w6.heap.size w6 W) => awake_any W (HE.out.below (HS6.out.later hb).below))
          clear hr0 hI
          refine wp_region_spec (C := fun W => Below w6.heap.size w6 W) (Le := Lk) 24 (fun j _ v => v = ([.int .i64 0, .bool true, .bool true, .slice (some ⟨c, o, none⟩) (m + 1) cap5, .slice (some ⟨c, o, none⟩) (m + 1) cap5, .int .i64 ((m + 1 : Nat) : Int), .int .i64 m, .slice (some ⟨c, o, none⟩) m cap5, .slice sp6 m cap6, .bool true, .bool true, .bool true, .slice (some ⟨c, o, none⟩) (m + 1) cap5, .slice (some ⟨c, o, none⟩) (m + 1) cap5, .int .i64 ((m + 1 : Nat) : Int), .int .i64 m, .pointer (some ⟨c, o + 32 * m, none⟩), .agg (rowB R2), .agg (rowB R2), .bool true, .bool true, .bool true, .bool true, .bool true] : List Value).getD j undef) (by kernel_rfl) (by kernel_rfl) ⟨rfl, rfl, rfl, Nat.le_refl _, fun _ _ => rfl⟩ (fun _ _ _ _ _ h => h) (fun j v => v = ([.int .i64 0, .bool true, .bool true, .slice (some ⟨c, o, none⟩) (m + 1) cap5, .slice (some ⟨c, o, none⟩) (m + 1) cap5, .int .i64 ((m + 1 : Nat) : Int), .int .i64 m, .slice (some ⟨c, o, none⟩) m cap5, .slice sp6 m cap6, .bool true, .bool true, .bool true, .slice (some ⟨c, o, none⟩) (m + 1) cap5, .slice (some ⟨c, o, none⟩) (m + 1) cap5, .int .i64 ((m + 1 : Nat) : Int), .int .i64 m, .pointer (some ⟨c, o + 32 * m, none⟩), .agg (rowB R2), .agg (rowB R2), .bool true, .bool true, .bool true, .bool true, .bool true] : List Value).getD j undef) (fun _ _ _ h => h) (fun j => ([.int .i64 0, .bool true, .bool true, .slice (some ⟨c, o, none⟩) (m + 1) cap5, .slice (some ⟨c, o, none⟩) (m + 1) cap5, .int .i64 ((m + 1 : Nat) : Int), .int .i64 m, .slice (some ⟨c, o, none⟩) m cap5, .slice sp6 m cap6, .bool true, .bool true, .bool true, .slice (some ⟨c, o, none⟩) (m + 1) cap5, .slice (some ⟨c, o, none⟩) (m + 1) cap5, .int .i64 ((m + 1 : Nat) : Int), .int .i64 m, .pointer (some ⟨c, o + 32 * m, none⟩), .agg (rowB R2), .agg (rowB R2), .bool true, .bool true, .bool true, .bool true, .bool true] : List Value).getD j undef) (fun _ => rfl) ?_ ?_
          · intro u hu
            have h0 : u 0 = .int .i64 0 := hu 0
            have h1 : u 1 = .bool true := hu 1
            have h2 : u 2 = .bool true := hu 2
            have h3 : u 3 = .slice (some ⟨c, o, none⟩) (m + 1) cap5 := hu 3
            have h4 : u 4 = .slice (some ⟨c, o, none⟩) (m + 1) cap5 := hu 4
            have h5 : u 5 = .int .i64 ((m + 1 : Nat) : Int) := hu 5
            have h6 : u 6 = .int .i64 m := hu 6
            have h7 : u 7 = .slice (some ⟨c, o, none⟩) m cap5 := hu 7
            have h8 : u 8 = .slice sp6 m cap6 := hu 8
            have h9 : u 9 = .bool true := hu 9
            have h10 : u 10 = .bool true := hu 10
            have h11 : u 11 = .bool true := hu 11
            have h12 : u 12 = .slice (some ⟨c, o, none⟩) (m + 1) cap5 := hu 12
            have h13 : u 13 = .slice (some ⟨c, o, none⟩) (m + 1) cap5 := hu 13
            have h14 : u 14 = .int .i64 ((m + 1 : Nat) : Int) := hu 14
            have h15 : u 15 = .int .i64 m := hu 15
            have h16 : u 16 = .pointer (some ⟨c, o + 32 * m, none⟩) := hu 16
            have h17 : u 17 = .agg (rowB R2) := hu 17
            have h18 : u 18 = .agg (rowB R2) := hu 18
            have h19 : u 19 = .bool true := hu 19
            have h20 : u 20 = .bool true := hu 20
            have h21 : u 21 = .bool true := hu 21
            have h22 : u 22 = .bool true := hu 22
            have h23 : u 23 = .bool true := hu 23
            clear hu
            simp only [List.take_succ_cons, List.take_zero]
            refine spec_cons (fun W hC hd => ⟨by rfl, ?_⟩) ?_
            · exact gives_val _ W (rfl) ⟨hC, lk_refl W, rfl⟩
            simp only [Act.put, List.setIfInBounds_toArray, List.set_cons_succ, List.set_cons_zero, Nat.reduceAdd]
            rw [h0]
            refine spec_cons (fun W hC hd => ⟨by rfl, ?_⟩) ?_
            · exact gives_val _ W (exec_binOp .eql 30 30 (.tmp 86) (.const (.int .i64 0)) rfl (.int .i64 0) (.int .i64 0) (.bool true) rfl rfl rfl (by simp [go_sem])) ⟨hC, lk_refl W, rfl⟩
            simp only [Act.put, List.setIfInBounds_toArray, List.set_cons_succ, List.set_cons_zero, Nat.reduceAdd]
            rw [h1]
            refine spec_cons (fun W hC hd => ⟨by rfl, ?_⟩) ?_
            · exact gives_val _ W (rfl) ⟨hC, lk_refl W, rfl⟩
            simp only [Act.put, List.setIfInBounds_toArray, List.set_cons_succ, List.set_cons_zero, Nat.reduceAdd]
            rw [h2]
            refine spec_cons (fun W hC hd => ⟨by rfl, ?_⟩) ?_
            · exact gives_val _ W (rfl) ⟨hC, lk_refl W, rfl⟩
            simp only [Act.put, List.setIfInBounds_toArray, List.set_cons_succ, List.set_cons_zero, Nat.reduceAdd]
            rw [h3]
            refine spec_cons (fun W hC hd => ⟨by rfl, ?_⟩) ?_
            · exact gives_val _ W (rfl) ⟨hC, lk_refl W, rfl⟩
            simp only [Act.put, List.setIfInBounds_toArray, List.set_cons_succ, List.set_cons_zero, Nat.reduceAdd]
            rw [h4]
            refine spec_cons (fun W hC hd => ⟨by rfl, ?_⟩) ?_
            · exact gives_val _ W (exec_lenD (.tmp 90) rfl _ (m + 1) cap5 rfl) ⟨hC, lk_refl W, rfl⟩
            simp only [Act.put, List.setIfInBounds_toArray, List.set_cons_succ, List.set_cons_zero, Nat.reduceAdd]
            rw [h5]
            refine spec_cons (fun W hC hd => ⟨by rfl, ?_⟩) ?_
            · exact gives_val _ W (exec_binOp .sub 3 3 (.tmp 91) (.const (.int .i64 1)) rfl (.int .i64 ((m + 1 : Nat) : Int)) (.int .i64 1) (.int .i64 m) rfl rfl rfl (run_less1 m hml W)) ⟨hC, lk_refl W, rfl⟩
            simp only [Act.put, List.setIfInBounds_toArray, List.set_cons_succ, List.set_cons_zero, Nat.reduceAdd]
            rw [h6]
            refine spec_cons (fun W hC hd => ⟨by rfl, ?_⟩) ?_
            · exact gives_val _ W (exec_cut 29 26 (.tmp 89) none (some (.tmp 92)) rfl Tryd.underlying29 _ (run_headZ 29 26 32 Tryd.underlying29 size25 _ (m + 1) cap5 m hmc W)) ⟨hC, lk_refl W, rfl⟩
            simp only [Act.put, List.setIfInBounds_toArray, List.set_cons_succ, List.set_cons_zero, Nat.reduceAdd]
            rw [h7]
            refine spec_cons (fun W hC hd => ⟨by rfl, ?_⟩) ?_
            · exact gives_val _ W (rfl) ⟨hC, lk_refl W, rfl⟩
            simp only [Act.put, List.setIfInBounds_toArray, List.set_cons_succ, List.set_cons_zero, Nat.reduceAdd]
            rw [h8]
            refine spec_cons (fun W hC hd => ⟨by rfl, ?_⟩) ?_
            · exact gives_call _ _ (exec_call2 9 (.tmp 93) (.tmp 94) #[29, 29] _ _ rfl rfl rfl (cfDigests _ _)) ((HDg.out W hC).mono fun e W' h => ⟨_, h.1, hC.trans (h.2.mono hC.size), Lk.of_below h.2, rfl⟩)
            simp only [Act.put, List.setIfInBounds_toArray, List.set_cons_succ, List.set_cons_zero, Nat.reduceAdd]
            rw [h9]
            refine spec_cons (fun W hC hd => ⟨by rfl, ?_⟩) ?_
            · exact gives_val _ W (rfl) ⟨hC, lk_refl W, rfl⟩
            simp only [Act.put, List.setIfInBounds_toArray, List.set_cons_succ, List.set_cons_zero, Nat.reduceAdd]
            rw [h10]
            refine spec_cons (fun W hC hd => ⟨by rfl, ?_⟩) ?_
            · exact gives_val _ W (rfl) ⟨hC, lk_refl W, rfl⟩
            simp only [Act.put, List.setIfInBounds_toArray, List.set_cons_succ, List.set_cons_zero, Nat.reduceAdd]
            rw [h11]
            refine spec_cons (fun W hC hd => ⟨by rfl, ?_⟩) ?_
            · exact gives_val _ W (rfl) ⟨hC, lk_refl W, rfl⟩
            simp only [Act.put, List.setIfInBounds_toArray, List.set_cons_succ, List.set_cons_zero, Nat.reduceAdd]
            rw [h12]
            refine spec_cons (fun W hC hd => ⟨by rfl, ?_⟩) ?_
            · exact gives_val _ W (rfl) ⟨hC, lk_refl W, rfl⟩
            simp only [Act.put, List.setIfInBounds_toArray, List.set_cons_succ, List.set_cons_zero, Nat.reduceAdd]
            rw [h13]
            refine spec_cons (fun W hC hd => ⟨by rfl, ?_⟩) ?_
            · exact gives_val _ W (exec_lenD (.tmp 99) rfl _ (m + 1) cap5 rfl) ⟨hC, lk_refl W, rfl⟩
            simp only [Act.put, List.setIfInBounds_toArray, List.set_cons_succ, List.set_cons_zero, Nat.reduceAdd]
            rw [h14]
            refine spec_cons (fun W hC hd => ⟨by rfl, ?_⟩) ?_
            · exact gives_val _ W (exec_binOp .sub 3 3 (.tmp 100) (.const (.int .i64 1)) rfl (.int .i64 ((m + 1 : Nat) : Int)) (.int .i64 1) (.int .i64 m) rfl rfl rfl (run_less1 m hml W)) ⟨hC, lk_refl W, rfl⟩
            simp only [Act.put, List.setIfInBounds_toArray, List.set_cons_succ, List.set_cons_zero, Nat.reduceAdd]
            rw [h15]
            refine spec_cons (fun W hC hd => ⟨by rfl, ?_⟩) ?_
            · exact gives_val _ W (exec_dig_at (.tmp 98) (.tmp 101) rfl c o (m + 1) cap5 m rfl rfl (by omega)) ⟨hC, lk_refl W, rfl⟩
            simp only [Act.put, List.setIfInBounds_toArray, List.set_cons_succ, List.set_cons_zero, Nat.reduceAdd]
            rw [h16]
            refine spec_cons (fun W hC hd => ⟨by rfl, ?_⟩) ?_
            · exact gives_val _ W (exec_load_mid (.tmp 102) rfl c (o + 32 * m) rfl R2 H2.out (hrg W hC)) ⟨hC, lk_refl W, rfl⟩
            simp only [Act.put, List.setIfInBounds_toArray, List.set_cons_succ, List.set_cons_zero, Nat.reduceAdd]
            rw [h17]
            refine spec_cons (fun W hC hd => ⟨by rfl, ?_⟩) ?_
            · exact gives_val _ W (exec_load_row 26 (.tmp 7) rfl g2 rfl 26 (rowB R2) (0, 0) _ (dG W hC) Tryd.underlying26 rfl zb) ⟨hC, lk_refl W, rfl⟩
            simp only [Act.put, List.setIfInBounds_toArray, List.set_cons_succ, List.set_cons_zero, Nat.reduceAdd]
            rw [h18]
            refine spec_cons (fun W hC hd => ⟨by rfl, ?_⟩) ?_
            · exact gives_val _ W (exec_eqD (.tmp 103) (.tmp 104) rfl R2 R2 rfl rfl H2.out H2.out) ⟨hC, lk_refl W, by simp⟩
            simp only [Act.put, List.setIfInBounds_toArray, List.set_cons_succ, List.set_cons_zero, Nat.reduceAdd]
            rw [h19]
            refine spec_cons (fun W hC hd => ⟨by rfl, ?_⟩) ?_
            · exact gives_val _ W (rfl) ⟨hC, lk_refl W, rfl⟩
            simp only [Act.put, List.setIfInBounds_toArray, List.set_cons_succ, List.set_cons_zero, Nat.reduceAdd]
            rw [h20]
            refine spec_cons (fun W hC hd => ⟨by rfl, ?_⟩) ?_
            · exact gives_val _ W (rfl) ⟨hC, lk_refl W, rfl⟩
            simp only [Act.put, List.setIfInBounds_toArray, List.set_cons_succ, List.set_cons_zero, Nat.reduceAdd]
            rw [h21]
            refine spec_cons (fun W hC hd => ⟨by rfl, ?_⟩) ?_
            · exact gives_call _ _ (exec_call0 5 #[] rfl (cfAwake _ _)) ((HAw.out W hC).mono fun e W' h => ⟨_, h.1, hC.trans (h.2.mono hC.size), Lk.of_below h.2, rfl⟩)
            simp only [Act.put, List.setIfInBounds_toArray, List.set_cons_succ, List.set_cons_zero, Nat.reduceAdd]
            rw [h22]
            refine spec_cons (fun W hC hd => ⟨by rfl, ?_⟩) ?_
            · exact gives_val _ W (rfl) ⟨hC, lk_refl W, rfl⟩
            simp only [Act.put, List.setIfInBounds_toArray, List.set_cons_succ, List.set_cons_zero, Nat.reduceAdd]
            rw [h23]
            exact spec_nil
          · intro u W hu hC _
            have h23 : u 23 = .bool true := hu 23
            simp only [List.take_succ_cons, List.take_zero, List.drop_succ_cons, List.drop_zero, putAll, Act.put, List.setIfInBounds_toArray, List.set_cons_succ, List.set_cons_zero, Nat.reduceAdd]
            rw [h23]
            have HW := Lib.hid (HS6.out.later hC).below
            clear hu h23 hC HDg HAw hrg dG
            go_wp2
            go_ret
            exact ⟨rfl, HW.out⟩
        · rw [if_neg hjk] at hd5 ⊢
          have e2 : decide ((j : Int) < (k : Int)) = false := by simp; omega
          have ejk : ((j : Int) - (k : Int)) = ((j - k : Nat) : Int) := by omega
          rw [List.length_append, List.length_singleton]
          have HQj := Lib.hid (HQ2.out (j - k) (by omega))
          obtain ⟨D, hD⟩ : ∃ D, proofD (j - k) B = D := ⟨_, rfl⟩
          rw [hD] at hd5 HQj ⊢
          have hml := hd5.len
          rw [List.length_append, List.length_singleton] at hml
          obtain ⟨m, hm⟩ : ∃ m, D.length = m := ⟨_, rfl⟩
          rw [hm] at hml HQj ⊢
          have HD := Lib.hid hd5
          have HMm := Lib.hid hm
          clear hd5 hm hD HQ1 HQ2 HPV
          have HJ := Lib.hid ejk
          clear ejk
          go_wp2_with fail
          have hcut : cutA sp cap k = sp.map (fun x => x.add k) := if_neg (by omega)
          rw [hcut] at HQj
          rw [HJ.out]
          refine (HQj.out w5 HS5.out.below).mono ?_
          rintro e w6 ⟨sp6, cap6, rfl, hd6, hb6⟩
          have HS6 := Lib.hid (HS5.out.later hb6)
          have HD5 := Lib.hid (HD.out.below hb6)
          have HD6 := Lib.hid hd6
          clear hb6 hd6 HD HQj hcut
          go_wp2_with fail
          obtain ⟨c, o, rfl, hr0, _⟩ := HD5.out.last
          have hI := HD5.out.init
          have hmc : m ≤ cap5 := by have := hI.le; rw [HMm.out] at this; exact this
          rw [HMm.out] at hr0
          have hrg : ∀ W, Below w6.heap.size w6 W → W.rangeAt c (o + 32 * m) (R1.map (Value.int .u8)) := fun W hb j v hv => (hb.cell (block_lt_of_cell (hr0 j v hv))).trans (hr0 j v hv)
          have dG : ∀ W, Below w6.heap.size w6 W → Dg W g1 R1 := fun W hb => (HS6.out.later hb).all (g1, R1) (by simp)
          have HDg := Lib.hid (fun W (hb : Below w6.heap.size w6 W) => (digests_any W _ sp6 m m cap5 cap6 D D HMm.out HMm.out (hI.below hb) (HD6.out.below hb)).mono fun e W' h => (show e = .returned (.bool true) ∧ Below W.heap.size W W' by have := h.below; simpa using this))
          have HAw := Lib.hid (fun W (hb : Below w6.heap.size w6 W) => awake_any W (HE.out.below (HS6.out.later hb).below))
          clear hr0 hI
          refine wp_region_spec (C := fun W => Below w6.heap.size w6 W) (Le := Lk) 24 (fun j _ v => v = ([.int .i64 0, .bool true, .bool true, .slice (some ⟨c, o, none⟩) (m + 1) cap5, .slice (some ⟨c, o, none⟩) (m + 1) cap5, .int .i64 ((m + 1 : Nat) : Int), .int .i64 m, .slice (some ⟨c, o, none⟩) m cap5, .slice sp6 m cap6, .bool true, .bool true, .bool true, .slice (some ⟨c, o, none⟩) (m + 1) cap5, .slice (some ⟨c, o, none⟩) (m + 1) cap5, .int .i64 ((m + 1 : Nat) : Int), .int .i64 m, .pointer (some ⟨c, o + 32 * m, none⟩), .agg (rowB R1), .agg (rowB R1), .bool true, .bool true, .bool true, .bool true, .bool true] : List Value).getD j undef) (by kernel_rfl) (by kernel_rfl) ⟨rfl, rfl, rfl, Nat.le_refl _, fun _ _ => rfl⟩ (fun _ _ _ _ _ h => h) (fun j v => v = ([.int .i64 0, .bool true, .bool true, .slice (some ⟨c, o, none⟩) (m + 1) cap5, .slice (some ⟨c, o, none⟩) (m + 1) cap5, .int .i64 ((m + 1 : Nat) : Int), .int .i64 m, .slice (some ⟨c, o, none⟩) m cap5, .slice sp6 m cap6, .bool true, .bool true, .bool true, .slice (some ⟨c, o, none⟩) (m + 1) cap5, .slice (some ⟨c, o, none⟩) (m + 1) cap5, .int .i64 ((m + 1 : Nat) : Int), .int .i64 m, .pointer (some ⟨c, o + 32 * m, none⟩), .agg (rowB R1), .agg (rowB R1), .bool true, .bool true, .bool true, .bool true, .bool true] : List Value).getD j undef) (fun _ _ _ h => h) (fun j => ([.int .i64 0, .bool true, .bool true, .slice (some ⟨c, o, none⟩) (m + 1) cap5, .slice (some ⟨c, o, none⟩) (m + 1) cap5, .int .i64 ((m + 1 : Nat) : Int), .int .i64 m, .slice (some ⟨c, o, none⟩) m cap5, .slice sp6 m cap6, .bool true, .bool true, .bool true, .slice (some ⟨c, o, none⟩) (m + 1) cap5, .slice (some ⟨c, o, none⟩) (m + 1) cap5, .int .i64 ((m + 1 : Nat) : Int), .int .i64 m, .pointer (some ⟨c, o + 32 * m, none⟩), .agg (rowB R1), .agg (rowB R1), .bool true, .bool true, .bool true, .bool true, .bool true] : List Value).getD j undef) (fun _ => rfl) ?_ ?_
          · intro u hu
            have h0 : u 0 = .int .i64 0 := hu 0
            have h1 : u 1 = .bool true := hu 1
            have h2 : u 2 = .bool true := hu 2
            have h3 : u 3 = .slice (some ⟨c, o, none⟩) (m + 1) cap5 := hu 3
            have h4 : u 4 = .slice (some ⟨c, o, none⟩) (m + 1) cap5 := hu 4
            have h5 : u 5 = .int .i64 ((m + 1 : Nat) : Int) := hu 5
            have h6 : u 6 = .int .i64 m := hu 6
            have h7 : u 7 = .slice (some ⟨c, o, none⟩) m cap5 := hu 7
            have h8 : u 8 = .slice sp6 m cap6 := hu 8
            have h9 : u 9 = .bool true := hu 9
            have h10 : u 10 = .bool true := hu 10
            have h11 : u 11 = .bool true := hu 11
            have h12 : u 12 = .slice (some ⟨c, o, none⟩) (m + 1) cap5 := hu 12
            have h13 : u 13 = .slice (some ⟨c, o, none⟩) (m + 1) cap5 := hu 13
            have h14 : u 14 = .int .i64 ((m + 1 : Nat) : Int) := hu 14
            have h15 : u 15 = .int .i64 m := hu 15
            have h16 : u 16 = .pointer (some ⟨c, o + 32 * m, none⟩) := hu 16
            have h17 : u 17 = .agg (rowB R1) := hu 17
            have h18 : u 18 = .agg (rowB R1) := hu 18
            have h19 : u 19 = .bool true := hu 19
            have h20 : u 20 = .bool true := hu 20
            have h21 : u 21 = .bool true := hu 21
            have h22 : u 22 = .bool true := hu 22
            have h23 : u 23 = .bool true := hu 23
            clear hu
            simp only [List.take_succ_cons, List.take_zero]
            refine spec_cons (fun W hC hd => ⟨by rfl, ?_⟩) ?_
            · exact gives_val _ W (rfl) ⟨hC, lk_refl W, rfl⟩
            simp only [Act.put, List.setIfInBounds_toArray, List.set_cons_succ, List.set_cons_zero, Nat.reduceAdd]
            rw [h0]
            refine spec_cons (fun W hC hd => ⟨by rfl, ?_⟩) ?_
            · exact gives_val _ W (exec_binOp .eql 30 30 (.tmp 120) (.const (.int .i64 0)) rfl (.int .i64 0) (.int .i64 0) (.bool true) rfl rfl rfl (by simp [go_sem])) ⟨hC, lk_refl W, rfl⟩
            simp only [Act.put, List.setIfInBounds_toArray, List.set_cons_succ, List.set_cons_zero, Nat.reduceAdd]
            rw [h1]
            refine spec_cons (fun W hC hd => ⟨by rfl, ?_⟩) ?_
            · exact gives_val _ W (rfl) ⟨hC, lk_refl W, rfl⟩
            simp only [Act.put, List.setIfInBounds_toArray, List.set_cons_succ, List.set_cons_zero, Nat.reduceAdd]
            rw [h2]
            refine spec_cons (fun W hC hd => ⟨by rfl, ?_⟩) ?_
            · exact gives_val _ W (rfl) ⟨hC, lk_refl W, rfl⟩
            simp only [Act.put, List.setIfInBounds_toArray, List.set_cons_succ, List.set_cons_zero, Nat.reduceAdd]
            rw [h3]
            refine spec_cons (fun W hC hd => ⟨by rfl, ?_⟩) ?_
            · exact gives_val _ W (rfl) ⟨hC, lk_refl W, rfl⟩
            simp only [Act.put, List.setIfInBounds_toArray, List.set_cons_succ, List.set_cons_zero, Nat.reduceAdd]
            rw [h4]
            refine spec_cons (fun W hC hd => ⟨by rfl, ?_⟩) ?_
            · exact gives_val _ W (exec_lenD (.tmp 124) rfl _ (m + 1) cap5 rfl) ⟨hC, lk_refl W, rfl⟩
            simp only [Act.put, List.setIfInBounds_toArray, List.set_cons_succ, List.set_cons_zero, Nat.reduceAdd]
            rw [h5]
            refine spec_cons (fun W hC hd => ⟨by rfl, ?_⟩) ?_
            · exact gives_val _ W (exec_binOp .sub 3 3 (.tmp 125) (.const (.int .i64 1)) rfl (.int .i64 ((m + 1 : Nat) : Int)) (.int .i64 1) (.int .i64 m) rfl rfl rfl (run_less1 m hml W)) ⟨hC, lk_refl W, rfl⟩
            simp only [Act.put, List.setIfInBounds_toArray, List.set_cons_succ, List.set_cons_zero, Nat.reduceAdd]
            rw [h6]
            refine spec_cons (fun W hC hd => ⟨by rfl, ?_⟩) ?_
            · exact gives_val _ W (exec_cut 29 26 (.tmp 123) none (some (.tmp 126)) rfl Tryd.underlying29 _ (run_headZ 29 26 32 Tryd.underlying29 size25 _ (m + 1) cap5 m hmc W)) ⟨hC, lk_refl W, rfl⟩
            simp only [Act.put, List.setIfInBounds_toArray, List.set_cons_succ, List.set_cons_zero, Nat.reduceAdd]
            rw [h7]
            refine spec_cons (fun W hC hd => ⟨by rfl, ?_⟩) ?_
            · exact gives_val _ W (rfl) ⟨hC, lk_refl W, rfl⟩
            simp only [Act.put, List.setIfInBounds_toArray, List.set_cons_succ, List.set_cons_zero, Nat.reduceAdd]
            rw [h8]
            refine spec_cons (fun W hC hd => ⟨by rfl, ?_⟩) ?_
            · exact gives_call _ _ (exec_call2 9 (.tmp 127) (.tmp 128) #[29, 29] _ _ rfl rfl rfl (cfDigests _ _)) ((HDg.out W hC).mono fun e W' h => ⟨_, h.1, hC.trans (h.2.mono hC.size), Lk.of_below h.2, rfl⟩)
            simp only [Act.put, List.setIfInBounds_toArray, List.set_cons_succ, List.set_cons_zero, Nat.reduceAdd]
            rw [h9]
            refine spec_cons (fun W hC hd => ⟨by rfl, ?_⟩) ?_
            · exact gives_val _ W (rfl) ⟨hC, lk_refl W, rfl⟩
            simp only [Act.put, List.setIfInBounds_toArray, List.set_cons_succ, List.set_cons_zero, Nat.reduceAdd]
            rw [h10]
            refine spec_cons (fun W hC hd => ⟨by rfl, ?_⟩) ?_
            · exact gives_val _ W (rfl) ⟨hC, lk_refl W, rfl⟩
            simp only [Act.put, List.setIfInBounds_toArray, List.set_cons_succ, List.set_cons_zero, Nat.reduceAdd]
            rw [h11]
            refine spec_cons (fun W hC hd => ⟨by rfl, ?_⟩) ?_
            · exact gives_val _ W (rfl) ⟨hC, lk_refl W, rfl⟩
            simp only [Act.put, List.setIfInBounds_toArray, List.set_cons_succ, List.set_cons_zero, Nat.reduceAdd]
            rw [h12]
            refine spec_cons (fun W hC hd => ⟨by rfl, ?_⟩) ?_
            · exact gives_val _ W (rfl) ⟨hC, lk_refl W, rfl⟩
            simp only [Act.put, List.setIfInBounds_toArray, List.set_cons_succ, List.set_cons_zero, Nat.reduceAdd]
            rw [h13]
            refine spec_cons (fun W hC hd => ⟨by rfl, ?_⟩) ?_
            · exact gives_val _ W (exec_lenD (.tmp 133) rfl _ (m + 1) cap5 rfl) ⟨hC, lk_refl W, rfl⟩
            simp only [Act.put, List.setIfInBounds_toArray, List.set_cons_succ, List.set_cons_zero, Nat.reduceAdd]
            rw [h14]
            refine spec_cons (fun W hC hd => ⟨by rfl, ?_⟩) ?_
            · exact gives_val _ W (exec_binOp .sub 3 3 (.tmp 134) (.const (.int .i64 1)) rfl (.int .i64 ((m + 1 : Nat) : Int)) (.int .i64 1) (.int .i64 m) rfl rfl rfl (run_less1 m hml W)) ⟨hC, lk_refl W, rfl⟩
            simp only [Act.put, List.setIfInBounds_toArray, List.set_cons_succ, List.set_cons_zero, Nat.reduceAdd]
            rw [h15]
            refine spec_cons (fun W hC hd => ⟨by rfl, ?_⟩) ?_
            · exact gives_val _ W (exec_dig_at (.tmp 132) (.tmp 135) rfl c o (m + 1) cap5 m rfl rfl (by omega)) ⟨hC, lk_refl W, rfl⟩
            simp only [Act.put, List.setIfInBounds_toArray, List.set_cons_succ, List.set_cons_zero, Nat.reduceAdd]
            rw [h16]
            refine spec_cons (fun W hC hd => ⟨by rfl, ?_⟩) ?_
            · exact gives_val _ W (exec_load_mid (.tmp 136) rfl c (o + 32 * m) rfl R1 H1.out (hrg W hC)) ⟨hC, lk_refl W, rfl⟩
            simp only [Act.put, List.setIfInBounds_toArray, List.set_cons_succ, List.set_cons_zero, Nat.reduceAdd]
            rw [h17]
            refine spec_cons (fun W hC hd => ⟨by rfl, ?_⟩) ?_
            · exact gives_val _ W (exec_load_row 26 (.tmp 6) rfl g1 rfl 26 (rowB R1) (0, 0) _ (dG W hC) Tryd.underlying26 rfl za) ⟨hC, lk_refl W, rfl⟩
            simp only [Act.put, List.setIfInBounds_toArray, List.set_cons_succ, List.set_cons_zero, Nat.reduceAdd]
            rw [h18]
            refine spec_cons (fun W hC hd => ⟨by rfl, ?_⟩) ?_
            · exact gives_val _ W (exec_eqD (.tmp 137) (.tmp 138) rfl R1 R1 rfl rfl H1.out H1.out) ⟨hC, lk_refl W, by simp⟩
            simp only [Act.put, List.setIfInBounds_toArray, List.set_cons_succ, List.set_cons_zero, Nat.reduceAdd]
            rw [h19]
            refine spec_cons (fun W hC hd => ⟨by rfl, ?_⟩) ?_
            · exact gives_val _ W (rfl) ⟨hC, lk_refl W, rfl⟩
            simp only [Act.put, List.setIfInBounds_toArray, List.set_cons_succ, List.set_cons_zero, Nat.reduceAdd]
            rw [h20]
            refine spec_cons (fun W hC hd => ⟨by rfl, ?_⟩) ?_
            · exact gives_val _ W (rfl) ⟨hC, lk_refl W, rfl⟩
            simp only [Act.put, List.setIfInBounds_toArray, List.set_cons_succ, List.set_cons_zero, Nat.reduceAdd]
            rw [h21]
            refine spec_cons (fun W hC hd => ⟨by rfl, ?_⟩) ?_
            · exact gives_call _ _ (exec_call0 5 #[] rfl (cfAwake _ _)) ((HAw.out W hC).mono fun e W' h => ⟨_, h.1, hC.trans (h.2.mono hC.size), Lk.of_below h.2, rfl⟩)
            simp only [Act.put, List.setIfInBounds_toArray, List.set_cons_succ, List.set_cons_zero, Nat.reduceAdd]
            rw [h22]
            refine spec_cons (fun W hC hd => ⟨by rfl, ?_⟩) ?_
            · exact gives_val _ W (rfl) ⟨hC, lk_refl W, rfl⟩
            simp only [Act.put, List.setIfInBounds_toArray, List.set_cons_succ, List.set_cons_zero, Nat.reduceAdd]
            rw [h23]
            exact spec_nil
          · intro u W hu hC _
            have h23 : u 23 = .bool true := hu 23
            simp only [List.take_succ_cons, List.take_zero, List.drop_succ_cons, List.drop_zero, putAll, Act.put, List.setIfInBounds_toArray, List.set_cons_succ, List.set_cons_zero, Nat.reduceAdd]
            rw [h23]
            have HW := Lib.hid (HS6.out.later hC).below
            clear hu h23 hC HDg HAw hrg dG
            go_wp2
            go_ret
            exact ⟨rfl, HW.out⟩
      · have HA : ∀ W, Below w.heap.size w W → Calls Tryd.prog 5 #[] W fun e w' => e = .returned (.bool true) ∧ Below W.heap.size W w' := fun W hb => awake_any W (HE.out.below hb)
        by_cases hi : i < 0
        · have e0 : decide (i < 0) = true := by simp; omega
          go_wp2_with fail
          refine (prove_no i v3 sp n cap hin).mono ?_
          rintro e w5 ⟨rfl, hb5⟩
          have HS5 := Lib.hid (HS3.out.later hb5)
          clear hb5
          go_wp2_with fail
          refine (HA _ HS5.out.below).mono ?_
          rintro e w6 ⟨rfl, hb6⟩
          have HS6 := Lib.hid (HS5.out.later hb6)
          clear hb6
          go_wp2_with fail
          go_ret
          exact ⟨rfl, HS6.out.below⟩
        · have e0 : decide (i < 0) = false := by simp; omega
          have e1 : decide ((n : Int) ≤ i) = true := by simp; omega
          go_wp2_with fail
          refine (prove_no i v3 sp n cap hin).mono ?_
          rintro e w5 ⟨rfl, hb5⟩
          have HS5 := Lib.hid (HS3.out.later hb5)
          clear hb5
          go_wp2_with fail
          refine (HA _ HS5.out.below).mono ?_
          rintro e w6 ⟨rfl, hb6⟩
          have HS6 := Lib.hid (HS5.out.later hb6)
          clear hb6
          go_wp2_with fail
          go_ret
          exact ⟨rfl, HS6.out.below⟩
theorem splits_walk (w : World) (sp : Option Addr) (n cap : Nat) (i : Int) (ls : List (List Int)) (hn : ls.length = n) (hP : Pcs w sp cap ls) (he : Env w) (hi0 : -9223372036854775808 ≤ i) (hi1 : i ≤ 9223372036854775807) :
    Calls Tryd.prog 3 #[.slice sp n cap, .int .i64 i] w fun e w' => e = .returned (.bool true) ∧ Below w.heap.size w w' := by
  by_cases hf : few ls = true
  · by_cases h2 : n < 2
    · exact splits_one w sp n cap i ls hn hP he hf h2
    · exact splits_many w sp n cap i ls hn hP he hf h2 hi0 hi1
  · exact splits_few w sp n cap i ls hn hP he (by simpa using hf)
end Go.Proofs.YtighmhoekbnagabDoor
