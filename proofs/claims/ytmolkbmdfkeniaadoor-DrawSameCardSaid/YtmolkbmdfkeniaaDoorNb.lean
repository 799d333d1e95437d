import Derived.Test.YtmolkbmdfkeniaaDoorNa
namespace Go.Proofs.YtmolkbmdfkeniaaDoor.Dr
set_option maxRecDepth 100000
open Go.ChangeShapes Go.WideShapes Go.ChangeAt Go.RowKit Go.Proofs.YtmolkbmdfkeniaaDoor.Tn

/-! ### the landed code: the number of a count -/
theorem and_max (x : Int) (_h1 : -9223372036854775808 ≤ x) (_h2 : x ≤ 9223372036854775807) : bits .and .i64 x 9223372036854775807 = x % 9223372036854775808 := by
  show IntKind.i64.wrap ((BitVec.ofInt 64 x &&& BitVec.ofInt 64 9223372036854775807).toNat : Int) = _
  rw [BitVec.toNat_and, BitVec.toNat_ofInt, BitVec.toNat_ofInt, show ((9223372036854775807 : Int) % ((2 ^ 64 : Nat) : Int)).toNat = 2 ^ 63 - 1 by decide, Nat.and_two_pow_sub_one_eq_mod]
  have e : ((x % ((2 ^ 64 : Nat) : Int)).toNat % 2 ^ 63 : Nat) = (x % 9223372036854775808).toNat := by omega
  rw [e, Int.toNat_of_nonneg (by omega)]
  exact IntWalk.i64_in _ (by omega)
theorem num_mod (t : List Int) (_h : t.length = 8) (_hr : Cd.rng t) : Cd.num t % 9223372036854775808 = Cd.val t % 9223372036854775808 := by
  unfold Cd.num
  simp only [IntKind.wrap, IntKind.bits, IntKind.signed]
  simp
  split <;> omega
theorem num_in (t : List Int) : -9223372036854775808 ≤ Cd.num t ∧ Cd.num t ≤ 9223372036854775807 := by
  unfold Cd.num
  simp only [IntKind.wrap, IntKind.bits, IntKind.signed]
  simp
  split <;> omega
set_option maxHeartbeats 4000000 in
theorem numberOf_any (w : World) (s : List Int) (c : Int) (hs : s.length = 32) (hr : Cd.rng s) (he : Env w) :
    Calls Tryd.prog 24 #[.agg (rowB s), .int .i64 c] w fun e w' => e = .returned (.int .i64 (numV s c)) ∧ Below w.heap.size w w' := by
  have HL := Lib.hid hs
  have HR : Hid (Cd.rng s) := hr
  have HE := Lib.hid he
  clear hs hr he
  go_enter Tryd.func24, Tryd.ntmps24
  go_upto_region 1 with fail
  refine gen_w (Q := fun w => Code.wp _ _ _ _ w) _ (H1 w s) (H1.made w s) ?_
  intro v hv
  have HV := Lib.hid hv
  clear hv
  refine Tn.wp_region_spec (C := fun W => Below v.heap.size v W) (Le := fun w w' => Below w.heap.size w w') 8 (fun _ q W x => nbP w.heap.size v.heap.size s c q W x) (by kernel_rfl) (by kernel_rfl) ⟨rfl, rfl, rfl, Nat.le_refl _, fun _ _ => rfl⟩ (fun _ _ _ _ _ _ h => h) (fun _ => nbP_le _ _ _ _)
    (fun j v => ∀ x, nbX w.heap.size s c j = some x → v = x) (fun _ => nbP_val _ _ _ _) (fun j => (nbX w.heap.size s c j).getD undef) (fun j x h => by simp [h]) ?_ ?_
  · intro u hu
    have h0 := hu 0 _ rfl
    have h1 := hu 1 _ rfl
    have h6 := hu 6 _ rfl
    simp only [List.take_succ_cons, List.take_zero]
    refine Tn.spec_cons (fun W hC hd => ⟨by rfl, ?_⟩) ?_
    · exact Tn.gives_val _ W (exec_slD (.tmp 2) rfl w.heap.size rfl) ⟨hC, Below.refl _ _, rfl⟩
    simp only [Act.put, List.setIfInBounds_toArray, List.set_cons_succ, List.set_cons_zero, Nat.reduceAdd]
    rw [h0]
    refine Tn.spec_cons (fun W hC hd => ⟨by rfl, ?_⟩) ?_
    · exact Tn.gives_val _ W rfl ⟨hC, Below.refl _ _, rfl⟩
    simp only [Act.put, List.setIfInBounds_toArray, List.set_cons_succ, List.set_cons_zero, Nat.reduceAdd]
    rw [h1]
    refine Tn.spec_cons (fun W hC hd => ⟨by rfl, ?_⟩) ?_
    · exact Tn.gives_val _ _ (exec_oneI (.tmp 9) rfl _ rfl) ⟨hC.alloc hC.size _, (Below.refl _ _).alloc (Nat.le_refl _) _, (show ∃ g, _ ∧ _ from ⟨W.heap.size, rfl, one_new W _⟩)⟩
    simp only [Act.put, List.setIfInBounds_toArray, List.set_cons_succ, List.set_cons_zero, Nat.reduceAdd]
    refine Tn.spec_cons (fun W hC hd => ⟨by rfl, ?_⟩) ?_
    · obtain ⟨g, e0, hn⟩ := (show ∃ g, u 2 = .slice (some ⟨g, 0, none⟩) 1 1 ∧ Cd.Nums W (some ⟨g, 0, none⟩) 1 [c] from hd ⟨2, .data⟩ (by simp) rfl)
      exact Tn.gives_call _ _ (Tn.exec_call1 39 (.tmp 10) #[39] _ rfl e0 (Tn.cf Tryd.func39 (by kernel_rfl) (by kernel_rfl) _ _)) ((Cd.numbers_any W _ 1 1 [c] rfl hn (by omega)).mono fun e W' ⟨sp, cap, h1, h2, h3⟩ => ⟨_, h1, hC.trans (h3.mono hC.size), h3, (show ∃ sp cap, _ ∧ _ from ⟨sp, cap, rfl, h2⟩)⟩)
    simp only [Act.put, List.setIfInBounds_toArray, List.set_cons_succ, List.set_cons_zero, Nat.reduceAdd]
    refine Tn.spec_cons (fun W hC hd => ⟨by rfl, ?_⟩) ?_
    · obtain ⟨sp, cap, e0, hn⟩ := (show ∃ sp cap, u 3 = .slice sp 8 cap ∧ Cd.Bytes W sp cap (Cd.nums [c]) from hd ⟨3, .data⟩ (by simp) rfl)
      exact Tn.gives_val _ _ (exec_twoS (.tmp 8) (.tmp 11) rfl _ _ _ _ _ _ rfl e0) ⟨hC.alloc hC.size _, (Below.refl _ _).alloc (Nat.le_refl _) _, (show ∃ g, _ ∧ _ from ⟨W.heap.size, rfl, pieces_new ((HV.out.d.below hC).bytes HL.out HR.out) hn HL.out (by simp [Cd.nums, Cd.be_length])⟩)⟩
    simp only [Act.put, List.setIfInBounds_toArray, List.set_cons_succ, List.set_cons_zero, Nat.reduceAdd]
    refine Tn.spec_cons (fun W hC hd => ⟨by rfl, ?_⟩) ?_
    · obtain ⟨g, e0, hn⟩ := (show ∃ g, u 4 = .slice (some ⟨g, 0, none⟩) 2 2 ∧ Cd.Pieces W (some ⟨g, 0, none⟩) 2 [s, Cd.nums [c]] from hd ⟨4, .data⟩ (by simp) rfl)
      exact Tn.gives_call _ _ (Tn.exec_call1 38 (.tmp 12) #[60] _ rfl e0 (Tn.cf Tryd.func38 (by kernel_rfl) (by kernel_rfl) _ _)) ((Cd.join_any W _ 2 2 [s, Cd.nums [c]] rfl hn (by rw [show Cd.join [s, Cd.nums [c]] = numB s c from rfl, numB_length HL.out]; omega)).mono fun e W' ⟨sp, cap, h1, h2, h3⟩ => ⟨_, h1, hC.trans (h3.mono hC.size), h3, (show ∃ sp cap, _ ∧ _ from ⟨sp, cap, by rw [show Cd.join [s, Cd.nums [c]] = numB s c from rfl, numB_length HL.out], h2⟩)⟩)
    simp only [Act.put, List.setIfInBounds_toArray, List.set_cons_succ, List.set_cons_zero, Nat.reduceAdd]
    refine Tn.spec_cons (fun W hC hd => ⟨by rfl, ?_⟩) ?_
    · obtain ⟨sp, cap, e0, hn⟩ := (show ∃ sp cap, u 5 = .slice sp 48 cap ∧ Cd.Bytes W sp cap (numB s c) from hd ⟨5, .data⟩ (by simp) rfl)
      exact Tn.gives_call _ _ (Tn.exec_call1 37 (.tmp 13) #[57] _ rfl e0 (Tn.cf Tryd.func37 (by kernel_rfl) (by kernel_rfl) _ _)) ((sum_any W sp 48 cap (numB s c) (numB_length HL.out c) (bytes_of hn) (HE.out.below (HV.out.below.trans (hC.mono HV.out.below.size))) (by omega)).mono fun e W' h => ⟨_, h.1, hC.trans (h.2.mono hC.size), h.2, rfl⟩)
    simp only [Act.put, List.setIfInBounds_toArray, List.set_cons_succ, List.set_cons_zero, Nat.reduceAdd]
    rw [h6]
    refine Tn.spec_cons (fun W hC hd => ⟨by rfl, ?_⟩) ?_
    · exact Tn.gives_val _ _ (exec_allocD rfl) ⟨hC.alloc hC.size _, (Below.refl _ _).alloc (Nat.le_refl _) _, (show ∃ g, _ ∧ _ from ⟨W.heap.size, rfl, hC.size, heap_alloc_new _ _⟩)⟩
    simp only [Act.put, List.setIfInBounds_toArray, List.set_cons_succ, List.set_cons_zero, Nat.reduceAdd]
    exact Tn.spec_nil
  · intro u W hu hC hP
    have h6 := hu 6 _ rfl
    obtain ⟨g, h7, hg, hD⟩ := (show ∃ g, u 7 = .pointer (some ⟨g, 0, none⟩) ∧ v.heap.size ≤ g ∧ Dg W g (zs 32) from hP 7 (by omega))
    simp only [List.take_succ_cons, List.take_zero, List.drop_succ_cons, List.drop_zero, Tn.putAll, Act.put, List.setIfInBounds_toArray, List.set_cons_succ, List.set_cons_zero, Nat.reduceAdd]
    rw [h6, h7]
    have HD : Hid (Dg W g (zs 32)) := Lib.hid hD
    have HB1 := Lib.hid (HV.out.below.trans (hC.mono HV.out.below.size))
    have hgw : w.heap.size ≤ g := Nat.le_trans HV.out.below.size hg
    clear hu h6 h7 hC hP hD
    have HZ := Lib.hid (row_dig (numD_length s c))
    have HY := Lib.hid (row_dig0 (numD_length s c))
    have HX := Lib.hid (rowB_one (numD s c))
    have HFl := Lib.hid (numD_length s c)
    have HFr := Lib.hid (rng_numD s c)
    have HNv : Hid (Cd.val ((numD s c).take 8) % 9223372036854775808 = numV s c) := Lib.hid rfl
    obtain ⟨F, hF⟩ : ∃ F, numD s c = F := ⟨_, rfl⟩
    rw [hF] at HZ HY HX HFl HFr HNv ⊢
    clear hF
    have r8 := run_first8 g
    go_upto_region 2 with (refine wpList_store_row rfl 23 (.tmp 5) (.tmp 14) rfl g (rowB F) rfl rfl 23 _ HD.out HZ.out HY.out HX.out ?_)
    refine gen_w (Q := fun w => Code.wp _ _ _ _ w) _ (fun V => Below w.heap.size w V ∧ Dg V g F) ⟨below_setRow HB1.out hgw _, setRow_heap _ _ _ _ _ _ HD.out⟩ ?_
    rintro w2 ⟨hb2, hd2⟩
    have HB2 := Lib.hid hb2
    have HBy : Hid (Cd.Bytes w2 (some ⟨g, 0, none⟩) 8 (F.take 8)) := Lib.hid (by
      have h := (hd2.bytes HFl.out HFr.out)
      refine ⟨⟨by rw [List.length_map, List.length_take]; omega, by unfold maxLen; omega, (fun h => by cases h), fun _ => ?_⟩, Cd.rng_take h.rng 8⟩
      obtain ⟨c', o', e', hl⟩ := h.sl.lies (by rw [List.length_map, HFl.out]; omega)
      refine ⟨c', o', e', ?_⟩
      rw [List.map_take]
      exact hl.take 8)
    have HTl := Lib.hid (show (F.take 8).length = 8 by rw [List.length_take, HFl.out]; rfl)
    have HTr : Hid (Cd.rng (F.take 8)) := Lib.hid (Cd.rng_take HFr.out 8)
    clear hb2 hd2
    obtain ⟨T, hT⟩ : ∃ T, F.take 8 = T := ⟨_, rfl⟩
    rw [hT] at HBy HTl HTr HNv
    clear hT
    go_wp2_with fail
    refine (Cd.ints_ok w2 (some ⟨g, 0, none⟩) 8 8 1 T HTl.out rfl HBy.out (by omega)).mono ?_
    rintro e w3 ⟨g3, rfl, hn3, hb3⟩
    have HB3 := Lib.hid (HB2.out.trans (hb3.mono HB2.out.size))
    obtain ⟨c3, o3, e3, hl3⟩ := hn3.lies (by simp [Cd.ints])
    have c1 := hl3 0 (.int .i64 (Cd.num T)) (by simp [Cd.ints, List.take_of_length_le (show T.length ≤ 8 by rw [HTl.out]; omega)])
    cases e3
    rw [Nat.zero_add] at c1
    have ha := and_max (Cd.num T) (num_in T).1 (num_in T).2
    rw [num_mod T HTl.out HTr.out, HNv.out] at ha
    have HNi := Lib.hid (numV_in s c)
    obtain ⟨x, hx⟩ : ∃ x, Cd.num T = x := ⟨_, rfl⟩
    rw [hx] at c1 ha
    obtain ⟨y, hy⟩ : ∃ y, numV s c = y := ⟨_, rfl⟩
    rw [hy] at ha HNi
    have HYv := Lib.hid hy
    obtain ⟨hy1, hy2⟩ := HNi.out
    have hwy : IntKind.i64.wrap y = y := IntWalk.i64_in _ (by omega)
    clear hx hy hn3 hb3 hl3
    go_wp2
    go_ret
    exact ⟨by rw [HYv.out]; rfl, HB3.out⟩
end Go.Proofs.YtmolkbmdfkeniaaDoor.Dr
