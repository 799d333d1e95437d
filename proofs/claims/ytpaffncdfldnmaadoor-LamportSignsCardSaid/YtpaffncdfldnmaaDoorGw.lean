import Derived.Test.YtpaffncdfldnmaaDoorAk
import Derived.Test.YtpaffncdfldnmaaDoorRp
namespace Go.Proofs.YtpaffncdfldnmaaDoor
open Go.ChangeShapes Go.WideShapes Go.ChangeAt Go.RowKit

theorem Stood.twoG (w : World) (a b : List Int) : Stood w [(w.heap.size, a), (w.heap.size + 1, b)] ((w.alloc (.cells (rowB a) 23)).alloc (.cells (rowB b) 23)) := by
  refine ⟨((Below.refl _ _).alloc (Nat.le_refl _) _).alloc (by simp) _, fun x hx => ?_⟩
  rcases List.mem_cons.1 hx with rfl | hx
  · exact (Below.heap_alloc _ _ _ (by simp)).trans (heap_alloc_new _ _)
  · rcases List.mem_singleton.1 hx with rfl
    have := heap_alloc_new (w.alloc (.cells (rowB a) 23)) (.cells (rowB b) 23)
    simp only [World.size_alloc] at this
    exact this
set_option maxRecDepth 100000 in
set_option maxHeartbeats 4000000 in
theorem signs_no (w : World) (s m : List Int) (x : Int) (he : Env w) (h : x < 0 ∨ 255 < x) :
    Calls Tryd.prog 5 #[.agg (rowB s), .agg (rowB m), .int .i64 x] w fun e w' => e = .returned (.bool true) ∧ Below w.heap.size w w' := by
  have HE := Lib.hid he
  clear he
  by_cases c1 : x < 0
  · have d1 : decide (x < 0) = true := by simpa using c1
    go_enter Tryd.func5, Tryd.ntmps5
    go_upto_region 1 with fail
    refine gen_world (Q := fun w => Code.wp _ _ _ _ w) _ (Stood w [(w.heap.size, s), (w.heap.size + 1, m)]) (Stood.twoG w s m) ?_
    intro v hv
    have HV := Lib.hid hv
    clear hv
    go_wp2_with (go_at_call 7; refine (awake_any v (HE.out.below HV.out.below)).mono ?_; rintro e w4 ⟨rfl, hb4⟩; have HB4 := Lib.hid (HV.out.below.trans (hb4.mono HV.out.below.size)); clear hb4)
    go_ret
    exact ⟨rfl, HB4.out⟩
  · have d1 : decide (x < 0) = false := by simpa using c1
    have c2 : 255 < x := by omega
    have d2 : decide (255 < x) = true := by simpa using c2
    go_enter Tryd.func5, Tryd.ntmps5
    go_upto_region 1 with fail
    refine gen_world (Q := fun w => Code.wp _ _ _ _ w) _ (Stood w [(w.heap.size, s), (w.heap.size + 1, m)]) (Stood.twoG w s m) ?_
    intro v hv
    have HV := Lib.hid hv
    clear hv
    go_wp2_with (go_at_call 7; refine (awake_any v (HE.out.below HV.out.below)).mono ?_; rintro e w4 ⟨rfl, hb4⟩; have HB4 := Lib.hid (HV.out.below.trans (hb4.mono HV.out.below.size)); clear hb4)
    go_ret
    exact ⟨rfl, HB4.out⟩
set_option maxRecDepth 100000 in
set_option maxHeartbeats 4000000 in
theorem signs_yes (w : World) (s m : List Int) (p : Nat) (hs : s.length = 32) (hr : Cd.rng s) (hm : m.length = 32) (hmr : ∀ x ∈ m, 0 ≤ x ∧ x < 256) (he : Env w) (hp : p < 256) :
    Calls Tryd.prog 5 #[.agg (rowB s), .agg (rowB m), .int .i64 (p : Int)] w fun e w' => e = .returned (.bool true) ∧ Below w.heap.size w w' := by
  have HE := Lib.hid he
  have HZs := Lib.hid (row_dig hs)
  have HZm := Lib.hid (row_dig hm)
  have HSg := Lib.hid (fun W (h : Env W) => sign_any W s m hs hr hm hmr h)
  have HBt := Lib.hid (fun W => refBit_any W m p hm hmr hp)
  have HSig := Lib.hid (row_sig (sgO_length s m) (sgR_length s m))
  have HSl := Lib.hid (sigL_length (sgO_length s m) (sgR_length s m))
  have HOl := Lib.hid (sgO_length s m)
  have HRl := Lib.hid (sgR_length s m)
  have hbl := bitD_lt m p
  have HOp : Hid (sgO s m p = secD s p (bitD m p)) := Lib.hid rfl
  have HRp : Hid (sgR s m p = sum (secD s p (1 - bitD m p))) := Lib.hid rfl
  have HRf1 := Lib.hid (fun W => refSecret_any W s p (bitD m p) hs hr (by omega) (by omega))
  have HRf2 := Lib.hid (fun W => refSecret_any W s p (1 - bitD m p) hs hr (by omega) (by omega))
  have hz32 := secD_length s p (1 - bitD m p)
  have e1 : (1 : Int) - ((bitD m p : Nat) : Int) = ((1 - bitD m p : Nat) : Int) := by omega
  obtain ⟨o, ho⟩ : ∃ o, sgO s m = o := ⟨_, rfl⟩
  obtain ⟨r, hrr⟩ : ∃ r, sgR s m = r := ⟨_, rfl⟩
  rw [ho, hrr] at HSg HSig HSl
  rw [ho] at HOl HOp
  rw [hrr] at HRl HRp
  clear ho hrr
  obtain ⟨B, hB⟩ : ∃ B, bitD m p = B := ⟨_, rfl⟩
  rw [hB] at HBt HOp HRp HRf1 HRf2 hz32 e1 hbl
  obtain ⟨N, hN⟩ : ∃ N, 1 - B = N := ⟨_, rfl⟩
  rw [hN] at HRp HRf2 hz32 e1
  obtain ⟨z, hz⟩ : ∃ z, secD s p N = z := ⟨_, rfl⟩
  rw [hz] at HRp HRf2 hz32
  obtain ⟨x, hx⟩ : ∃ x, secD s p B = x := ⟨_, rfl⟩
  rw [hx] at HOp HRf1
  obtain ⟨y, hy⟩ : ∃ y, sum z = y := ⟨_, rfl⟩
  rw [hy] at HRp
  have hy32 : y.length = 32 := by rw [← hy]; exact sum_length _
  have hx32 : x.length = 32 := by rw [← HOp.out]; exact HOl.out p
  have HSum := Lib.hid (fun W sp cap (hby : Byt W sp cap z) (h : Env W) => by have := sum_any W sp 32 cap z hz32 hby.by_ h (by omega); rw [hy] at this; exact this)
  clear hs hr hm hmr he hB hN hz hx hy
  obtain ⟨L, hL⟩ : ∃ L, sigL o r = L := ⟨_, rfl⟩
  have HLq := Lib.hid hL
  rw [hL] at HSg HSig HSl
  clear hL
  have HXl := Lib.hid (rowB_one L)
  have HZz := Lib.hid (row_dig hz32)
  have HYz := Lib.hid (show 32 = (rowB z).size by rw [rowB_size, hz32])
  have HXz := Lib.hid (rowB_one z)
  have HZ32 := Lib.hid hz32
  have HX32 := Lib.hid hx32
  have HY32 := Lib.hid hy32
  clear hz32 hx32 hy32
  obtain ⟨Y, hYs, hYn, hYz⟩ := zero_sig_ex
  have HYl := Lib.hid (show Y.size = (rowB L).size by rw [rowB_size, HSl.out, hYs])
  have d1 : decide ((p : Int) < 0) = false := by simp
  have d2 : decide ((255 : Int) < (p : Int)) = false := by simp; omega
  have d2' : decide (255 < p) = false := by simp; omega
  go_enter Tryd.func5, Tryd.ntmps5
  go_upto_region 1 with fail
  refine gen_world (Q := fun w => Code.wp _ _ _ _ w) _ (Stood w [(w.heap.size, s), (w.heap.size + 1, m)]) (Stood.twoG w s m) ?_
  intro v hv
  have HV := Lib.hid hv
  clear hv
  go_upto_region 4 with (first
    | (refine wpList_load_row rfl 23 (.tmp 3) rfl w.heap.size rfl 23 (rowB s) (0, 0) _ (HV.out.all (w.heap.size, s) (by simp)) Tryd.underlying23 rfl HZs.out ?_)
    | (refine wpList_load_row rfl 23 (.tmp 4) rfl (w.heap.size + 1) rfl 23 (rowB m) (0, 0) _ (HV.out.all (w.heap.size + 1, m) (by simp)) Tryd.underlying23 rfl HZm.out ?_)
    | (go_at_call 11; refine (HSg.out v (HE.out.below HV.out.below)).mono ?_; rintro e w2 ⟨rfl, hb2⟩; have H2 := Lib.hid (HV.out.later hb2); clear hb2)
    | (refine wpList_store_row rfl 34 (.tmp 7) (.tmp 19) rfl w2.heap.size (rowB L) rfl rfl 34 Y (heap_alloc_new _ _) HSig.out HYl.out HXl.out ?_))
  try simp only [Act.put]
  refine gen_world (Q := fun w => Code.wp _ _ _ _ w) _ (fun W => Wk w o r w2.heap.size [(w.heap.size, s), (w.heap.size + 1, m)] W) ⟨H2.out.later (below_setRow ((Below.refl _ _).alloc (Nat.le_refl _) _) (Nat.le_refl _) _), ?_⟩ ?_
  · show _ = _
    rw [HLq.out]
    exact setRow_heap _ _ _ _ _ _ (heap_alloc_new _ _)
  intro w3 h3
  have H3 := Lib.hid h3
  clear h3 hYs hYn hYz
  go_upto_region 6 with (first
    | (refine wpList_load_row rfl 23 (.tmp 4) rfl (w.heap.size + 1) rfl 23 (rowB m) (0, 0) _ (H3.out.st.all (w.heap.size + 1, m) (by simp)) Tryd.underlying23 rfl HZm.out ?_)
    | (go_at_call 12; refine (HBt.out w3).mono ?_; rintro e w4 ⟨rfl, hb4⟩; have H4 := Lib.hid (H3.out.later hb4); clear hb4)
    | (refine wpList_load_row rfl 23 (.tmp 3) rfl w.heap.size rfl 23 (rowB s) (0, 0) _ (H4.out.st.all (w.heap.size, s) (by simp)) Tryd.underlying23 rfl HZs.out ?_)
    | (go_at_call 8; refine (HRf2.out w4).mono ?_; rintro e w5 ⟨rfl, hb5⟩; have H5 := Lib.hid (H4.out.later hb5); clear hb5)
    | (refine wpList_store_row rfl 23 (.tmp 9) (.tmp 27) rfl w5.heap.size (rowB z) rfl rfl 23 _ (heap_alloc_new _ _) HZz.out HYz.out HXz.out ?_))
  try simp only [Act.put]
  refine gen_world (Q := fun w => Code.wp _ _ _ _ w) _ (fun W => Wk w o r w2.heap.size [(w5.heap.size, z), (w.heap.size, s), (w.heap.size + 1, m)] W) (H5.out.more _ z) ?_
  intro w6 h6
  have H6 := Lib.hid h6
  clear h6
  have dS : ∀ W, Below w6.heap.size w6 W → Dg W w.heap.size s := fun W hb => (H6.out.later hb).st.all (w.heap.size, s) (by simp)
  have dZ : ∀ W, Below w6.heap.size w6 W → Dg W w5.heap.size z := fun W hb => (H6.out.later hb).st.all (w5.heap.size, z) (by simp)
  have dX : ∀ W, Below w6.heap.size w6 W → W.rangeAt w2.heap.size (0 + 32 * p) (x.map (Value.int .u8)) := fun W hb => by
    have := (H6.out.later hb).sg.o_range HOl.out HRl.out p hp
    rw [HOp.out] at this
    rw [Nat.zero_add]
    exact this
  have dY : ∀ W, Below w6.heap.size w6 W → W.rangeAt w2.heap.size (8192 + 32 * p) (y.map (Value.int .u8)) := fun W hb => by
    have := (H6.out.later hb).sg.r_range HOl.out HRl.out p hp
    rw [HRp.out] at this
    rw [show 8192 + 32 * p = 32 * (256 + p) by omega]
    exact this
  have eW : ∀ W, Below w6.heap.size w6 W → Env W := fun W hb => HE.out.below (H6.out.later hb).st.below
  refine wp_region_spec (C := (fun W => Below w6.heap.size w6 W)) (Le := fun _ _ => True) 21 (fun ixx _ v => v = ([.int .i64 (p : Int), .pointer (some ⟨w2.heap.size, 0, none⟩), .pointer (some ⟨w2.heap.size, 0 + 32 * p, none⟩), .agg (rowB x), .agg (rowB s), .int .i64 (p : Int), .int .i64 (B : Int), .agg (rowB x), .bool true, .bool true, .int .i64 (p : Int), .pointer (some ⟨w2.heap.size, 8192, none⟩), .pointer (some ⟨w2.heap.size, 8192 + 32 * p, none⟩), .agg (rowB y), .slice (some ⟨w5.heap.size, 0, none⟩) 32 32, .agg (rowB y), .bool true, .bool true, .bool true, .bool true, .bool true] : List Value).getD ixx undef) (by kernel_rfl) (by kernel_rfl) ⟨rfl, rfl, rfl, Nat.le_refl _, fun _ _ => rfl⟩ (fun _ _ _ _ _ h => h) (fun ixx v => v = ([.int .i64 (p : Int), .pointer (some ⟨w2.heap.size, 0, none⟩), .pointer (some ⟨w2.heap.size, 0 + 32 * p, none⟩), .agg (rowB x), .agg (rowB s), .int .i64 (p : Int), .int .i64 (B : Int), .agg (rowB x), .bool true, .bool true, .int .i64 (p : Int), .pointer (some ⟨w2.heap.size, 8192, none⟩), .pointer (some ⟨w2.heap.size, 8192 + 32 * p, none⟩), .agg (rowB y), .slice (some ⟨w5.heap.size, 0, none⟩) 32 32, .agg (rowB y), .bool true, .bool true, .bool true, .bool true, .bool true] : List Value).getD ixx undef) (fun _ _ _ h => h) (fun ixx => ([.int .i64 (p : Int), .pointer (some ⟨w2.heap.size, 0, none⟩), .pointer (some ⟨w2.heap.size, 0 + 32 * p, none⟩), .agg (rowB x), .agg (rowB s), .int .i64 (p : Int), .int .i64 (B : Int), .agg (rowB x), .bool true, .bool true, .int .i64 (p : Int), .pointer (some ⟨w2.heap.size, 8192, none⟩), .pointer (some ⟨w2.heap.size, 8192 + 32 * p, none⟩), .agg (rowB y), .slice (some ⟨w5.heap.size, 0, none⟩) 32 32, .agg (rowB y), .bool true, .bool true, .bool true, .bool true, .bool true] : List Value).getD ixx undef) (fun _ => rfl) ?_ ?_
  · intro u hu
    have h0 : u 0 = .int .i64 (p : Int) := hu 0
    have h1 : u 1 = .pointer (some ⟨w2.heap.size, 0, none⟩) := hu 1
    have h2 : u 2 = .pointer (some ⟨w2.heap.size, 0 + 32 * p, none⟩) := hu 2
    have h3 : u 3 = .agg (rowB x) := hu 3
    have h4 : u 4 = .agg (rowB s) := hu 4
    have h5 : u 5 = .int .i64 (p : Int) := hu 5
    have h6 : u 6 = .int .i64 (B : Int) := hu 6
    have h7 : u 7 = .agg (rowB x) := hu 7
    have h8 : u 8 = .bool true := hu 8
    have h9 : u 9 = .bool true := hu 9
    have h10 : u 10 = .int .i64 (p : Int) := hu 10
    have h11 : u 11 = .pointer (some ⟨w2.heap.size, 8192, none⟩) := hu 11
    have h12 : u 12 = .pointer (some ⟨w2.heap.size, 8192 + 32 * p, none⟩) := hu 12
    have h13 : u 13 = .agg (rowB y) := hu 13
    have h14 : u 14 = .slice (some ⟨w5.heap.size, 0, none⟩) 32 32 := hu 14
    have h15 : u 15 = .agg (rowB y) := hu 15
    have h16 : u 16 = .bool true := hu 16
    have h17 : u 17 = .bool true := hu 17
    have h18 : u 18 = .bool true := hu 18
    have h19 : u 19 = .bool true := hu 19
    have h20 : u 20 = .bool true := hu 20
    simp only [List.take_succ_cons, List.take_zero]
    refine spec_cons (fun W hC hd => ⟨by rfl, ?_⟩) ?_
    · exact gives_val _ W (rfl) ⟨hC, trivial, rfl⟩
    simp only [Act.put, List.setIfInBounds_toArray, List.set_cons_succ, List.set_cons_zero, Nat.reduceAdd]
    rw [h0]
    refine spec_cons (fun W hC hd => ⟨by rfl, ?_⟩) ?_
    · exact gives_val _ W (exec_open (.tmp 7) rfl w2.heap.size rfl) ⟨hC, trivial, rfl⟩
    simp only [Act.put, List.setIfInBounds_toArray, List.set_cons_succ, List.set_cons_zero, Nat.reduceAdd]
    rw [h1]
    refine spec_cons (fun W hC hd => ⟨by rfl, ?_⟩) ?_
    · exact gives_val _ W (exec_arr_at 32 23 256 32 Tryd.underlying32 size25 (.tmp 29) (.tmp 28) rfl w2.heap.size 0 p rfl rfl hp) ⟨hC, trivial, rfl⟩
    simp only [Act.put, List.setIfInBounds_toArray, List.set_cons_succ, List.set_cons_zero, Nat.reduceAdd]
    rw [h2]
    refine spec_cons (fun W hC hd => ⟨by rfl, ?_⟩) ?_
    · exact gives_val _ W (exec_load_mid (.tmp 30) rfl w2.heap.size (0 + 32 * p) rfl x HX32.out (dX W hC)) ⟨hC, trivial, rfl⟩
    simp only [Act.put, List.setIfInBounds_toArray, List.set_cons_succ, List.set_cons_zero, Nat.reduceAdd]
    rw [h3]
    refine spec_cons (fun W hC hd => ⟨by rfl, ?_⟩) ?_
    · exact gives_val _ W (exec_load_row 23 (.tmp 3) rfl (w.heap.size) rfl 23 (rowB s) (0, 0) _ (dS W hC) Tryd.underlying23 rfl HZs.out) ⟨hC, trivial, rfl⟩
    simp only [Act.put, List.setIfInBounds_toArray, List.set_cons_succ, List.set_cons_zero, Nat.reduceAdd]
    rw [h4]
    refine spec_cons (fun W hC hd => ⟨by rfl, ?_⟩) ?_
    · exact gives_val _ W (rfl) ⟨hC, trivial, rfl⟩
    simp only [Act.put, List.setIfInBounds_toArray, List.set_cons_succ, List.set_cons_zero, Nat.reduceAdd]
    rw [h5]
    refine spec_cons (fun W hC hd => ⟨by rfl, ?_⟩) ?_
    · exact gives_val _ W (rfl) ⟨hC, trivial, rfl⟩
    simp only [Act.put, List.setIfInBounds_toArray, List.set_cons_succ, List.set_cons_zero, Nat.reduceAdd]
    rw [h6]
    refine spec_cons (fun W hC hd => ⟨by rfl, ?_⟩) ?_
    · exact gives_call _ _ (exec_call3 8 (.tmp 32) (.tmp 33) (.tmp 34) #[23, 3, 3] _ _ _ rfl rfl rfl rfl (cf Tryd.func8 (by kernel_rfl) (by kernel_rfl) _ _)) ((HRf1.out W).mono fun e W' h => ⟨_, h.1, hC.trans (h.2.mono hC.size), trivial, rfl⟩)
    simp only [Act.put, List.setIfInBounds_toArray, List.set_cons_succ, List.set_cons_zero, Nat.reduceAdd]
    rw [h7]
    refine spec_cons (fun W hC hd => ⟨by rfl, ?_⟩) ?_
    · exact gives_val _ W (eqD_yes (.tmp 31) (.tmp 35) rfl x rfl rfl HX32.out) ⟨hC, trivial, rfl⟩
    simp only [Act.put, List.setIfInBounds_toArray, List.set_cons_succ, List.set_cons_zero, Nat.reduceAdd]
    rw [h8]
    refine spec_cons (fun W hC hd => ⟨by rfl, ?_⟩) ?_
    · exact gives_val _ W (rfl) ⟨hC, trivial, rfl⟩
    simp only [Act.put, List.setIfInBounds_toArray, List.set_cons_succ, List.set_cons_zero, Nat.reduceAdd]
    rw [h9]
    refine spec_cons (fun W hC hd => ⟨by rfl, ?_⟩) ?_
    · exact gives_val _ W (rfl) ⟨hC, trivial, rfl⟩
    simp only [Act.put, List.setIfInBounds_toArray, List.set_cons_succ, List.set_cons_zero, Nat.reduceAdd]
    rw [h10]
    refine spec_cons (fun W hC hd => ⟨by rfl, ?_⟩) ?_
    · exact gives_val _ W (exec_rest (.tmp 7) rfl w2.heap.size rfl) ⟨hC, trivial, rfl⟩
    simp only [Act.put, List.setIfInBounds_toArray, List.set_cons_succ, List.set_cons_zero, Nat.reduceAdd]
    rw [h11]
    refine spec_cons (fun W hC hd => ⟨by rfl, ?_⟩) ?_
    · exact gives_val _ W (exec_arr_at 32 23 256 32 Tryd.underlying32 size25 (.tmp 39) (.tmp 38) rfl w2.heap.size 8192 p rfl rfl hp) ⟨hC, trivial, rfl⟩
    simp only [Act.put, List.setIfInBounds_toArray, List.set_cons_succ, List.set_cons_zero, Nat.reduceAdd]
    rw [h12]
    refine spec_cons (fun W hC hd => ⟨by rfl, ?_⟩) ?_
    · exact gives_val _ W (exec_load_mid (.tmp 40) rfl w2.heap.size (8192 + 32 * p) rfl y HY32.out (dY W hC)) ⟨hC, trivial, rfl⟩
    simp only [Act.put, List.setIfInBounds_toArray, List.set_cons_succ, List.set_cons_zero, Nat.reduceAdd]
    rw [h13]
    refine spec_cons (fun W hC hd => ⟨by rfl, ?_⟩) ?_
    · exact gives_val _ W (exec_slD (.tmp 9) rfl w5.heap.size rfl) ⟨hC, trivial, rfl⟩
    simp only [Act.put, List.setIfInBounds_toArray, List.set_cons_succ, List.set_cons_zero, Nat.reduceAdd]
    rw [h14]
    refine spec_cons (fun W hC hd => ⟨by rfl, ?_⟩) ?_
    · exact gives_call _ _ (exec_call1 13 (.tmp 42) #[38] _ rfl rfl (cf Tryd.func13 (by kernel_rfl) (by kernel_rfl) _ _)) ((HSum.out W _ _ ((dZ W hC).byt HZ32.out) (eW W hC)).mono fun e W' h => ⟨_, h.1, hC.trans (h.2.mono hC.size), trivial, rfl⟩)
    simp only [Act.put, List.setIfInBounds_toArray, List.set_cons_succ, List.set_cons_zero, Nat.reduceAdd]
    rw [h15]
    refine spec_cons (fun W hC hd => ⟨by rfl, ?_⟩) ?_
    · exact gives_val _ W (eqD_yes (.tmp 41) (.tmp 43) rfl y rfl rfl HY32.out) ⟨hC, trivial, rfl⟩
    simp only [Act.put, List.setIfInBounds_toArray, List.set_cons_succ, List.set_cons_zero, Nat.reduceAdd]
    rw [h16]
    refine spec_cons (fun W hC hd => ⟨by rfl, ?_⟩) ?_
    · exact gives_val _ W (rfl) ⟨hC, trivial, rfl⟩
    simp only [Act.put, List.setIfInBounds_toArray, List.set_cons_succ, List.set_cons_zero, Nat.reduceAdd]
    rw [h17]
    refine spec_cons (fun W hC hd => ⟨by rfl, ?_⟩) ?_
    · exact gives_val _ W (rfl) ⟨hC, trivial, rfl⟩
    simp only [Act.put, List.setIfInBounds_toArray, List.set_cons_succ, List.set_cons_zero, Nat.reduceAdd]
    rw [h18]
    refine spec_cons (fun W hC hd => ⟨by rfl, ?_⟩) ?_
    · exact gives_call _ _ (exec_call0 7 #[] rfl (cf Tryd.func7 (by kernel_rfl) (by kernel_rfl) _ _)) ((awake_any W (eW W hC)).mono fun e W' h => ⟨_, h.1, hC.trans (h.2.mono hC.size), trivial, rfl⟩)
    simp only [Act.put, List.setIfInBounds_toArray, List.set_cons_succ, List.set_cons_zero, Nat.reduceAdd]
    rw [h19]
    refine spec_cons (fun W hC hd => ⟨by rfl, ?_⟩) ?_
    · exact gives_val _ W (rfl) ⟨hC, trivial, rfl⟩
    simp only [Act.put, List.setIfInBounds_toArray, List.set_cons_succ, List.set_cons_zero, Nat.reduceAdd]
    rw [h20]
    exact spec_nil
  intro u W hu hC _
  have h0 : u 0 = .int .i64 (p : Int) := hu 0
  have h1 : u 1 = .pointer (some ⟨w2.heap.size, 0, none⟩) := hu 1
  have h2 : u 2 = .pointer (some ⟨w2.heap.size, 0 + 32 * p, none⟩) := hu 2
  have h3 : u 3 = .agg (rowB x) := hu 3
  have h4 : u 4 = .agg (rowB s) := hu 4
  have h5 : u 5 = .int .i64 (p : Int) := hu 5
  have h6 : u 6 = .int .i64 (B : Int) := hu 6
  have h7 : u 7 = .agg (rowB x) := hu 7
  have h8 : u 8 = .bool true := hu 8
  have h9 : u 9 = .bool true := hu 9
  have h10 : u 10 = .int .i64 (p : Int) := hu 10
  have h11 : u 11 = .pointer (some ⟨w2.heap.size, 8192, none⟩) := hu 11
  have h12 : u 12 = .pointer (some ⟨w2.heap.size, 8192 + 32 * p, none⟩) := hu 12
  have h13 : u 13 = .agg (rowB y) := hu 13
  have h14 : u 14 = .slice (some ⟨w5.heap.size, 0, none⟩) 32 32 := hu 14
  have h15 : u 15 = .agg (rowB y) := hu 15
  have h16 : u 16 = .bool true := hu 16
  have h17 : u 17 = .bool true := hu 17
  have h18 : u 18 = .bool true := hu 18
  have h19 : u 19 = .bool true := hu 19
  have h20 : u 20 = .bool true := hu 20
  simp only [List.take_succ_cons, List.take_zero, List.drop_succ_cons, List.drop_zero, putAll, Act.put, List.setIfInBounds_toArray, List.set_cons_succ, List.set_cons_zero, Nat.reduceAdd]
  rw [h0, h1, h2, h3, h4, h5, h6, h7, h8, h9, h10, h11, h12, h13, h14, h15, h16, h17, h18, h19, h20]
  clear hu h0 h1 h2 h3 h4 h5 h6 h7 h8 h9 h10 h11 h12 h13 h14 h15 h16 h17 h18 h19 h20
  have HW := Lib.hid ((H6.out.later hC).st.below)
  clear hC dS dZ dX dY eW
  go_wp2
  go_ret
  exact ⟨rfl, HW.out⟩
theorem signs_walk (w : World) (s m : List Int) (x : Int) (hs : s.length = 32) (hr : Cd.rng s) (hm : m.length = 32) (hmr : ∀ x ∈ m, 0 ≤ x ∧ x < 256) (he : Env w) :
    Calls Tryd.prog 5 #[.agg (rowB s), .agg (rowB m), .int .i64 x] w fun e w' => e = .returned (.bool true) ∧ Below w.heap.size w w' := by
  by_cases h : x < 0 ∨ 255 < x
  · exact signs_no w s m x he h
  · obtain ⟨p, rfl⟩ := Int.eq_ofNat_of_zero_le (show 0 ≤ x by omega)
    exact signs_yes w s m p hs hr hm hmr he (by omega)
end Go.Proofs.YtpaffncdfldnmaaDoor
