import Derived.Test.YtpaffncdfldnmaaDoorLj
namespace Go.Proofs.YtpaffncdfldnmaaDoor
open Go.ChangeShapes Go.WideShapes Go.ChangeAt Go.RowKit

section
variable {w : World} {ops : Array Oper} {rest : List Oper} {o : Oper} {a : Act} {Q : Exit → Act → World → Prop}
theorem wpList_make16 (hgd : o.guard = none) (s x : Operand) (ho : o.op = .makeSlice 38 s x) (hs : a.eval s = .int .i64 16384) (hx : a.eval x = .int .i64 16384) (f : Nat → List Int)
    (h : ∀ w', Bd w' w.heap.size 5 512 f (fun j => j < 0 ∨ (256 ≤ j ∧ j < 256 + 0)) → Below w.heap.size w w' → wpList Tryd.prog ops Q rest (a.put o.dst (.slice (some ⟨w.heap.size, 0, none⟩) 16384 16384)) w') : wpList Tryd.prog ops Q (o :: rest) a w := by
  refine Cd.wpList_makeN 38 5 1 (.int .u8 0) Tryd.underlying38 Cd.info5 (by decide) hgd s x ho 16384 hs hx (by omega) ?_
  refine h _ (Bd.made w _ 5 512 f _ ?_ (fun p => by omega)) ((Below.refl _ _).alloc (Nat.le_refl _) _)
  rw [show (Value.int .u8 0).cells = #[Value.int .u8 0] from rfl, Cd.made_bytes, Cd.rowB_size, List.length_replicate]
end
set_option maxRecDepth 100000 in
set_option maxHeartbeats 4000000 in
theorem encode_any (w : World) (o r : Nat → List Int) (ho : ∀ i, (o i).length = 32) (hr : ∀ i, (r i).length = 32) :
    Calls Tryd.prog 16 #[.agg (rowB (sigL o r))] w fun e w' => ∃ g, e = .returned (.slice (some ⟨g, 0, none⟩) 16384 16384) ∧ w'.heap[g]? = some (.cells (rowB (sigL o r)) 5 (0, 0)) ∧ Below w.heap.size w w' := by
  have HO := Lib.hid ho
  have HR := Lib.hid hr
  have HSg := Lib.hid (fun (X : Array Value) (hX : X = rowB (sigL o r)) => show SigAt (w.alloc (.cells X 34)) w.heap.size o r by subst hX; exact heap_alloc_new _ _)
  have HLe : Hid (sigL o r = rowP (sf o r) 512) := Lib.hid rfl
  obtain ⟨L, hL⟩ : ∃ L, sigL o r = L := ⟨_, rfl⟩
  rw [hL] at HSg HLe
  have HLq := Lib.hid hL
  clear ho hr hL
  go_enter Tryd.func16, Tryd.ntmps16
  go_upto_region 1 with fail
  refine gen_world (Q := fun w => Code.wp _ _ _ _ w) _ (fun W => Below w.heap.size w W ∧ SigAt W w.heap.size o r ∧ W.heap.size = w.heap.size + 1) ⟨(Below.refl _ _).alloc (Nat.le_refl _) _, HSg.out _ (by rw [HLq.out]), by simp⟩ ?_
  rintro w1 ⟨hb1, hs1, hz1⟩
  have HB1 := Lib.hid hb1
  have HS1 := Lib.hid hs1
  have HZ1 := Lib.hid hz1
  clear hb1 hs1 hz1
  go_wp2_with (refine wpList_make16 rfl (.const (.int .i64 16384)) (.const (.int .i64 16384)) rfl rfl rfl (sf o r) ?_; intro w2 hd2 hb2)
  refine (each_enc w2 w.heap.size w1.heap.size 16384 o r rfl HO.out HR.out (HS1.out.below hb2) hd2 (by have := HZ1.out; omega)).mono ?_
  rintro e w3 ⟨rfl, he3⟩
  have HF := Lib.hid (he3.bd.full (sf_length HO.out HR.out) (fun p hp => by omega))
  have HW := Lib.hid ((HB1.out.trans (hb2.mono HB1.out.size)).trans (Below.ofGrown he3.grown (Nat.le_trans HB1.out.size hb2.size) (fun j e => by cases e; exact HB1.out.size)))
  rw [← HLe.out] at HF
  clear hd2 hb2 he3
  go_wp2
  go_ret
  exact ⟨w1.heap.size, rfl, by rw [HLq.out]; exact HF.out, HW.out⟩

/-! ### awake -/
def exS : List Int := 1 :: zs 31
def exM : List Int := 2 :: 3 :: zs 30
theorem exS_len : exS.length = 32 := rfl
theorem exM_len : exM.length = 32 := rfl
theorem exS_rng : Cd.rng exS := by unfold Cd.rng exS zs; decide
theorem exM_rng : ∀ x ∈ exM, 0 ≤ x ∧ x < 256 := by unfold exM zs; decide
theorem exM_bit : bitD exM 0 = 0 := by decide +kernel
theorem ex_open : sgO exS exM 0 = secD exS 0 0 := by unfold sgO; rw [exM_bit]
theorem ex_ne : (secD exS 0 0 == zs 32) = false := by
  rw [beq_eq_false_iff_ne]
  unfold secD secB
  decide +kernel
theorem ex_key : sum (keyB (kD exM (sgO exS exM) (sgR exS exM))) = pubD exS := by rw [keyB_sign]; rfl
theorem row_exS : #[Value.int .u8 1, .int .u8 0, .int .u8 0, .int .u8 0, .int .u8 0, .int .u8 0, .int .u8 0, .int .u8 0, .int .u8 0, .int .u8 0, .int .u8 0, .int .u8 0, .int .u8 0, .int .u8 0, .int .u8 0, .int .u8 0, .int .u8 0, .int .u8 0, .int .u8 0, .int .u8 0, .int .u8 0, .int .u8 0, .int .u8 0, .int .u8 0, .int .u8 0, .int .u8 0, .int .u8 0, .int .u8 0, .int .u8 0, .int .u8 0, .int .u8 0, .int .u8 0] = rowB exS := by kernel_rfl
/-- the blocks of awake -/
structure Wk (w : World) (o r : Nat → List Int) (g3 : Nat) (ds : List (Nat × List Int)) (W : World) : Prop where
  st : Stood w ds W
  sg : SigAt W g3 o r
theorem Wk.later {w W W' : World} {o r : Nat → List Int} {g3 : Nat} {ds : List (Nat × List Int)} (h : Wk w o r g3 ds W) (hb : Below W.heap.size W W') : Wk w o r g3 ds W' := ⟨h.st.later hb, h.sg.below hb⟩
theorem Wk.more {w W : World} {o r : Nat → List Int} {g3 : Nat} {ds : List (Nat × List Int)} (h : Wk w o r g3 ds W) (X : Array Value) (d : List Int) : Wk w o r g3 ((W.heap.size, d) :: ds) ((W.alloc (.cells X 23)).setRow W.heap.size (rowB d)) :=
  ⟨h.st.more X d, h.sg.below (below_setRow ((Below.refl _ _).alloc (Nat.le_refl _) _) (Nat.le_refl _) _)⟩
theorem Stood.nil (w : World) : Stood w [] w := ⟨Below.refl _ _, fun x hx => by cases hx⟩
theorem eqD_yes {a : Act} {o : Oper} {W : World} (x y : Operand) (ho : o.op = .binOp .eql 23 x y 23) (d : List Int) (hx : a.eval x = .agg (rowB d)) (hy : a.eval y = .agg (rowB d)) (hd : d.length = 32) : (execOp a.eval o).run Tryd.prog W = .ok (.value (.bool true)) W := by
  have h := exec_eqD (W := W) x y ho d d hx hy hd hd
  rw [beq_self_eq_true] at h
  exact h
theorem neD_yes {a : Act} {o : Oper} {W : World} (x y : Operand) (ho : o.op = .binOp .neq 23 x y 23) (d e : List Int) (hx : a.eval x = .agg (rowB d)) (hy : a.eval y = .agg (rowB e)) (hd : d.length = 32) (he : e.length = 32) (hne : (d == e) = false) : (execOp a.eval o).run Tryd.prog W = .ok (.value (.bool true)) W := by
  have h := exec_neD (W := W) x y ho d e hx hy hd he
  rw [hne] at h
  exact h
set_option maxRecDepth 100000 in
set_option maxHeartbeats 8000000 in
theorem awake_any (w : World) (he : Env w) : Calls Tryd.prog 7 #[] w fun e w' => e = .returned (.bool true) ∧ Below w.heap.size w w' := by
  have HE := Lib.hid he
  have HL := Lib.hid exS_len
  have HR : Hid (Cd.rng exS) := exS_rng
  have HM := Lib.hid exM_len
  have HMr : Hid (∀ x ∈ exM, 0 ≤ x ∧ x < 256) := Lib.hid exM_rng
  have HOp := Lib.hid ex_open
  have HNe := Lib.hid ex_ne
  have HKy := Lib.hid ex_key
  have HB1 : Hid (∀ (a : Act) (o : Oper) (W : World), o.op = .build 23 #[(0, .const (.int .u8 1))] → (execOp a.eval o).run Tryd.prog W = .ok (.value (.agg (rowB exS))) W) := Lib.hid (fun a o W h => exec_built 23 _ h (rowB exS) (by kernel_rfl))
  have HB2 : Hid (∀ (a : Act) (o : Oper) (W : World), o.op = .build 23 #[(0, .const (.int .u8 2)), (1, .const (.int .u8 3))] → (execOp a.eval o).run Tryd.prog W = .ok (.value (.agg (rowB exM))) W) := Lib.hid (fun a o W h => exec_built 23 _ h (rowB exM) (by kernel_rfl))
  have HSig := Lib.hid (row_sig (sgO_length exS exM) (sgR_length exS exM))
  have HSl := Lib.hid (sigL_length (sgO_length exS exM) (sgR_length exS exM))
  have HOl := Lib.hid (sgO_length exS exM)
  have HRl := Lib.hid (sgR_length exS exM)
  have HSgn := Lib.hid (fun W (h : Env W) => sign_any W exS exM exS_len exS_rng exM_len exM_rng h)
  have HPb := Lib.hid (fun W (h : Env W) => public_any W exS exS_len exS_rng h)
  have HSc := Lib.hid (fun W (h : Env W) => secret_yes W exS 0 0 exS_len exS_rng h (by omega) (by omega))
  have HPl : Hid ((pubD exS).length = 32) := Lib.hid (by unfold pubD; exact sum_length _)
  have HDl := Lib.hid (secD_length exS 0 0)
  have HKey := Lib.hid (fun W (h : Env W) => key_any W exM (sgO exS exM) (sgR exS exM) exM_len exM_rng (sgO_length exS exM) (sgR_length exS exM) h)
  rw [HKy.out] at HKey
  clear he HKy
  obtain ⟨S, hS⟩ : ∃ S, exS = S := ⟨_, rfl⟩
  obtain ⟨M, hM⟩ : ∃ M, exM = M := ⟨_, rfl⟩
  obtain ⟨o, ho⟩ : ∃ o, sgO exS exM = o := ⟨_, rfl⟩
  obtain ⟨r, hr⟩ : ∃ r, sgR exS exM = r := ⟨_, rfl⟩
  obtain ⟨P, hP⟩ : ∃ P, pubD exS = P := ⟨_, rfl⟩
  obtain ⟨D, hD⟩ : ∃ D, secD exS 0 0 = D := ⟨_, rfl⟩
  rw [ho, hr] at HSig HSl HSgn HKey
  rw [ho] at HOl HOp
  rw [hr] at HRl
  rw [hP] at HPb HPl HKey
  rw [hD] at HSc HDl HOp HNe
  rw [hS] at HL HR HB1 HSgn HPb HSc
  rw [hM] at HM HMr HB2 HSgn HKey
  clear hS hM ho hr hP hD
  have HEnc := Lib.hid (fun W => encode_any W o r HOl.out HRl.out)
  obtain ⟨L, hL⟩ : ∃ L, sigL o r = L := ⟨_, rfl⟩
  have HLq := Lib.hid hL
  rw [hL] at HSig HSl HSgn HKey HEnc
  clear hL
  have HZs := Lib.hid (row_dig HL.out)
  have HYs := Lib.hid (show 32 = (rowB S).size by rw [rowB_size, HL.out])
  have HXs := Lib.hid (rowB_one S)
  have HZm := Lib.hid (row_dig HM.out)
  have HYm := Lib.hid (show 32 = (rowB M).size by rw [rowB_size, HM.out])
  have HXm := Lib.hid (rowB_one M)
  have HZd := Lib.hid (row_dig HDl.out)
  have HYd := Lib.hid (show 32 = (rowB D).size by rw [rowB_size, HDl.out])
  have HXd := Lib.hid (rowB_one D)
  have HXl := Lib.hid (rowB_one L)
  obtain ⟨Y, hYs, hYn, hYz⟩ := zero_sig_ex
  have HYl := Lib.hid (show Y.size = (rowB L).size by rw [rowB_size, HSl.out, hYs])
  go_enter Tryd.func7, Tryd.ntmps7
  go_upto_region 2 with (first
    | (refine wpList_val rfl (.agg (rowB S)) (HB1.out _ _ _ rfl) ?_)
    | (refine wpList_store_row rfl 23 (.tmp 1) (.tmp 7) rfl w.heap.size (rowB S) rfl rfl 23 _ (heap_alloc_new _ _) HZs.out HYs.out HXs.out ?_))
  try simp only [Act.put]
  refine gen_world (Q := fun w => Code.wp _ _ _ _ w) _ (fun W => Stood w [(w.heap.size, S)] W ∧ W.heap.size = w.heap.size + 1) ⟨(Stood.nil w).more _ S, by simp⟩ ?_
  rintro w1 ⟨hs1, hz1⟩
  have HS1 := Lib.hid hs1
  have HZ1 := Lib.hid hz1
  clear hs1 hz1
  go_upto_region 3 with (first
    | (refine wpList_val rfl (.agg (rowB M)) (HB2.out _ _ _ rfl) ?_)
    | (refine wpList_store_row rfl 23 (.tmp 2) (.tmp 8) rfl w1.heap.size (rowB M) rfl rfl 23 _ (heap_alloc_new _ _) HZm.out HYm.out HXm.out ?_))
  try simp only [Act.put]
  refine gen_world (Q := fun w => Code.wp _ _ _ _ w) _ (fun W => Stood w [(w1.heap.size, M), (w.heap.size, S)] W) (HS1.out.more _ M) ?_
  intro w2 hs2
  have HS2 := Lib.hid hs2
  clear hs2
  go_wp2_with (first
    | (refine wpList_load_row rfl 23 (.tmp 1) rfl w.heap.size rfl 23 (rowB S) (0, 0) _ (HS2.out.all (w.heap.size, S) (by simp)) Tryd.underlying23 rfl HZs.out ?_)
    | (refine wpList_load_row rfl 23 (.tmp 2) rfl w1.heap.size rfl 23 (rowB M) (0, 0) _ (HS2.out.all (w1.heap.size, M) (by simp)) Tryd.underlying23 rfl HZm.out ?_))
  refine (HSgn.out w2 (HE.out.below HS2.out.below)).mono ?_
  rintro e w3 ⟨rfl, hb3⟩
  have HS3 := Lib.hid (HS2.out.later hb3)
  clear hb3
  go_upto_region 4 with (refine wpList_store_row rfl 34 (.tmp 3) (.tmp 11) rfl w3.heap.size (rowB L) rfl rfl 34 Y (heap_alloc_new _ _) HSig.out HYl.out HXl.out ?_)
  try simp only [Act.put]
  refine gen_world (Q := fun w => Code.wp _ _ _ _ w) _ (fun W => Wk w o r w3.heap.size [(w1.heap.size, M), (w.heap.size, S)] W) ⟨HS3.out.later (below_setRow ((Below.refl _ _).alloc (Nat.le_refl _) _) (Nat.le_refl _) _), ?_⟩ ?_
  · show _ = _
    rw [HLq.out]
    exact setRow_heap _ _ _ _ _ _ (heap_alloc_new _ _)
  intro w4 hw4
  have HW4 := Lib.hid hw4
  have HRg := Lib.hid (hw4.sg.o_range HOl.out HRl.out 0 (by omega))
  rw [HOp.out, Nat.mul_zero] at HRg
  clear hw4 hYs hYn hYz
  go_upto_region 5 with (first
    | (refine wpList_val rfl (.pointer (some ⟨w3.heap.size, 0, none⟩)) (exec_open (.tmp 3) rfl w3.heap.size rfl) ?_)
    | (refine wpList_val rfl (.pointer (some ⟨w3.heap.size, 0, none⟩)) (exec_arr_at 32 23 256 32 Tryd.underlying32 size25 (.tmp 12) (.const (.int .i64 0)) rfl w3.heap.size 0 0 rfl rfl (by omega)) ?_)
    | (refine wpList_val rfl (.agg (rowB D)) (exec_load_mid (.tmp 13) rfl w3.heap.size 0 rfl D HDl.out HRg.out) ?_)
    | (refine wpList_store_row rfl 23 (.tmp 4) (.tmp 14) rfl w4.heap.size (rowB D) rfl rfl 23 _ (heap_alloc_new _ _) HZd.out HYd.out HXd.out ?_))
  try simp only [Act.put]
  refine gen_world (Q := fun w => Code.wp _ _ _ _ w) _ (fun W => Wk w o r w3.heap.size [(w4.heap.size, D), (w1.heap.size, M), (w.heap.size, S)] W) (HW4.out.more _ D) ?_
  intro w5 hw5
  have HW5 := Lib.hid hw5
  clear hw5 HRg
  go_wp2_with (refine wpList_load_row rfl 23 (.tmp 1) rfl w.heap.size rfl 23 (rowB S) (0, 0) _ (HW5.out.st.all (w.heap.size, S) (by simp)) Tryd.underlying23 rfl HZs.out ?_)
  refine (HSc.out w5 (HE.out.below HW5.out.st.below)).mono ?_
  rintro e w6 ⟨rfl, hb6⟩
  have HW6 := Lib.hid (HW5.out.later hb6)
  clear hb6
  go_upto_region 6 with (refine wpList_store_row rfl 23 (.tmp 5) (.tmp 18) rfl w6.heap.size (rowB D) rfl rfl 23 _ (heap_alloc_new _ _) HZd.out HYd.out HXd.out ?_)
  try simp only [Act.put]
  refine gen_world (Q := fun w => Code.wp _ _ _ _ w) _ (fun W => Wk w o r w3.heap.size [(w6.heap.size, D), (w4.heap.size, D), (w1.heap.size, M), (w.heap.size, S)] W) (HW6.out.more _ D) ?_
  intro w7 hw7
  have HW7 := Lib.hid hw7
  clear hw7
  have dS : ∀ W, Below w7.heap.size w7 W → Dg W w.heap.size S := fun W hb => (HW7.out.later hb).st.all (w.heap.size, S) (by simp)
  have dM : ∀ W, Below w7.heap.size w7 W → Dg W w1.heap.size M := fun W hb => (HW7.out.later hb).st.all (w1.heap.size, M) (by simp)
  have dD : ∀ W, Below w7.heap.size w7 W → Dg W w4.heap.size D := fun W hb => (HW7.out.later hb).st.all (w4.heap.size, D) (by simp)
  have dE : ∀ W, Below w7.heap.size w7 W → Dg W w6.heap.size D := fun W hb => (HW7.out.later hb).st.all (w6.heap.size, D) (by simp)
  have dL : ∀ W, Below w7.heap.size w7 W → W.heap[w3.heap.size]? = some (.cells (rowB L) 34 (0, 0)) := fun W hb => by have := (HW7.out.later hb).sg; unfold SigAt at this; rw [HLq.out] at this; exact this
  have eW : ∀ W, Below w7.heap.size w7 W → Env W := fun W hb => HE.out.below (HW7.out.later hb).st.below
  refine wp_region_spec (C := (fun W => Below w7.heap.size w7 W)) (Le := fun _ _ => True) 26 (fun j _ v => (j = 22 → (fun v : Value => ∃ g, v = .slice (some ⟨g, 0, none⟩) 16384 16384) v) ∧ (j ≠ 22 → v = ([.agg (rowB M), .agg (rowB L), .agg (rowB P), .agg (rowB S), .agg (rowB P), .bool true, .bool true, .agg (rowB D), .agg (rowB D), .bool true, .bool true, .bool true, .int .i64 0, .bool true, .bool true, .bool true, .agg (rowB D), .agg (rowB (zs 32)), .bool true, .bool true, .bool true, .agg (rowB L), undef, .int .i64 16384, .bool true, .bool true] : List Value).getD j undef)) (by kernel_rfl) (by kernel_rfl) ⟨rfl, rfl, rfl, Nat.le_refl _, fun _ _ => rfl⟩ (fun _ _ _ _ _ h => h) (fun j v => j ≠ 22 → v = ([.agg (rowB M), .agg (rowB L), .agg (rowB P), .agg (rowB S), .agg (rowB P), .bool true, .bool true, .agg (rowB D), .agg (rowB D), .bool true, .bool true, .bool true, .int .i64 0, .bool true, .bool true, .bool true, .agg (rowB D), .agg (rowB (zs 32)), .bool true, .bool true, .bool true, .agg (rowB L), undef, .int .i64 16384, .bool true, .bool true] : List Value).getD j undef) (fun _ _ _ h => h.2) (fun j => ([.agg (rowB M), .agg (rowB L), .agg (rowB P), .agg (rowB S), .agg (rowB P), .bool true, .bool true, .agg (rowB D), .agg (rowB D), .bool true, .bool true, .bool true, .int .i64 0, .bool true, .bool true, .bool true, .agg (rowB D), .agg (rowB (zs 32)), .bool true, .bool true, .bool true, .agg (rowB L), undef, .int .i64 16384, .bool true, .bool true] : List Value).getD j undef) (fun _ _ => rfl) ?_ ?_
  · intro u hu
    have h0 : u 0 = .agg (rowB M) := hu 0 (by decide)
    have h1 : u 1 = .agg (rowB L) := hu 1 (by decide)
    have h2 : u 2 = .agg (rowB P) := hu 2 (by decide)
    have h3 : u 3 = .agg (rowB S) := hu 3 (by decide)
    have h4 : u 4 = .agg (rowB P) := hu 4 (by decide)
    have h5 : u 5 = .bool true := hu 5 (by decide)
    have h6 : u 6 = .bool true := hu 6 (by decide)
    have h7 : u 7 = .agg (rowB D) := hu 7 (by decide)
    have h8 : u 8 = .agg (rowB D) := hu 8 (by decide)
    have h9 : u 9 = .bool true := hu 9 (by decide)
    have h10 : u 10 = .bool true := hu 10 (by decide)
    have h11 : u 11 = .bool true := hu 11 (by decide)
    have h12 : u 12 = .int .i64 0 := hu 12 (by decide)
    have h13 : u 13 = .bool true := hu 13 (by decide)
    have h14 : u 14 = .bool true := hu 14 (by decide)
    have h15 : u 15 = .bool true := hu 15 (by decide)
    have h16 : u 16 = .agg (rowB D) := hu 16 (by decide)
    have h17 : u 17 = .agg (rowB (zs 32)) := hu 17 (by decide)
    have h18 : u 18 = .bool true := hu 18 (by decide)
    have h19 : u 19 = .bool true := hu 19 (by decide)
    have h20 : u 20 = .bool true := hu 20 (by decide)
    have h21 : u 21 = .agg (rowB L) := hu 21 (by decide)
    have h23 : u 23 = .int .i64 16384 := hu 23 (by decide)
    have h24 : u 24 = .bool true := hu 24 (by decide)
    have h25 : u 25 = .bool true := hu 25 (by decide)
    simp only [List.take_succ_cons, List.take_zero]
    refine spec_cons (fun W hC hd => ⟨by rfl, ?_⟩) ?_
    · exact gives_val _ W (exec_load_row 23 (.tmp 2) rfl w1.heap.size rfl 23 (rowB M) (0, 0) _ (dM W hC) Tryd.underlying23 rfl HZm.out) ⟨hC, trivial, (fun h => absurd h (by decide)), fun _ => rfl⟩
    simp only [Act.put, List.setIfInBounds_toArray, List.set_cons_succ, List.set_cons_zero, Nat.reduceAdd]
    rw [h0]
    refine spec_cons (fun W hC hd => ⟨by rfl, ?_⟩) ?_
    · exact gives_val _ W (exec_load_row 34 (.tmp 3) rfl w3.heap.size rfl 34 (rowB L) (0, 0) _ (dL W hC) Tryd.underlying34 rfl HSig.out) ⟨hC, trivial, (fun h => absurd h (by decide)), fun _ => rfl⟩
    simp only [Act.put, List.setIfInBounds_toArray, List.set_cons_succ, List.set_cons_zero, Nat.reduceAdd]
    rw [h1]
    refine spec_cons (fun W hC hd => ⟨by rfl, ?_⟩) ?_
    · exact gives_call _ _ (exec_call2 15 (.tmp 20) (.tmp 21) #[23, 34] _ _ rfl rfl rfl (cf Tryd.func15 (by kernel_rfl) (by kernel_rfl) _ _)) ((HKey.out W (eW W hC)).mono fun e W' h => ⟨_, h.1, hC.trans (h.2.mono hC.size), trivial, (fun h => absurd h (by decide)), fun _ => rfl⟩)
    simp only [Act.put, List.setIfInBounds_toArray, List.set_cons_succ, List.set_cons_zero, Nat.reduceAdd]
    rw [h2]
    refine spec_cons (fun W hC hd => ⟨by rfl, ?_⟩) ?_
    · exact gives_val _ W (exec_load_row 23 (.tmp 1) rfl w.heap.size rfl 23 (rowB S) (0, 0) _ (dS W hC) Tryd.underlying23 rfl HZs.out) ⟨hC, trivial, (fun h => absurd h (by decide)), fun _ => rfl⟩
    simp only [Act.put, List.setIfInBounds_toArray, List.set_cons_succ, List.set_cons_zero, Nat.reduceAdd]
    rw [h3]
    refine spec_cons (fun W hC hd => ⟨by rfl, ?_⟩) ?_
    · exact gives_call _ _ (exec_call1 9 (.tmp 23) #[23] _ rfl rfl (cf Tryd.func9 (by kernel_rfl) (by kernel_rfl) _ _)) ((HPb.out W (eW W hC)).mono fun e W' h => ⟨_, h.1, hC.trans (h.2.mono hC.size), trivial, (fun h => absurd h (by decide)), fun _ => rfl⟩)
    simp only [Act.put, List.setIfInBounds_toArray, List.set_cons_succ, List.set_cons_zero, Nat.reduceAdd]
    rw [h4]
    refine spec_cons (fun W hC hd => ⟨by rfl, ?_⟩) ?_
    · exact gives_val _ W (eqD_yes (.tmp 22) (.tmp 24) rfl P rfl rfl HPl.out) ⟨hC, trivial, (fun h => absurd h (by decide)), fun _ => rfl⟩
    simp only [Act.put, List.setIfInBounds_toArray, List.set_cons_succ, List.set_cons_zero, Nat.reduceAdd]
    rw [h5]
    refine spec_cons (fun W hC hd => ⟨by rfl, ?_⟩) ?_
    · exact gives_val _ W (rfl) ⟨hC, trivial, (fun h => absurd h (by decide)), fun _ => rfl⟩
    simp only [Act.put, List.setIfInBounds_toArray, List.set_cons_succ, List.set_cons_zero, Nat.reduceAdd]
    rw [h6]
    refine spec_cons (fun W hC hd => ⟨by rfl, ?_⟩) ?_
    · exact gives_val _ W (exec_load_row 23 (.tmp 4) rfl w4.heap.size rfl 23 (rowB D) (0, 0) _ (dD W hC) Tryd.underlying23 rfl HZd.out) ⟨hC, trivial, (fun h => absurd h (by decide)), fun _ => rfl⟩
    simp only [Act.put, List.setIfInBounds_toArray, List.set_cons_succ, List.set_cons_zero, Nat.reduceAdd]
    rw [h7]
    refine spec_cons (fun W hC hd => ⟨by rfl, ?_⟩) ?_
    · exact gives_val _ W (exec_load_row 23 (.tmp 5) rfl w6.heap.size rfl 23 (rowB D) (0, 0) _ (dE W hC) Tryd.underlying23 rfl HZd.out) ⟨hC, trivial, (fun h => absurd h (by decide)), fun _ => rfl⟩
    simp only [Act.put, List.setIfInBounds_toArray, List.set_cons_succ, List.set_cons_zero, Nat.reduceAdd]
    rw [h8]
    refine spec_cons (fun W hC hd => ⟨by rfl, ?_⟩) ?_
    · exact gives_val _ W (eqD_yes (.tmp 27) (.tmp 28) rfl D rfl rfl HDl.out) ⟨hC, trivial, (fun h => absurd h (by decide)), fun _ => rfl⟩
    simp only [Act.put, List.setIfInBounds_toArray, List.set_cons_succ, List.set_cons_zero, Nat.reduceAdd]
    rw [h9]
    refine spec_cons (fun W hC hd => ⟨by rfl, ?_⟩) ?_
    · exact gives_val _ W (rfl) ⟨hC, trivial, (fun h => absurd h (by decide)), fun _ => rfl⟩
    simp only [Act.put, List.setIfInBounds_toArray, List.set_cons_succ, List.set_cons_zero, Nat.reduceAdd]
    rw [h10]
    refine spec_cons (fun W hC hd => ⟨by rfl, ?_⟩) ?_
    · exact gives_val _ W (rfl) ⟨hC, trivial, (fun h => absurd h (by decide)), fun _ => rfl⟩
    simp only [Act.put, List.setIfInBounds_toArray, List.set_cons_succ, List.set_cons_zero, Nat.reduceAdd]
    rw [h11]
    refine spec_cons (fun W hC hd => ⟨by rfl, ?_⟩) ?_
    · exact gives_val _ W (rfl) ⟨hC, trivial, (fun h => absurd h (by decide)), fun _ => rfl⟩
    simp only [Act.put, List.setIfInBounds_toArray, List.set_cons_succ, List.set_cons_zero, Nat.reduceAdd]
    rw [h12]
    refine spec_cons (fun W hC hd => ⟨by rfl, ?_⟩) ?_
    · exact gives_val _ W (exec_binOp .eql 24 24 (.tmp 32) (.const (.int .i64 0)) rfl (.int .i64 0) (.int .i64 0) (.bool true) rfl rfl rfl (by simp [go_sem])) ⟨hC, trivial, (fun h => absurd h (by decide)), fun _ => rfl⟩
    simp only [Act.put, List.setIfInBounds_toArray, List.set_cons_succ, List.set_cons_zero, Nat.reduceAdd]
    rw [h13]
    refine spec_cons (fun W hC hd => ⟨by rfl, ?_⟩) ?_
    · exact gives_val _ W (rfl) ⟨hC, trivial, (fun h => absurd h (by decide)), fun _ => rfl⟩
    simp only [Act.put, List.setIfInBounds_toArray, List.set_cons_succ, List.set_cons_zero, Nat.reduceAdd]
    rw [h14]
    refine spec_cons (fun W hC hd => ⟨by rfl, ?_⟩) ?_
    · exact gives_val _ W (rfl) ⟨hC, trivial, (fun h => absurd h (by decide)), fun _ => rfl⟩
    simp only [Act.put, List.setIfInBounds_toArray, List.set_cons_succ, List.set_cons_zero, Nat.reduceAdd]
    rw [h15]
    refine spec_cons (fun W hC hd => ⟨by rfl, ?_⟩) ?_
    · exact gives_val _ W (exec_load_row 23 (.tmp 4) rfl w4.heap.size rfl 23 (rowB D) (0, 0) _ (dD W hC) Tryd.underlying23 rfl HZd.out) ⟨hC, trivial, (fun h => absurd h (by decide)), fun _ => rfl⟩
    simp only [Act.put, List.setIfInBounds_toArray, List.set_cons_succ, List.set_cons_zero, Nat.reduceAdd]
    rw [h16]
    refine spec_cons (fun W hC hd => ⟨by rfl, ?_⟩) ?_
    · exact gives_val _ W (exec_built 23 #[] rfl (rowB (zs 32)) (by kernel_rfl)) ⟨hC, trivial, (fun h => absurd h (by decide)), fun _ => rfl⟩
    simp only [Act.put, List.setIfInBounds_toArray, List.set_cons_succ, List.set_cons_zero, Nat.reduceAdd]
    rw [h17]
    refine spec_cons (fun W hC hd => ⟨by rfl, ?_⟩) ?_
    · exact gives_val _ W (neD_yes (.tmp 36) (.tmp 37) rfl D (zs 32) rfl rfl HDl.out rfl HNe.out) ⟨hC, trivial, (fun h => absurd h (by decide)), fun _ => rfl⟩
    simp only [Act.put, List.setIfInBounds_toArray, List.set_cons_succ, List.set_cons_zero, Nat.reduceAdd]
    rw [h18]
    refine spec_cons (fun W hC hd => ⟨by rfl, ?_⟩) ?_
    · exact gives_val _ W (rfl) ⟨hC, trivial, (fun h => absurd h (by decide)), fun _ => rfl⟩
    simp only [Act.put, List.setIfInBounds_toArray, List.set_cons_succ, List.set_cons_zero, Nat.reduceAdd]
    rw [h19]
    refine spec_cons (fun W hC hd => ⟨by rfl, ?_⟩) ?_
    · exact gives_val _ W (rfl) ⟨hC, trivial, (fun h => absurd h (by decide)), fun _ => rfl⟩
    simp only [Act.put, List.setIfInBounds_toArray, List.set_cons_succ, List.set_cons_zero, Nat.reduceAdd]
    rw [h20]
    refine spec_cons (fun W hC hd => ⟨by rfl, ?_⟩) ?_
    · exact gives_val _ W (exec_load_row 34 (.tmp 3) rfl w3.heap.size rfl 34 (rowB L) (0, 0) _ (dL W hC) Tryd.underlying34 rfl HSig.out) ⟨hC, trivial, (fun h => absurd h (by decide)), fun _ => rfl⟩
    simp only [Act.put, List.setIfInBounds_toArray, List.set_cons_succ, List.set_cons_zero, Nat.reduceAdd]
    rw [h21]
    refine spec_cons (fun W hC hd => ⟨by rfl, ?_⟩) ?_
    · exact gives_call _ _ (exec_call1 16 (.tmp 41) #[34] _ rfl rfl (cf Tryd.func16 (by kernel_rfl) (by kernel_rfl) _ _)) ((HEnc.out W).mono fun e W' ⟨g, h1, _, h3⟩ => ⟨_, h1, hC.trans (h3.mono hC.size), trivial, (fun _ => ⟨g, rfl⟩), fun h => absurd rfl h⟩)
    simp only [Act.put, List.setIfInBounds_toArray, List.set_cons_succ, List.set_cons_zero, Nat.reduceAdd]
    refine spec_cons (fun W hC hd => ⟨by rfl, ?_⟩) ?_
    · obtain ⟨g, e0⟩ := (hd ⟨22, .data⟩ (by simp) rfl).1 rfl
      exact gives_val _ W (exec_len (.tmp 42) rfl _ 16384 16384 e0) ⟨hC, trivial, (fun h => absurd h (by decide)), fun _ => rfl⟩
    simp only [Act.put, List.setIfInBounds_toArray, List.set_cons_succ, List.set_cons_zero, Nat.reduceAdd]
    rw [h23]
    refine spec_cons (fun W hC hd => ⟨by rfl, ?_⟩) ?_
    · exact gives_val _ W (exec_binOp .eql 3 3 (.tmp 43) (.const (.int .i64 16384)) rfl (.int .i64 16384) (.int .i64 16384) (.bool true) rfl rfl rfl (by simp [go_sem])) ⟨hC, trivial, (fun h => absurd h (by decide)), fun _ => rfl⟩
    simp only [Act.put, List.setIfInBounds_toArray, List.set_cons_succ, List.set_cons_zero, Nat.reduceAdd]
    rw [h24]
    refine spec_cons (fun W hC hd => ⟨by rfl, ?_⟩) ?_
    · exact gives_val _ W (rfl) ⟨hC, trivial, (fun h => absurd h (by decide)), fun _ => rfl⟩
    simp only [Act.put, List.setIfInBounds_toArray, List.set_cons_succ, List.set_cons_zero, Nat.reduceAdd]
    rw [h25]
    exact spec_nil
  intro u W hu hC hΦ
  have h0 : u 0 = .agg (rowB M) := hu 0 (by decide)
  have h1 : u 1 = .agg (rowB L) := hu 1 (by decide)
  have h2 : u 2 = .agg (rowB P) := hu 2 (by decide)
  have h3 : u 3 = .agg (rowB S) := hu 3 (by decide)
  have h4 : u 4 = .agg (rowB P) := hu 4 (by decide)
  have h5 : u 5 = .bool true := hu 5 (by decide)
  have h6 : u 6 = .bool true := hu 6 (by decide)
  have h7 : u 7 = .agg (rowB D) := hu 7 (by decide)
  have h8 : u 8 = .agg (rowB D) := hu 8 (by decide)
  have h9 : u 9 = .bool true := hu 9 (by decide)
  have h10 : u 10 = .bool true := hu 10 (by decide)
  have h11 : u 11 = .bool true := hu 11 (by decide)
  have h12 : u 12 = .int .i64 0 := hu 12 (by decide)
  have h13 : u 13 = .bool true := hu 13 (by decide)
  have h14 : u 14 = .bool true := hu 14 (by decide)
  have h15 : u 15 = .bool true := hu 15 (by decide)
  have h16 : u 16 = .agg (rowB D) := hu 16 (by decide)
  have h17 : u 17 = .agg (rowB (zs 32)) := hu 17 (by decide)
  have h18 : u 18 = .bool true := hu 18 (by decide)
  have h19 : u 19 = .bool true := hu 19 (by decide)
  have h20 : u 20 = .bool true := hu 20 (by decide)
  have h21 : u 21 = .agg (rowB L) := hu 21 (by decide)
  have h23 : u 23 = .int .i64 16384 := hu 23 (by decide)
  have h24 : u 24 = .bool true := hu 24 (by decide)
  have h25 : u 25 = .bool true := hu 25 (by decide)
  simp only [List.take_succ_cons, List.take_zero, List.drop_succ_cons, List.drop_zero, putAll, Act.put, List.setIfInBounds_toArray, List.set_cons_succ, List.set_cons_zero, Nat.reduceAdd]
  rw [h0, h1, h2, h3, h4, h5, h6, h7, h8, h9, h10, h11, h12, h13, h14, h15, h16, h17, h18, h19, h20, h21, h23, h24, h25]
  clear hu hΦ h0 h1 h2 h3 h4 h5 h6 h7 h8 h9 h10 h11 h12 h13 h14 h15 h16 h17 h18 h19 h20 h21 h23 h24 h25
  have HW := Lib.hid (HW7.out.later hC).st.below
  clear hC dS dM dD dE dL eW
  go_wp2
  go_ret
  exact ⟨rfl, HW.out⟩
end Go.Proofs.YtpaffncdfldnmaaDoor
