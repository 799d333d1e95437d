import Derived.Test.YtighmhoekbnagaaDoorKg
namespace Go.Proofs.YtighmhoekbnagaaDoor
open Go.ChangeShapes Go.WideShapes Go.ChangeAt Go.RowKit Go.Shelf
attribute [local go_sem] Oper.semAt_some

theorem place_yes (i n : Int) (w : World) (h0 : 0 ≤ i) (h1 : i < n) : Calls Tryd.prog 37 #[.int .i64 i, .int .i64 n] w fun e w' => e = .returned (.bool true) ∧ w = w' := by
  have d1 : decide (0 ≤ i) = true := by simp; omega
  have d2 : decide (i < n) = true := by simp; omega
  go_enter Tryd.func37, Tryd.ntmps37
  go_wp2
  go_ret
  exact ⟨rfl, rfl⟩
theorem place_no (i n : Int) (w : World) (h : ¬ (0 ≤ i ∧ i < n)) : Calls Tryd.prog 37 #[.int .i64 i, .int .i64 n] w fun e w' => e = .returned (.bool false) ∧ w = w' := by
  by_cases h0 : 0 ≤ i
  · have d1 : decide (0 ≤ i) = true := by simp; omega
    have d2 : decide (i < n) = false := by simp; omega
    go_enter Tryd.func37, Tryd.ntmps37
    go_wp2
    go_ret
    exact ⟨rfl, rfl⟩
  · have d1 : decide (0 ≤ i) = false := by simp; omega
    go_enter Tryd.func37, Tryd.ntmps37
    go_wp2
    go_ret
    exact ⟨rfl, rfl⟩
/-- the proof of the i-th leaf -/
def proofD (i : Nat) (ls : List (List Int)) : List (List Int) := pf nodeD ls.length i (ls.map leafD)
theorem proofD_wy (ls : List (List Int)) (i : Nat) (hi : i < ls.length) (hl : ls.length ≤ 2 ^ 63) : proofD i ls = (wy ls.length i 63).map (fun x => rootD (seg ls x.1 x.2)) := by
  unfold proofD
  rw [pf_any nodeD (H := ls.length) (K := 63) i (by simpa using two_pow_ge _) (by simpa using hl), pf_wy nodeD 63 i _ (by simpa using hi) (by simpa using hl), List.length_map]
  apply List.map_congr_left
  intro x hx
  obtain ⟨h1, h2⟩ := wy_pow ls.length i 63 x hx hi
  rw [seg_map, rootD_rt (seg ls x.1 x.2) (fun e => ?_) x.1 (seg_len _ _ _)]
  have := seg_length ls x.1 x.2
  have hp := pow_pos2 x.1
  rw [e] at this
  simp at this
  omega
theorem proofD_all (i : Nat) (ls : List (List Int)) (hi : i < ls.length) (hl : ls.length ≤ 2 ^ 63) : ∀ d ∈ proofD i ls, d.length = 32 := by
  rw [proofD_wy ls i hi hl]
  intro d hd
  obtain ⟨x, _, rfl⟩ := List.mem_map.1 hd
  exact rootD_length _
theorem prove_no (i : Int) (w : World) (sp : Option Addr) (n cap : Nat) (h : ¬ (0 ≤ i ∧ i < n)) :
    Calls Tryd.prog 17 #[.int .i64 i, .slice sp n cap] w fun e w' => e = .returned (.tuple #[.slice none 0 0, .int .i64 10]) ∧ Below w.heap.size w w' := by
  go_enter Tryd.func17, Tryd.ntmps17
  go_wp2_with (go_at_call 37; refine (place_no _ _ _ h).mono ?_; rintro e w' ⟨rfl, rfl⟩)
  exact bodyPost_ret (v := .tuple #[.slice none 0 0, .int .i64 10]) (by simp [results, Tryd.results17, go_sem]) rfl ⟨rfl, (Below.refl _ _).alloc (Nat.le_refl _) _⟩
/-- a load of one cell -/
theorem run_loadVar1 {P : Program} {W : World} (ty : TypeId) (p : Addr) (v : Value) (hc : W.cell? p = some v) (d : TypeDesc) (hu : P.underlying ty = some d) (hd : (match d with | .struct _ | .array _ _ => false | _ => true) = true) : (loadVar ty p).run P W = .ok v W := by
  have hag : (isAgg ty).run P W = .ok false W := by
    simp only [isAgg, Sem.run_bind, run_underlying hu, Result.andThen_ok]
    cases d <;> simp_all
  simp [loadVar, hag, go_sem, hc]
theorem exec_load1 {P : Program} {a : Act} {o : Oper} {W : World} (ty : TypeId) (x : Operand) (ho : o.op = .load ty x) (p : Addr) (hx : a.eval x = .pointer (some p)) (v : Value) (hc : W.cell? p = some v) (d : TypeDesc) (hu : P.underlying ty = some d)
    (hd : (match d with | .struct _ | .array _ _ => false | _ => true) = true) : (execOp a.eval o).run P W = .ok (.value v) W := by
  unfold execOp
  simp only [ho, hx, Instr.loadAt, Instr.sureAddr, Sem.run_bind, Sem.run_pure, Result.andThen_ok, run_loadVar1 ty p v hc d hu hd]
theorem below_keeps {B : Nat} {W W' : World} (hb : Below W.heap.size W W') : KeepsFrom B W W' := ⟨hb.size, fun k _ _ hk _ => (hb.block k (Array.getElem?_eq_some_iff.1 hk).1).trans hk⟩
theorem boxed_below {W W' : World} {B : Nat} {t : TypeId} {v : Value} (h : Boxed W B t v) (hb : Below W.heap.size W W') : Boxed W' B t v := (hb.block B h.lt).trans h
theorem owns_below {w w' : World} {base e n size : Nat} {v : Value} {xs : List Value} (h : w.ownsRow base e size v n xs) (hb : Below w.heap.size w w') : w'.ownsRow base e size v n xs :=
  h.kept (row := none) ⟨hb.os, hb.tape, hb.output, hb.size, fun k hk _ => hb.block k hk⟩ (by cases v.ownBlock <;> simp)
/-- a block of cells abides the turn of whatever is none -/
theorem row_own {β : Type} (B : Nat) (cs : Array Value) (t : TypeId) (fr : Nat × Nat) : Own (fun (_ : β) W => W.heap[B]? = some (.cells cs t fr)) := fun _ X Y row hs hg hrow =>
  (hg.block B (Array.getElem?_eq_some_iff.1 hs).1 (fun e => by obtain ⟨o, ho, hc⟩ := hrow B e.symm; rw [hs] at ho; cases ho; cases hc)).trans hs
/-- a box stays over an append to a row of digests and a store into another box -/
theorem boxed_over {W w1 : World} {B B' n₀ k : Nat} {t : TypeId} {u v : Value} {xs : List Value} {tmp : Obj} (h : Boxed W B t u) (hte : t ≠ 24) (hrow : W.ownsRow n₀ 24 32 v k xs) (hg : (W.alloc tmp).grownBy w1 v.ownBlock) (hne : B ≠ B') (v' : Value) :
    Boxed (w1.setCell ⟨B', 0, none⟩ v') B t u := ((h.alloc tmp).kept hg (h.not_row hte hrow)).other hne v'
theorem keep_boxes {bn bi : Nat} {W W' : World} {tn ti : TypeId} {vn vi : Value} (h1 : Boxed W bn tn vn) (h2 : Boxed W bi ti vi) (k1 : Boxed W' bn tn vn) (k2 : Boxed W' bi ti vi) : KeepAt bn bi W W' := fun b u hb hc => by
  rcases hb with rfl | rfl
  · rw [h1.cell] at hc; cases hc; exact k1.cell
  · rw [h2.cell] at hc; cases hc; exact k2.cell
/-- what stands between two rounds of Prove -/
def ProveI (w : World) (sp : Option Addr) (n cap i : Nat) (ls : List (List Int)) (pre : List (OnWay n i)) (W : World) : Prop :=
  ((∃ v, Boxed W (w.heap.size + 1) 33 v ∧ W.ownsRow w.heap.size 24 32 v pre.length (dcells (pre.map fun x => rootD (seg ls x.val.1 x.val.2))) ∧ True) ∧ Boxed W w.heap.size 22 (.slice sp n cap) ∧ Boxed W (w.heap.size + 2) 3 (.int .i64 n) ∧ Boxed W (w.heap.size + 3) 3 (.int .i64 i)) ∧ Below w.heap.size w W
theorem proveI_own (w : World) (sp : Option Addr) (n cap i : Nat) (ls : List (List Int)) (B : Nat) (hB : w.heap.size ≤ B) : OwnFrom B (ProveI w sp n cap i ls) :=
  OwnFrom.and (OwnFrom.and (Own.from (holdsRow_own w.heap.size (w.heap.size + 1) 33 24 32 (fun pre : List (OnWay n i) => pre.length) (fun pre => dcells (pre.map fun x => rootD (seg ls x.val.1 x.val.2))) (fun _ _ => True)) _)
    (OwnFrom.and (Own.from (boxed_own _ _ _) _) (OwnFrom.and (Own.from (boxed_own _ _ _) _) (Own.from (boxed_own _ _ _) _)))) (ownFrom_below (Nat.le_refl _) hB)
theorem cfLeaves (vs : Array Value) (W : World) : (callFunc 39 vs).run Tryd.prog W = .ok (.enter 39 vs) W := cf Tryd.func39 (by kernel_rfl) (by kernel_rfl) vs W
theorem part_size : (Tryd.prog.info? 71).map (·.size) = some 2 := by kernel_rfl
set_option maxRecDepth 100000 in
set_option maxHeartbeats 4000000 in
theorem prove_in (i : Nat) (w : World) (sp : Option Addr) (n cap : Nat) (ls : List (List Int)) (hn : ls.length = n) (hP : Pcs w sp cap ls) (he : Env w) (hm : Mild ls) (hi : i < n) :
    CallsIn Fence.wide 6 Tryd.prog 17 #[.int .i64 i, .slice sp n cap] w fun e w' => ∃ sp' cap', e = .returned (.tuple #[.slice sp' (proofD i ls).length cap', .int .i64 0]) ∧ Digs w' sp' cap' (proofD i ls) ∧ Below w.heap.size w w' := by
  have hn256 : n ≤ 256 := by rw [← hn]; exact hm.many
  have HN := Lib.hid hn
  have HP := Lib.hid hP
  have HE := Lib.hid he
  have HM : Hid (Mild ls) := hm
  clear hn hP he hm
  refine callsIn_of_wp_marks Tryd.func17 rfl trivial ?_ rfl
  simp only [Tryd.ntmps17, List.size_toArray, List.length_cons, List.length_nil, Nat.reduceAdd, Nat.reduceSub, Array.replicate_succ, Array.replicate_zero, List.push_toArray, List.append_toArray, List.nil_append, List.cons_append]
  gi_wp2_with (first
    | (refine ⟨trivial, ?_⟩; gi_at_call 37; refine (callsIn_wide.2 (place_yes _ _ _ (by omega) (by omega))).mono ?_; rintro e w' ⟨rfl, rfl⟩)
    | (refine ⟨trivial, ?_⟩; gi_at_call 38; refine (callsIn_wide.2 (way_any _ _ _)).mono ?_; rintro e w' ⟨rfl, rfl⟩))
  have b0 := (((Boxed.new w 22 (.slice sp n cap)).alloc (.cells #[.slice none 0 0] 33)).alloc (.cells #[.int .i64 n] 3)).alloc (.cells #[.int .i64 i] 3)
  have b1 := ((Boxed.new (w.alloc (.cells #[.slice sp n cap] 22)) 33 (.slice none 0 0)).alloc (.cells #[.int .i64 n] 3)).alloc (.cells #[.int .i64 i] 3)
  have b2 := (Boxed.new ((w.alloc (.cells #[.slice sp n cap] 22)).alloc (.cells #[.slice none 0 0] 33)) 3 (.int .i64 n)).alloc (.cells #[.int .i64 i] 3)
  have b3 := Boxed.new (((w.alloc (.cells #[.slice sp n cap] 22)).alloc (.cells #[.slice none 0 0] 33)).alloc (.cells #[.int .i64 n] 3)) 3 (.int .i64 i)
  simp only [World.size_alloc, Nat.add_assoc, Nat.reduceAdd] at b1 b2 b3 ⊢
  have hB0 : Below w.heap.size w ((((w.alloc (.cells #[.slice sp n cap] 22)).alloc (.cells #[.slice none 0 0] 33)).alloc (.cells #[.int .i64 n] 3)).alloc (.cells #[.int .i64 i] 3)) :=
    ((((Below.refl _ w).alloc (Nat.le_refl _) _).alloc (by simp) _).alloc (by simp; omega) _).alloc (by simp; omega) _
  have hsz : ((((w.alloc (.cells #[.slice sp n cap] 22)).alloc (.cells #[.slice none 0 0] 33)).alloc (.cells #[.int .i64 n] 3)).alloc (.cells #[.int .i64 i] 3)).heap.size = w.heap.size + 4 := by simp
  obtain ⟨W0, hW0⟩ : ∃ W0, (((w.alloc (.cells #[.slice sp n cap] 22)).alloc (.cells #[.slice none 0 0] 33)).alloc (.cells #[.int .i64 n] 3)).alloc (.cells #[.int .i64 i] 3) = W0 := ⟨_, rfl⟩
  rw [hW0] at b0 b1 b2 b3 hB0 hsz ⊢
  clear hW0
  refine wpIn_rangeFunc_ownH rfl (by omega) (gf := 55) (lb := #[.pointer (some ⟨w.heap.size + 2, 0, none⟩), .pointer (some ⟨w.heap.size + 3, 0, none⟩)]) rfl trivial (enters_of Tryd.func55 (by kernel_rfl) rfl)
    (way_stops 5 (by omega) (w.heap.size + 2) (w.heap.size + 3) n i hi (by omega) W0 b2.cell b3.cell) keep_t (fun W l o o' h1 h2 h3 h4 => keep_b W l o o' h1 h2 h3 h4) (Below.refl _ _) (fun _ => rfl)
    (ProveI w sp n cap i ls) (fun _ _ _ => False) (proveI_own w sp n cap i ls _ (by omega)) (fun _ _ _ _ _ hs _ _ => hs)
    ⟨⟨⟨_, b1, World.ownsRow_nil _ _ _ _, trivial⟩, b0, b2, b3⟩, hB0⟩
    (fun x a' W => ∃ Bx, w.heap.size + 3 < Bx ∧ W.heap[Bx]? = some (.cells #[.int .i64 x.val.1, .int .i64 x.val.2] 71 (0, 0)) ∧ a' =
      { tmps := #[.int .i64 i, .slice sp n cap, undef, .pointer (some ⟨w.heap.size, 0, none⟩), .slice none 0 0, .int .i64 0, .pointer (some ⟨w.heap.size + 1, 0, none⟩), .pointer (some ⟨Bx, 0, none⟩), .int .i64 i,
          .slice sp n cap, .int .i64 n, .bool true, .bool false, .slice sp n cap, .int .i64 n, .int .i64 i, .func (.func 55) #[] #[.pointer (some ⟨w.heap.size + 2, 0, none⟩), .pointer (some ⟨w.heap.size + 3, 0, none⟩)],
          .agg #[.int .i64 x.val.1, .int .i64 x.val.2], undef, undef, undef, undef, undef, undef, undef, undef], defers := [] })
    (fun x a' _ X Y row hs hg hr => by obtain ⟨Bx, h1, h2, h3⟩ := hs; exact ⟨Bx, h1, row_own Bx _ _ _ () X Y row h2 hg (fun r e => (hr r e).2), h3⟩)
    ?assign ?body ?done ?stop
  case assign =>
    rintro l pre x W K ⟨⟨⟨v, hv, hr, _⟩, h0, h2, h3⟩, hb⟩ hK
    have hsW := hb.size
    have l3 := h3.lt
    dsimp only [pv]
    gi_wp2
    exact hK _ _ ((KeepsOthers.alloc _ _).from _) (keep_of (by omega) (by omega) ((Below.refl _ _).alloc (Nat.le_refl _) _)) ⟨⟨⟨v, hv.alloc _, hr.alloc _, trivial⟩, h0.alloc _, h2.alloc _, h3.alloc _⟩, hb.alloc hsW _⟩ ⟨W.heap.size, l3, heap_alloc_new _ _, rfl⟩
  case body =>
    rintro l pre x a' W hl _ hI ⟨Bx, hBx, bX, rfl⟩ hlt
    have HI := Lib.hid hI
    have HBX := Lib.hid bX
    obtain ⟨⟨⟨v, hv, hr, _⟩, h0, h2, h3⟩, hb⟩ := hI
    obtain ⟨⟨px, qx⟩, hx⟩ := x
    have hpx := wy_pow n i 63 _ hx hi
    simp only at hpx bX ⊢
    have HV := Lib.hid hv
    have HR := Lib.hid hr
    have H0 := Lib.hid h0
    have H2 := Lib.hid h2
    have H3 := Lib.hid h3
    have HB := Lib.hid hb
    clear bX hv hr h0 h2 h3 hb
    gi_wp2
    refine wpIn_region_float (C := fun W' => Below W.heap.size W W') (S := fun W' => W'.cell? ⟨w.heap.size + 1, 0, none⟩ = some v) 5 v (by kernel_rfl) (by kernel_rfl) (fun ⟨_, _, h⟩ => h) (by kernel_rfl) ⟨rfl, rfl, rfl, Nat.le_refl _, fun _ _ => rfl⟩
      (fun W' hW' => Boxed.cell (boxed_below HV.out hW')) (fun _ _ _ h => h) _ rfl (.inl ⟨rfl, fun W' hW' => exec_load1 33 (.tmp 6) rfl ⟨w.heap.size + 1, 0, none⟩ rfl v hW' _ Tryd.underlying33 rfl⟩) ?_
    simp only [List.take_succ_cons, List.take_zero, List.drop_succ_cons, List.drop_zero, Nat.reduceSub, Act.put, List.setIfInBounds_toArray, List.set_cons_succ, List.set_cons_zero]
    have hq : qx * 2 ^ px ≤ n := by omega
    have hcap : n ≤ cap := by have := HP.out.le; rw [HN.out] at this; exact this
    have hPs := fun W' (h : Below w.heap.size w W') => (HP.out.below h).seg px qx (by rw [HN.out]; exact hq)
    have hsl := seg_length ls px qx
    rw [HN.out] at hsl
    have hms := (HM.out.drop (qx * 2 ^ px)).take (2 ^ px)
    have hpow : 2 ^ px ≤ 256 := by omega
    have hlv := fun W' => leaves_any W' px qx sp n cap hcap hn256 hq hpow
    obtain ⟨m, hm⟩ : ∃ m, min (2 ^ px) (n - qx * 2 ^ px) = m := ⟨_, rfl⟩
    obtain ⟨sp2, hsp2⟩ : ∃ x, cutA sp cap (qx * 2 ^ px) = x := ⟨_, rfl⟩
    obtain ⟨cap2, hcap2⟩ : ∃ x, cap - qx * 2 ^ px = x := ⟨_, rfl⟩
    rw [hm, hsp2, hcap2] at hlv
    rw [hsp2, hcap2] at hPs
    rw [hm] at hsl
    have HLv := Lib.hid hlv
    have HRt := Lib.hid (fun W' (h : Below w.heap.size w W') => root_any W' sp2 m cap2 (seg ls px qx) hsl (hPs W' h) (HE.out.below h) hms)
    have h32 := rootD_length (seg ls px qx)
    obtain ⟨R, hR⟩ : ∃ R, rootD (seg ls px qx) = R := ⟨_, rfl⟩
    rw [hR] at HRt h32
    have HRr := Lib.hid hR
    clear hlv hPs hsl hms hm hsp2 hcap2 hR hq hcap hpow hpx
    have hw : ∀ W', Below W.heap.size W W' → Below w.heap.size w W' := fun W' h => HB.out.trans (h.mono HB.out.size)
    refine q_val (.agg #[.int .i64 px, .int .i64 qx]) rfl (fun W' hW' => exec_load_row 71 (.tmp 7) rfl Bx rfl 71 _ (0, 0) _ ((hW'.block Bx (Array.getElem?_eq_some_iff.1 HBX.out).1).trans HBX.out) Tryd.underlying71 rfl part_size) ?_
    simp only [Act.put, List.setIfInBounds_toArray, List.set_cons_succ, List.set_cons_zero]
    refine q_val (.slice sp n cap) rfl (fun W' hW' => exec_load1 22 (.tmp 3) rfl ⟨w.heap.size, 0, none⟩ rfl _ (Boxed.cell (boxed_below H0.out hW')) _ Tryd.underlying22 rfl) ?_
    simp only [Act.put, List.setIfInBounds_toArray, List.set_cons_succ, List.set_cons_zero]
    refine q_call 39 #[.agg #[.int .i64 px, .int .i64 qx], .slice sp n cap] (.slice sp2 m cap2) rfl (fun _ _ => exec_call2 39 (.tmp 19) (.tmp 20) #[71, 22] _ _ rfl rfl rfl (cfLeaves _ _)) (fun W' hW' => (HLv.out W').mono fun e W'' h => ⟨h.1, hW'.trans (h.2.mono hW'.size)⟩) ?_
    simp only [Act.put, List.setIfInBounds_toArray, List.set_cons_succ, List.set_cons_zero]
    refine q_call 13 #[.slice sp2 m cap2] (.agg (rowB R)) rfl (fun _ _ => exec_call1 13 (.tmp 21) #[22] (.slice sp2 m cap2) rfl rfl (cfRoot _ _)) (fun W' hW' => (HRt.out W' (hw W' hW')).mono fun e W'' h => ⟨h.1, hW'.trans (h.2.mono hW'.size)⟩) ?_
    simp only [Act.put, List.setIfInBounds_toArray, List.set_cons_succ, List.set_cons_zero]
    refine wpQuiet_nil ?_
    intro W2 hW2
    have HW2 := Lib.hid hW2
    have HV2 := Lib.hid (boxed_below HV.out hW2)
    have HR2 := Lib.hid (owns_below HR.out hW2)
    have hsz2 : W.heap.size ≤ W2.heap.size := hW2.size
    clear hW2 hw
    refine wpList_one_dig rfl (.tmp 22) rfl R rfl h32 ?_
    refine wpList_nil ?_
    have HT := Lib.hid (new_dig W2 R 24 (0, 0))
    have hN := dp_wy 63 n i hi (by omega)
    have hdp := dp_le 63 n i
    refine ⟨Boxed.cell (HV2.out.alloc _), ?_⟩
    simp only [Act.put, List.setIfInBounds_toArray, List.set_cons_succ, List.set_cons_zero]
    go_wp2_with (refine wpList_append_dig rfl (.tmp 18) (.tmp 23) rfl w.heap.size v pre.length 1 _ [R] rfl (HR2.out.alloc _) ⟨W2.heap.size, 0, none⟩ 1 rfl rfl (by simpa using h32) HT.out (by omega) (by have := HB.out.size; simp; omega) ?_; intro v' w1 hown' hgrow; obtain ⟨g', cap', rfl⟩ := ownsRow_succ hown'; obtain ⟨hv1, hv2, hr2, hk2, hb2⟩ := HV2.out.appended (by decide) HR2.out (by have := HB.out.size; omega) (by omega) hown' hgrow; have hc1 := hv1.cell; have hf1 := hv1.frozen)
    have k0 := boxed_over (B' := w.heap.size + 1) (boxed_below H0.out HW2.out) (by decide) HR2.out hgrow (by omega) (.slice (some ⟨g', 0, none⟩) (pre.length + 1) cap')
    have k2 := boxed_over (B' := w.heap.size + 1) (boxed_below H2.out HW2.out) (by decide) HR2.out hgrow (by omega) (.slice (some ⟨g', 0, none⟩) (pre.length + 1) cap')
    have k3 := boxed_over (B' := w.heap.size + 1) (boxed_below H3.out HW2.out) (by decide) HR2.out hgrow (by omega) (.slice (some ⟨g', 0, none⟩) (pre.length + 1) cap')
    refine ⟨(below_keeps HW2.out).trans (hk2.from _), keep_boxes H2.out H3.out k2 k3, ⟨⟨_, hv2, ?_, trivial⟩, k0, k2, k3⟩, HB.out.trans ((HW2.out.mono HB.out.size).trans hb2)⟩
    rw [List.length_append, List.map_append]
    simp only [List.length_singleton, List.map_cons, List.map_nil]
    rw [HRr.out]
    exact hr2
  case done =>
    rintro D ys W hD hys ⟨⟨⟨v, hv, hrow, _⟩, h0, h2, h3⟩, hB⟩ hK
    have hc := hv.cell
    have HH := Lib.hid hys
    have HRow := Lib.hid hrow
    clear hys hrow
    gi_wp2
    refine ⟨by simp, .inl ⟨_, _, rfl, run_takeDeferred hK, ?_⟩⟩
    have hrow := ownsRow_putObj HRow.out (.deferred none) hK rfl
    have e1 : (ys.map fun x => rootD (seg ls x.val.1 x.val.2)) = proofD i ls := by
      rw [proofD_wy ls i (by rw [HN.out]; exact hi) (by rw [HN.out]; omega), HN.out]
      have := congrArg (List.map fun x : Nat × Nat => rootD (seg ls x.1 x.2)) HH.out
      rw [List.map_map] at this
      exact this
    rw [e1] at hrow
    have e2 : ys.length = (proofD i ls).length := by rw [← e1, List.length_map]
    rw [e2] at hrow
    obtain ⟨sp', cap', rfl, _, hd, _⟩ := own_digs hrow (proofD_all i ls (by rw [HN.out]; exact hi) (by rw [HN.out]; omega))
    exact ⟨_, results_tmp2 rfl _ _ _, sp', cap', rfl, hd, hB.trans (belowK_b (w := w) (Nat.le_refl _) W D _ _ (by omega) hK rfl rfl)⟩
  case stop =>
    rintro D c pre W _ _ h _
    exact h.elim
theorem prove_yes (i : Nat) (w : World) (sp : Option Addr) (n cap : Nat) (ls : List (List Int)) (hn : ls.length = n) (hP : Pcs w sp cap ls) (he : Env w) (hm : Mild ls) (hi : i < n) :
    Calls Tryd.prog 17 #[.int .i64 i, .slice sp n cap] w fun e w' => ∃ sp' cap', e = .returned (.tuple #[.slice sp' (proofD i ls).length cap', .int .i64 0]) ∧ Digs w' sp' cap' (proofD i ls) ∧ Below w.heap.size w w' :=
  callsIn_wide.1 (prove_in i w sp n cap ls hn hP he hm hi)
end Go.Proofs.YtighmhoekbnagaaDoor
