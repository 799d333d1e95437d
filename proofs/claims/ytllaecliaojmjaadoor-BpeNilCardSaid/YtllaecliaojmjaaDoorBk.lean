import Derived.Test.YtllaecliaojmjaaDoorBd
namespace Go.Proofs.YtllaecliaojmjaaDoor.Bp
set_option maxRecDepth 100000
open Go.ChangeShapes Go.WideShapes Go.ChangeAt Go.RowKit Go.Proofs.YtllaecliaojmjaaDoor.Tn
open Go.ChangeMaps (setBlock heap_setBlock_same heap_setBlock_other)

/-! ### addPair -/
/-- a pair in a block of its own -/
structure Pk (b : Nat) (x y : Int) (W : World) : Prop where
  row : W.heap[b]? = some (.cells #[.int .i64 x, .int .i64 y] 46 (0, 0))
section
variable {W W' : World} {b : Nat} {x y : Int}
theorem Pk.later (h : Pk b x y W) (hb : Below W.heap.size W W') : Pk b x y W' := ⟨(hb.block _ (Array.getElem?_eq_some_iff.1 h.row).1).trans h.row⟩
theorem Pk.lt (h : Pk b x y W) : b < W.heap.size := (Array.getElem?_eq_some_iff.1 h.row).1
theorem Pk.cells (h : Pk b x y W) : W.cell? ⟨b, 0, none⟩ = some (.int .i64 x) ∧ W.cell? ⟨b, 1, none⟩ = some (.int .i64 y) := by
  constructor
  · rw [cell_of_row _ _ _ _ _ _ h.row]; rfl
  · rw [cell_of_row _ _ _ _ _ _ h.row]; rfl
theorem size_bpair : (Tryd.prog.info? 46).map (·.size) = some 2 := by kernel_rfl
theorem Pk.load (h : Pk b x y W) : (loadVar 46 ⟨b, 0, none⟩).run Tryd.prog W = .ok (.agg #[.int .i64 x, .int .i64 y]) W :=
  run_loadVar_row W b 46 46 _ _ _ h.row under_pair rfl size_bpair
end
theorem str_append (a b : List Int) : strOfNums a ++ strOfNums b = strOfNums (a ++ b) := by
  apply ByteArray.ext
  rw [ByteArray.data_append]
  apply Array.ext'
  simp [strOfNums_data]
theorem str_size (a : List Int) : (strOfNums a).size = a.length := by
  rw [ByteArray.size, ← Array.length_toList, strOfNums_data]
  simp
theorem drawn_below {W : World} (q : Nat) : Below W.heap.size W (W.drewN q) := below_drewN (Below.refl W.heap.size W) q
set_option maxHeartbeats 8000000 in
theorem addPair_any (w : World) (lo g m B : Nat) (al : List Int) (ps : List (Int × Int)) (T : List (List Int)) (sv : Value) (x y : Int) (h : Gw lo g m B al ps T sv w) (hT : Texts al.length ps T) (hM : T.length ≤ 512) (hS : ∀ k, (T.getD k []).length ≤ 16) :
    Calls Tryd.prog 18 #[.pointer (some ⟨g, 0, none⟩), .agg #[.int .i64 x, .int .i64 y]] w fun e w' => Below lo w w' ∧ e = .returned (.int .i64 (stepE T ps (x, y))) ∧ (stepE T ps (x, y) = 0 → ∃ sv', Gw lo g m B al (ps ++ [(x, y)]) (T ++ [txt T (x, y)]) sv' w') := by
  have hlo : lo ≤ w.heap.size := by have := h.big; have := h.gB; have := h.lg; omega
  have HLo := Lib.hid hlo
  have hb0 : Below w.heap.size w (w.alloc (.cells #[.int .i64 x, .int .i64 y] 46)) := (Below.refl _ _).alloc (Nat.le_refl _) _
  have HG1 := Lib.hid (h.later hb0)
  have HB1 := Lib.hid (hb0.mono hlo)
  have HP1 : Hid (Pk w.heap.size x y (w.alloc (.cells #[.int .i64 x, .int .i64 y] 46))) := Lib.hid ⟨heap_alloc_new _ _⟩
  obtain ⟨s, c, rfl, _, _, _⟩ := Tn.Sl.all1 h.texts
  have HT := Lib.hid hT
  have HMm := Lib.hid hM
  have HSm := Lib.hid hS
  have hMx : T.length ≤ maxLen := by unfold maxLen; omega
  have HMx := Lib.hid hMx
  clear h hT hM hS hMx hb0 hlo
  go_enter Tryd.func18, Tryd.ntmps18
  go_upto_region 1 with fail
  refine gen_w (Q := fun w => Code.wp _ _ _ _ w) _ (fun W => Gw lo g m B al ps T (.slice s T.length c) W ∧ Below lo w W ∧ Pk w.heap.size x y W) ⟨HG1.out, HB1.out, HP1.out⟩ ?_
  clear HG1 HB1 HP1
  rintro W1 ⟨hg1, hb1, hp1⟩
  obtain ⟨b, hb⟩ : ∃ b, w.heap.size = b := ⟨_, rfl⟩
  rw [hb] at hp1 ⊢
  have HG1 := Lib.hid hg1
  have HB1 := Lib.hid hb1
  have HP1 := Lib.hid hp1
  obtain ⟨q1, q2⟩ := hp1.cells
  clear hg1 hb1 hp1
  have HS1 : Hid (Strs W1 s c T) := Lib.hid (by
    obtain ⟨s', c', e, _, h1, _⟩ := Tn.Sl.all1 HG1.out.texts
    cases e
    exact h1)
  by_cases hx : 0 ≤ x ∧ x < (T.length : Int)
  · by_cases hy : 0 ≤ y ∧ y < (T.length : Int)
    · have dx : decide (0 ≤ x ∧ x < (T.length : Int)) = true := by simpa using hx
      have dy : decide (0 ≤ y ∧ y < (T.length : Int)) = true := by simpa using hy
      have HXx := Lib.hid hx
      have HYy := Lib.hid hy
      clear hx hy
      go_wp2_with fail
      refine (isToken_any W1 g m al ps s T.length c x HG1.out.cr HMx.out).mono ?_
      rintro e w2 ⟨rfl, rfl⟩
      rw [dx]
      go_wp2_with fail
      refine (isToken_any w2 g m al ps s T.length c y HG1.out.cr HMx.out).mono ?_
      rintro e w3 ⟨rfl, rfl⟩
      rw [dy]
      clear q1 q2 dx dy
      obtain ⟨xn, rfl⟩ := Int.eq_ofNat_of_zero_le HXx.out.1
      obtain ⟨yn, rfl⟩ := Int.eq_ofNat_of_zero_le HYy.out.1
      obtain ⟨q1, q2⟩ := HP1.out.cells
      go_upto_region 3 with fail
      have hl := HP1.out.load
      have c2 := HG1.out.cr.c2
      by_cases hm : ((xn : Int), (yn : Int)) ∈ ps
      · have hlk : ∀ q, (Instr.lookup 54 (.map (some m)) (.agg #[.int .i64 (xn : Int), .int .i64 (yn : Int)]) true).run Tryd.prog (w3.drewN q) = .ok (.tuple #[.int .i64 (tokP al.length ps ((xn : Int), (yn : Int))), .bool true]) (w3.drewN q) := fun q => by
          have h9 := look_ok (W := w3.drewN q) HG1.out.cr.mp (xn : Int) (yn : Int)
          rw [decide_eq_true hm] at h9
          exact h9
        have HE : Hid (stepE T ps ((xn : Int), (yn : Int)) = 15) := Lib.hid (by
          have h1 := HXx.out
          have h2 := HYy.out
          unfold stepE
          rw [if_neg (by omega), if_pos hm])
        clear hm
        obtain ⟨z, hz⟩ : ∃ z, tokP al.length ps ((xn : Int), (yn : Int)) = z := ⟨_, rfl⟩
        rw [hz] at hlk
        clear hz
        go_quiet (fail)
        go_wp2
        go_ret
        exact ⟨HB1.out.trans ((drawn_below nq).mono (Nat.le_trans HLo.out HB1.out.size)), by rw [HE.out]; rfl, fun e => by rw [HE.out] at e; omega⟩
      · have hlk : ∀ q, (Instr.lookup 54 (.map (some m)) (.agg #[.int .i64 (xn : Int), .int .i64 (yn : Int)]) true).run Tryd.prog (w3.drewN q) = .ok (.tuple #[.int .i64 (tokP al.length ps ((xn : Int), (yn : Int))), .bool false]) (w3.drewN q) := fun q => by
          have h9 := look_ok (W := w3.drewN q) HG1.out.cr.mp (xn : Int) (yn : Int)
          rw [decide_eq_false hm] at h9
          exact h9
        have HM0 := Lib.hid hm
        obtain ⟨z, hz⟩ : ∃ z, tokP al.length ps ((xn : Int), (yn : Int)) = z := ⟨_, rfl⟩
        rw [hz] at hlk
        clear hz hm
        go_quiet (fail)
        clear hlk
        generalize hw4 : w3.drewN nq = w4
        have HG4 : Hid (Gw lo g m B al ps T (.slice s T.length c) w4) := Lib.hid (by rw [← hw4]; exact HG1.out.later (drawn_below nq))
        have HB4 : Hid (Below lo w w4) := Lib.hid (by rw [← hw4]; exact HB1.out.trans ((drawn_below nq).mono (Nat.le_trans HLo.out HB1.out.size)))
        have HP4 : Hid (Pk b (xn : Int) (yn : Int) w4) := Lib.hid (by rw [← hw4]; exact HP1.out.later (drawn_below nq))
        have HS4 : Hid (Strs w4 s c T) := Lib.hid (by rw [← hw4]; exact HS1.out.below (drawn_below nq))
        clear q1 q2 hl c2 hw4
        obtain ⟨q1, q2⟩ := HP4.out.cells
        have c0 := HG4.out.cr.c0
        have hxn : xn < T.length := by have := HXx.out; omega
        have hyn : yn < T.length := by have := HYy.out; omega
        obtain ⟨d, o, e, t1⟩ := HS4.out.at_ xn hxn
        obtain ⟨d', o', e', t2⟩ := HS4.out.at_ yn hyn
        subst e
        cases e'
        obtain ⟨tx, htx⟩ : ∃ tx, T.getD xn [] = tx := ⟨_, rfl⟩
        obtain ⟨ty, hty⟩ : ∃ ty, T.getD yn [] = ty := ⟨_, rfl⟩
        rw [htx] at t1
        rw [hty] at t2
        have HTx := Lib.hid htx
        have HTy := Lib.hid hty
        unfold strV at t1 t2
        obtain ⟨X, hX⟩ : ∃ X, strOfNums tx = X := ⟨_, rfl⟩
        obtain ⟨Y, hY⟩ : ∃ Y, strOfNums ty = Y := ⟨_, rfl⟩
        rw [hX] at t1
        rw [hY] at t2
        obtain ⟨Z, hZ⟩ : ∃ Z, X ++ Y = Z := ⟨_, rfl⟩
        obtain ⟨t, ht⟩ : ∃ t, txt T ((xn : Int), (yn : Int)) = t := ⟨_, rfl⟩
        have Ht := Lib.hid ht
        have HZ : Hid (Z = strOfNums t) := Lib.hid (by
          rw [← hZ, ← hX, ← hY, str_append, ← htx, ← hty, ← ht]
          rfl)
        clear ht
        have hsz : X.size + Y.size ≤ 32 := by
          rw [← hX, ← hY, str_size, str_size, ← htx, ← hty]
          have h1 := HSm.out xn
          have h2 := HSm.out yn
          omega
        have hbig : (X.size + Y.size > 9223372036854775807) = False := by
          apply eq_false
          omega
        have HX := Lib.hid hX
        have HY := Lib.hid hY
        clear htx hty hX hY hsz
        go_wp2
        go_quiet (fail)
        clear hZ hbig
        generalize hw5 : w4.drewN nq = w5
        have HG5 : Hid (Gw lo g m B al ps T (.slice (some ⟨d, o, none⟩) T.length c) w5) := Lib.hid (by rw [← hw5]; exact HG4.out.later (drawn_below nq))
        have HB5 : Hid (Below lo w w5) := Lib.hid (by rw [← hw5]; exact HB4.out.trans ((drawn_below nq).mono (Nat.le_trans HLo.out HB4.out.size)))
        have HP5 : Hid (Pk b (xn : Int) (yn : Int) w5) := Lib.hid (by rw [← hw5]; exact HP4.out.later (drawn_below nq))
        clear q1 q2 c0 t1 t2 hw5
        obtain ⟨L, hL⟩ : ∃ L, Z.size = L := ⟨_, rfl⟩
        have HL : Hid (L = t.length) := Lib.hid (by rw [← hL, HZ.out, str_size])
        by_cases hlong : 16 < L
        · have d1 : decide (16 < L) = true := by simpa using hlong
          have d2 : decide ((16 : Int) < (L : Int)) = true := by simp; omega
          have HE : Hid (stepE T ps ((xn : Int), (yn : Int)) = 20) := Lib.hid (by
            have h1 := HXx.out
            have h2 := HYy.out
            have h3 := HL.out
            unfold stepE
            rw [if_neg (by omega), if_neg HM0.out, if_pos (by rw [Ht.out]; omega)])
          clear hlong
          go_wp2
          go_ret
          exact ⟨HB5.out, by rw [HE.out]; rfl, fun e => by rw [HE.out] at e; omega⟩
        · have d1 : decide (16 < L) = false := by simpa using hlong
          have d2 : decide ((16 : Int) < (L : Int)) = false := by simp; omega
          have HE : Hid (stepE T ps ((xn : Int), (yn : Int)) = 0) := Lib.hid (by
            have h1 := HXx.out
            have h2 := HYy.out
            have h3 := HL.out
            unfold stepE
            rw [if_neg (by omega), if_neg HM0.out, if_neg (by rw [Ht.out]; omega)])
          clear hlong
          go_upto_region 9 with fail
          clear hL d1 d2
          obtain ⟨q1, q2⟩ := HP5.out.cells
          have hl := HP5.out.load
          have c2 := HG5.out.cr.c2
          have c0 := HG5.out.cr.c0
          go_still_tail 10, (by kernel_rfl)
          have hb1 : Below w5.heap.size w5 { w5 with drawn := w5.drawn + 1 } := ⟨rfl, rfl, rfl, Nat.le_refl _, fun _ _ => rfl⟩
          refine gen_w (Q := fun w => wpList _ _ _ _ _ w) _ (fun W => Gw lo g m B al ps T (.slice (some ⟨d, o, none⟩) T.length c) W ∧ Below lo w W) ⟨HG5.out.later hb1, HB5.out.trans (hb1.mono (Nat.le_trans HLo.out HB5.out.size))⟩ ?_
          clear q1 q2 hl c2 c0 hb1
          rintro w6 ⟨hg6, hb6⟩
          have HG6 := Lib.hid hg6
          have HB6 := Lib.hid hb6
          have HTl : Hid ((T.length : Int) = (al.length : Int) + (ps.length : Int)) := Lib.hid (by have := HT.out.len; omega)
          have hu := update_new hg6.cr.mp (xn : Int) (yn : Int) HM0.out
          rw [← HTl.out] at hu
          clear hg6 hb6
          have HG7 : Hid (Gw lo g m B al (ps ++ [((xn : Int), (yn : Int))]) T (.slice (some ⟨d, o, none⟩) T.length c) _) := Lib.hid (HG6.out.entry ((xn : Int), (yn : Int)))
          have HB7 : Hid (Below lo w _) := Lib.hid (HB6.out.trans (below_entry HG6.out (.map (ents al.length 0 (ps ++ [((xn : Int), (yn : Int))])).toArray (ps.length + 1))))
          generalize setBlock w6 m (.map (ents al.length 0 (ps ++ [((xn : Int), (yn : Int))])).toArray (ps.length + 1)) = w7 at hu HG7 HB7
          go_upto_region 10 with fail
          clear hu
          have hz := HZ.out
          subst hz
          have c0 := HG7.out.cr.c0
          have HMs : Hid (T.length ≤ 999999) := Lib.hid (by have := HMm.out; omega)
          go_wp2_with (refine wpList_push_str rfl (.tmp 64) (.tmp 66) rfl B _ T.length T t rfl HG7.out.texts rfl HMs.out HG7.out.big ?_; intro v9 w9 ho9 hg9; have HO9 := Lib.hid ho9; have HG9 := Lib.hid hg9; clear ho9 hg9; refine Hid.out ?_)
          refine Lib.hid ?_
          obtain ⟨s9, c9, rfl, _, _, _⟩ := Tn.Sl.all1 HO9.out
          have HRw : Hid (w9.heap[g]? = some (.cells (crow (.slice (some ⟨d, o, none⟩) T.length c) al m) 57 (0, 0))) := Lib.hid ((HG9.out.block _ (by have := HG7.out.big; have := HG7.out.gB; omega) (fun e => by have := (own_block HG7.out.texts e.symm).1; have := HG7.out.gB; omega)).trans HG7.out.cr.row)
          have q1 : w9.cell? ⟨g, 0, none⟩ = some (.slice (some ⟨d, o, none⟩) T.length c) := by rw [cell_of_row _ _ _ _ _ _ HRw.out]; exact crow_zero _ _ _
          have q2 : w9.frozen? ⟨g, 0, none⟩ = false := frozen_of_row _ _ _ _ _ HRw.out
          clear c0
          go_wp2
          go_ret
          exact ⟨HB7.out.trans (below_push HG7.out HG9.out), by rw [HE.out]; rfl, fun _ => ⟨_, by rw [Ht.out]; exact HG7.out.push HG9.out HO9.out⟩⟩
    · have dx : decide (0 ≤ x ∧ x < (T.length : Int)) = true := by simpa using hx
      have dy : decide (0 ≤ y ∧ y < (T.length : Int)) = false := by simpa using hy
      have HE : Hid (stepE T ps (x, y) = 10) := Lib.hid (by
        unfold stepE
        rw [if_pos (by omega)])
      clear hx hy
      go_wp2_with fail
      refine (isToken_any W1 g m al ps s T.length c x HG1.out.cr HMx.out).mono ?_
      rintro e w2 ⟨rfl, rfl⟩
      rw [dx]
      go_wp2_with fail
      refine (isToken_any w2 g m al ps s T.length c y HG1.out.cr HMx.out).mono ?_
      rintro e w3 ⟨rfl, rfl⟩
      rw [dy]
      clear dx dy
      go_wp2
      go_ret
      exact ⟨HB1.out, by rw [HE.out]; rfl, fun e => by rw [HE.out] at e; omega⟩
  · have dx : decide (0 ≤ x ∧ x < (T.length : Int)) = false := by simpa using hx
    have HE : Hid (stepE T ps (x, y) = 10) := Lib.hid (by
      unfold stepE
      rw [if_pos (by omega)])
    clear hx
    go_wp2_with fail
    refine (isToken_any W1 g m al ps s T.length c x HG1.out.cr HMx.out).mono ?_
    rintro e w2 ⟨rfl, rfl⟩
    rw [dx]
    clear dx
    go_wp2
    go_ret
    exact ⟨HB1.out, by rw [HE.out]; rfl, fun e => by rw [HE.out] at e; omega⟩
end Go.Proofs.YtllaecliaojmjaaDoor.Bp
