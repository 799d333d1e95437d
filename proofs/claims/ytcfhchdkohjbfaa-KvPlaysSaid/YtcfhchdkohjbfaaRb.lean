/- Pools of rows in pages: the laws' does, with a document's pool that has no row. -/
import Derived.Test.YtcfhchdkohjbfaaRa
namespace Go.Proofs.Ytcfhchdkohjbfaa.Kv
set_option maxRecDepth 100000
open Go.ChangeShapes Go.WideShapes Go.ChangeAt Go.RowKit Go.Proofs.Ytcfhchdkohjbfaa.Tn
/-- the pool behind a call -/
def opD (D : Doc Int) (ask id n : Int) : Doc Int := if ask = 0 then (openD D).2 else if ask = 1 then (appendD D id n).2 else if ask = 2 then (shareD D id n).2 else if ask = 3 then (closeD D id).2 else D
def both (t : Tag) : Bool := t.mine || t.theirs
/-- what does answers and leaves -/
def Does (w : World) (τ : Tags) (g : Nat) (D' : Doc Int) (e : Ending) (w' : World) : Prop := ∃ b τ', e = .returned (.bool b) ∧ Pool I.kind w' τ' g D' ∧ Step both τ τ' w w'
theorem mine_both {τ τ' : Tags} {w w' : World} (h : Step Tag.mine τ τ' w w') : Step both τ τ' w w' := h.mono fun t ht => by
  unfold both at ht
  cases hm : t.mine
  · rfl
  · rw [hm] at ht; cases ht
theorem Fresh.step {w w' : World} {r : Nat} {p s : Int} {τ τ' : Tags} (h : Fresh w r p s) (ht : τ r = some .rpool) (hs : Step Tag.mine τ τ' w w') : Fresh w' r p s :=
  (hs.block r (Array.getElem?_eq_some_iff.1 h).1 (fun t htt => by rw [ht] at htt; cases htt; rfl)).trans h
/-- a box with a call -/
def OpBox (w : World) (q : Nat) (a i m : Int) : Prop := w.heap[q]? = some (.cells #[.int .i64 a, .int .i64 i, .int .i64 m] 35 (0, 0))
theorem OpBox.cells {w : World} {q : Nat} {a i m : Int} (h : OpBox w q a i m) : w.cell? ⟨q, 0, none⟩ = some (.int .i64 a) ∧ w.cell? ⟨q, 1, none⟩ = some (.int .i64 i) ∧ w.cell? ⟨q, 2, none⟩ = some (.int .i64 m) := by
  refine ⟨?_, ?_, ?_⟩ <;> (rw [cell_of_row _ _ _ _ _ _ h]; rfl)
theorem OpBox.step {w w' : World} {q : Nat} {a i m : Int} {τ τ' : Tags} {M : Tag → Bool} (h : OpBox w q a i m) (ht : τ q = none) (hs : Step M τ τ' w w') : OpBox w' q a i m :=
  (hs.block q (Array.getElem?_eq_some_iff.1 h).1 (fun t htt => by rw [ht] at htt; cases htt)).trans h
theorem step_grown {w w' : World} {r : Nat} {τ : Tags} (hg : w.grownBy w' (some r)) (ht : τ r = some .rpool) : Step Tag.theirs τ τ w w' :=
  ⟨hg.os, hg.tape, hg.output, hg.size, fun _ _ => rfl, fun c hc h => hg.block c hc (fun e => by cases e; have := h _ ht; cases this)⟩
theorem theirs_mine : ∀ t : Tag, t.mine = true → t.theirs = false := fun t ht => by cases t <;> simp_all [Tag.mine, Tag.theirs]
theorem theirs_both {τ τ' : Tags} {w w' : World} (h : Step Tag.theirs τ τ' w w') : Step both τ τ' w w' := h.mono fun t ht => by
  unfold both at ht
  cases hm : t.theirs
  · rfl
  · rw [hm] at ht; simp at ht
set_option maxHeartbeats 8000000 in
theorem does_fresh {w : World} {τ : Tags} {g r : Nat} {D : Doc Int} {p s : Int} (h : Pool I.kind w τ g D) (hr : Fresh w r p s) (ht : τ r = some .rpool) (a i m : Int) :
    Calls Try.prog 10 #[.pointer (some ⟨g, 0, none⟩), .pointer (some ⟨r, 0, none⟩), .agg #[.int .i64 a, .int .i64 i, .int .i64 m]] w fun e w' => Does w τ g (opD D a i m) e w' := by
  have hb : Below w.heap.size w (w.alloc (.cells #[.int .i64 a, .int .i64 i, .int .i64 m] 35)) := (Below.refl _ _).alloc (Nat.le_refl _) _
  have H := Lib.hid (h.below hb)
  have HF : Hid (Fresh (w.alloc (.cells #[.int .i64 a, .int .i64 i, .int .i64 m] 35)) r p s) := Lib.hid ((hb.block r (Array.getElem?_eq_some_iff.1 hr).1).trans hr)
  have HT := Lib.hid ht
  have HS : Hid (Step both τ τ w (w.alloc (.cells #[.int .i64 a, .int .i64 i, .int .i64 m] 35))) := Lib.hid (Step.below hb)
  have HO : Hid (OpBox (w.alloc (.cells #[.int .i64 a, .int .i64 i, .int .i64 m] 35)) w.heap.size a i m) := Lib.hid (alloc_new _ _)
  have HQ : Hid (τ w.heap.size = none) := Lib.hid (by
    cases e : τ w.heap.size with
    | none => rfl
    | some t => exact absurd (h.fits _ t e) (Nat.lt_irrefl _))
  clear h hr ht hb
  obtain ⟨q, hq⟩ : ∃ q, w.heap.size = q := ⟨_, rfl⟩
  rw [hq] at HO HQ
  have HQq := Lib.hid hq
  clear hq
  go_enter Try.func10, Try.ntmps10
  go_upto_region 1 with fail
  rw [HQq.out]
  refine I.gen_w (Q := fun w => Code.wp _ _ _ _ w) _ (fun W => Pool I.kind W τ g D ∧ Fresh W r p s ∧ Step both τ τ w W ∧ OpBox W q a i m) ⟨H.out, HF.out, HS.out, HO.out⟩ ?_
  clear H HF HS HO
  rintro w1 ⟨k1, k2, k3, k4⟩
  have H := Lib.hid k1
  have HF := Lib.hid k2
  have HS := Lib.hid k3
  have HO := Lib.hid k4
  obtain ⟨q0, q1, q2⟩ := k4.cells
  clear k1 k2 k3 k4
  by_cases a0 : a = 0
  · have e0 : (a == 0) = true := by simpa using a0
    have HD : Hid (opD D a i m = (openD D).2) := Lib.hid (by unfold opD; rw [if_pos a0])
    have HA := Lib.hid (I.openD_any H.out)
    clear a0
    go_wp2_with fail
    refine HA.out.mono ?_
    rintro e w2 ⟨rfl, τ2, k1, k2⟩
    have F2 := Lib.hid (HF.out.step HT.out k2)
    have T2 : Hid (τ2 r = some .rpool) := Lib.hid ((k2.tags r (Array.getElem?_eq_some_iff.1 HF.out).1).trans HT.out)
    have H2 := Lib.hid k1
    have S2 := Lib.hid (HS.out.trans (mine_both k2))
    clear k1 k2 q0 q1 q2
    go_wp2_with fail
    refine (open_fresh F2.out).mono ?_
    rintro e w3 ⟨rfl, hg⟩
    have S23 := step_grown hg T2.out
    have H3 := Lib.hid (H2.out.step S23 theirs_mine (H2.out.fits.below hg.size))
    have S3 := Lib.hid (S2.out.trans (theirs_both S23))
    clear hg S23
    obtain ⟨o1, ho1⟩ : ∃ o, (openD D).1.1 = o := ⟨_, rfl⟩
    obtain ⟨o2, ho2⟩ : ∃ o, (openD D).1.2 = o := ⟨_, rfl⟩
    rw [ho1, ho2]
    clear ho1 ho2
    by_cases b1 : o1 = 0
    · have d1 : (o1 == 0) = true := by simpa using b1
      by_cases b2 : o2 = 0
      · have d2 : (o2 == 0) = true := by simpa using b2
        clear b1 b2
        go_wp2
        go_ret
        rw [HD.out]
        exact ⟨_, τ2, rfl, H3.out, S3.out⟩
      · have d2 : (o2 == 0) = false := by simpa using b2
        clear b1 b2
        go_wp2
        go_ret
        rw [HD.out]
        exact ⟨_, τ2, rfl, H3.out, S3.out⟩
    · have d1 : (o1 == 0) = false := by simpa using b1
      clear b1
      go_wp2
      go_ret
      rw [HD.out]
      exact ⟨_, τ2, rfl, H3.out, S3.out⟩
  · have e0 : (a == 0) = false := by simpa using a0
    by_cases a1 : a = 1
    · have e1 : (a == 1) = true := by simpa using a1
      have HD : Hid (opD D a i m = (appendD D i m).2) := Lib.hid (by unfold opD; rw [if_neg a0, if_pos a1])
      have hdr : Below w1.heap.size w1 w1.drew := ⟨rfl, rfl, rfl, Nat.le_refl _, fun _ _ => rfl⟩
      have Hd := Lib.hid (H.out.below hdr)
      have HFd : Hid (Fresh w1.drew r p s) := Lib.hid HF.out
      have HSd := Lib.hid (HS.out.trans (Step.below (M := both) (τ := τ) hdr))
      have HOd : Hid (OpBox w1.drew q a i m) := Lib.hid HO.out
      clear hdr
      have HA := Lib.hid (I.append_any Hd.out i m)
      obtain ⟨o1, ho1⟩ : ∃ o, (appendD D i m).1 = o := ⟨_, rfl⟩
      rw [ho1] at HA
      clear a0 a1 ho1
      go_upto_region 7 with fail
      go_region_held3 (fun W => W.cell? ⟨q, 1, none⟩ = some (.int .i64 i) ∧ W.cell? ⟨q, 2, none⟩ = some (.int .i64 m)) (first | go_keep | exact ⟨HK.out.1, HK.out.2⟩)
        ((first | (go_at_call 14; refine HA.out.mono ?_; rintro e w2 ⟨rfl, τ2, k1, k2⟩; have F2 := Lib.hid (HFd.out.step HT.out k2); have T2 : Hid (τ2 r = some .rpool) := Lib.hid ((k2.tags r (Array.getElem?_eq_some_iff.1 HF.out).1).trans HT.out); have H2 := Lib.hid k1; have S2 := Lib.hid (HSd.out.trans (mine_both k2)); have O2 := Lib.hid (HOd.out.step HQ.out k2); have HK := Lib.hid O2.out.cells.2; clear k1 k2) | (go_at_call 35; refine (append_fresh F2.out i m).mono ?_; rintro e w3 ⟨rfl, rfl⟩)))
      clear q0 q1 q2
      by_cases b1 : o1 = 14
      · have d1 : (o1 == 14) = true := by simpa using b1
        clear b1
        go_wp2
        go_ret
        rw [HD.out]
        exact ⟨_, τ2, rfl, H2.out, S2.out⟩
      · have d1 : (o1 == 14) = false := by simpa using b1
        clear b1
        go_wp2
        go_ret
        rw [HD.out]
        exact ⟨_, τ2, rfl, H2.out, S2.out⟩
    · have e1 : (a == 1) = false := by simpa using a1
      by_cases a2 : a = 2
      · have e2 : (a == 2) = true := by simpa using a2
        have HD : Hid (opD D a i m = (shareD D i m).2) := Lib.hid (by unfold opD; rw [if_neg a0, if_neg a1, if_pos a2])
        have HA := Lib.hid (I.shareD_any H.out i m)
        clear a0 a1 a2
        go_wp2_with fail
        refine HA.out.mono ?_
        rintro e w2 ⟨rfl, τ2, k1, k2⟩
        have F2 := Lib.hid (HF.out.step HT.out k2)
        have T2 : Hid (τ2 r = some .rpool) := Lib.hid ((k2.tags r (Array.getElem?_eq_some_iff.1 HF.out).1).trans HT.out)
        have H2 := Lib.hid k1
        have S2 := Lib.hid (HS.out.trans (mine_both k2))
        have O2 := Lib.hid (HO.out.step HQ.out k2)
        clear k1 k2 q0 q1 q2
        obtain ⟨q0, q1, q2⟩ := O2.out.cells
        go_wp2_with fail
        refine (share_fresh F2.out i m).mono ?_
        rintro e w3 ⟨rfl, rfl⟩
        obtain ⟨o1, ho1⟩ : ∃ o, (shareD D i m).1.1 = o := ⟨_, rfl⟩
        obtain ⟨o2, ho2⟩ : ∃ o, (shareD D i m).1.2 = o := ⟨_, rfl⟩
        rw [ho1, ho2]
        clear ho1 ho2
        by_cases b1 : o1 = 0
        · have d1 : (o1 == 0) = true := by simpa using b1
          by_cases b2 : o2 = 14
          · have d2 : (o2 == 14) = true := by simpa using b2
            clear b1 b2
            go_wp2
            go_ret
            rw [HD.out]
            exact ⟨_, τ2, rfl, H2.out, S2.out⟩
          · have d2 : (o2 == 14) = false := by simpa using b2
            clear b1 b2
            go_wp2
            go_ret
            rw [HD.out]
            exact ⟨_, τ2, rfl, H2.out, S2.out⟩
        · have d1 : (o1 == 0) = false := by simpa using b1
          clear b1
          go_wp2
          go_ret
          rw [HD.out]
          exact ⟨_, τ2, rfl, H2.out, S2.out⟩
      · have e2 : (a == 2) = false := by simpa using a2
        by_cases a3 : a = 3
        · have e3 : (a == 3) = true := by simpa using a3
          have HD : Hid (opD D a i m = (closeD D i).2) := Lib.hid (by unfold opD; rw [if_neg a0, if_neg a1, if_neg a2, if_pos a3])
          have hdr : Below w1.heap.size w1 w1.drew := ⟨rfl, rfl, rfl, Nat.le_refl _, fun _ _ => rfl⟩
          have Hd := Lib.hid (H.out.below hdr)
          have HFd : Hid (Fresh w1.drew r p s) := Lib.hid HF.out
          have HSd := Lib.hid (HS.out.trans (Step.below (M := both) (τ := τ) hdr))
          have HOd : Hid (OpBox w1.drew q a i m) := Lib.hid HO.out
          clear hdr
          have HA := Lib.hid (I.closeD_any Hd.out i)
          obtain ⟨o1, ho1⟩ : ∃ o, (closeD D i).1 = o := ⟨_, rfl⟩
          rw [ho1] at HA
          clear a0 a1 a2 a3 ho1
          go_upto_region 13 with fail
          go_region_held3 (fun W => W.cell? ⟨q, 1, none⟩ = some (.int .i64 i)) (first | go_keep | exact HK.out)
            ((first | (go_at_call 19; refine HA.out.mono ?_; rintro e w2 ⟨rfl, τ2, k1, k2⟩; have F2 := Lib.hid (HFd.out.step HT.out k2); have T2 : Hid (τ2 r = some .rpool) := Lib.hid ((k2.tags r (Array.getElem?_eq_some_iff.1 HF.out).1).trans HT.out); have H2 := Lib.hid k1; have S2 := Lib.hid (HSd.out.trans (mine_both k2)); have O2 := Lib.hid (HOd.out.step HQ.out k2); have HK := Lib.hid O2.out.cells.2.1; clear k1 k2) | (go_at_call 37; refine (close_fresh F2.out i).mono ?_; rintro e w3 ⟨rfl, rfl⟩)))
          clear q0 q1 q2
          by_cases b1 : o1 = 14
          · have d1 : (o1 == 14) = true := by simpa using b1
            clear b1
            go_wp2
            go_ret
            rw [HD.out]
            exact ⟨_, τ2, rfl, H2.out, S2.out⟩
          · have d1 : (o1 == 14) = false := by simpa using b1
            clear b1
            go_wp2
            go_ret
            rw [HD.out]
            exact ⟨_, τ2, rfl, H2.out, S2.out⟩
        · have e3 : (a == 3) = false := by simpa using a3
          have HD : Hid (opD D a i m = D) := Lib.hid (by unfold opD; rw [if_neg a0, if_neg a1, if_neg a2, if_neg a3])
          have HA := Lib.hid (I.getD_any H.out i m)
          obtain ⟨o1, ho1⟩ : ∃ o, (I.getD D i m).1 = o := ⟨_, rfl⟩
          obtain ⟨o2, ho2⟩ : ∃ o, (I.getD D i m).2 = o := ⟨_, rfl⟩
          rw [ho1, ho2] at HA
          clear a0 a1 a2 a3 ho1 ho2
          go_wp2_with fail
          refine HA.out.mono ?_
          rintro e w2 ⟨rfl, nq, rfl⟩
          have hdr := set_drewN w1 nq
          have H2 := Lib.hid (H.out.below hdr)
          have F2 : Hid (Fresh (w1.drewN nq) r p s) := Lib.hid HF.out
          have S2 := Lib.hid (HS.out.trans (Step.below (M := both) (τ := τ) hdr))
          clear hdr
          go_wp2_with fail
          refine (right_fresh F2.out i).mono ?_
          rintro e w3 ⟨rfl, rfl⟩
          by_cases b1 : o1 = 0
          · have d1 : (o1 == 0) = true := by simpa using b1
            by_cases b2 : o2 = 14
            · have d2 : (o2 == 14) = true := by simpa using b2
              clear b1 b2
              go_wp2
              go_ret
              rw [HD.out]
              exact ⟨_, τ, rfl, H2.out, S2.out⟩
            · have d2 : (o2 == 14) = false := by simpa using b2
              clear b1 b2
              go_wp2
              go_ret
              rw [HD.out]
              exact ⟨_, τ, rfl, H2.out, S2.out⟩
          · have d1 : (o1 == 0) = false := by simpa using b1
            clear b1
            go_wp2
            go_ret
            rw [HD.out]
            exact ⟨_, τ, rfl, H2.out, S2.out⟩
end Go.Proofs.Ytcfhchdkohjbfaa.Kv
