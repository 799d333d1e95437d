import Derived.Test.YtchjijifmjbgoaaDoorJg
namespace Go.Proofs.YtchjijifmjbgoaaDoor.Tn
set_option maxRecDepth 100000
open Go.ChangeShapes Go.WideShapes Go.ChangeAt Go.RowKit Go.Proofs.YtchjijifmjbgoaaDoor.Fx Go.Proofs.YtchjijifmjbgoaaDoor.Rf

/-! ### the landed code: Add, Mix -/
theorem chkV_zero {l : List Int} (h : chkV l = 0) : 1 ≤ l.length ∧ l.length ≤ 512 ∧ ∀ x ∈ l, isN x := by
  unfold chkV at h
  by_cases h1 : l.length < 1 ∨ 512 < l.length
  · rw [if_pos h1] at h; omega
  · rw [if_neg h1] at h
    by_cases h2 : ∀ x ∈ l, isN x
    · exact ⟨by omega, by omega, h2⟩
    · rw [if_neg h2] at h; omega
theorem firstN_bad {E : Nat → Int} {n : Nat} {c : Int} (hE : ∀ i, i < n → E i = 0 ∨ E i = c) (h : ¬ ∀ i, i < n → E i = 0) : firstN E n = c := by
  obtain ⟨j, hj, hb, hg⟩ := first_not n h
  rw [firstN_at hj hg hb]
  rcases hE j hj with h0 | h0
  · exact absurd h0 hb
  · exact h0
theorem AnsO.cast {w w' : World} {l l' : List Int} {err err' : Int} {e : Ending} (h : AnsO w l err e w') (hl : l = l') (he : err = err') : AnsO w l' err' e w' := by subst hl; subst he; exact h
theorem eg_of {P : Program} {f : FuncId} {fn : Func} (hf : P.funcs[f]? = some fn) (hn : (fn.name == "runtime.NumGoroutine") = false) (hb : fn.body.isNone = false) : ∀ args w, (callFunc f args).run P w = .ok (.enter f args) w := fun args w => cf hf hn hb args w
theorem add_cols (a b : List Int) (i : Nat) : (colA (0 : Int) [a, b] i).map (Value.int .i64) = [.int .i64 (a.getD i 0), .int .i64 (b.getD i 0)] := rfl
theorem add_first {a b : List Int} (hl : a.length = b.length) (ha : chkV a = 0) (hb : chkV b = 0) :
    firstN (fun i => Fq.addE (a.getD i 0) (b.getD i 0)) a.length = addE a b ∧ (if firstN (fun i => Fq.addE (a.getD i 0) (b.getD i 0)) a.length = 0 then (List.range a.length).map (fun i => Fq.addR (a.getD i 0) (b.getD i 0)) else []) = addV a b := by
  obtain ⟨_, _, na⟩ := chkV_zero ha
  obtain ⟨_, _, nb⟩ := chkV_zero hb
  have hE : ∀ i, i < a.length → Fq.addE (a.getD i 0) (b.getD i 0) = Fq.err (a.getD i 0 + b.getD i 0) := fun i hi => by
    unfold Fq.addE
    rw [if_pos ⟨in_of na i hi, in_of nb i (by omega)⟩]
  have hR : ∀ i, i < a.length → Fq.addR (a.getD i 0) (b.getD i 0) = Fq.res (a.getD i 0 + b.getD i 0) := fun i hi => by
    unfold Fq.addR
    rw [if_pos ⟨in_of na i hi, in_of nb i (by omega)⟩]
  have hs : ∀ i, i < a.length → (sums a b).getD i 0 = a.getD i 0 + b.getD i 0 := fun i hi => by simp [sums, hi]
  have hsl : (sums a b).length = a.length := by simp [sums]
  have e1 : firstN (fun i => Fq.addE (a.getD i 0) (b.getD i 0)) a.length = addE a b := by
    unfold addE
    rw [if_neg (by omega), if_neg (by omega), if_neg (by omega)]
    by_cases hall : ∀ x ∈ sums a b, isN x
    · rw [if_pos hall]
      refine firstN_all fun i hi => ?_
      have := in_of (p := isN) hall i (by omega)
      rw [hs i hi] at this
      show Fq.addE _ _ = 0
      rw [hE i hi, Fq.err, if_pos this]
    · rw [if_neg hall]
      refine firstN_bad (fun i hi => ?_) (fun h => hall (of_get fun i hi => ?_))
      · show Fq.addE _ _ = 0 ∨ Fq.addE _ _ = 17
        rw [hE i hi, Fq.err]
        split
        · exact Or.inl rfl
        · exact Or.inr rfl
      · have h1 := h i (by omega)
        rw [hsl] at hi
        rw [hs i hi]
        rw [hE i hi, Fq.err] at h1
        by_cases hn : isN (a.getD i 0 + b.getD i 0)
        · exact hn
        · rw [if_neg hn] at h1; omega
  refine ⟨e1, ?_⟩
  rw [e1]
  unfold addV
  by_cases h0 : addE a b = 0
  · rw [if_pos h0, if_pos h0]
    have hall : ∀ x ∈ sums a b, isN x := by
      unfold addE at h0
      rw [if_neg (by omega), if_neg (by omega), if_neg (by omega)] at h0
      by_cases hall : ∀ x ∈ sums a b, isN x
      · exact hall
      · rw [if_neg hall] at h0; omega
    unfold sums
    apply List.map_congr_left
    intro i hi
    have hi' : i < a.length := by simpa using hi
    have := in_of (p := isN) hall i (by omega)
    rw [hs i hi'] at this
    show Fq.addR _ _ = _
    rw [hR i hi', Fq.res, if_pos this]
  · rw [if_neg h0, if_neg h0]
set_option maxHeartbeats 4000000 in
theorem tadd_any (w : World) (sp sq : Option Addr) (cap caq N M : Nat) (a b : List Int) (hN : a.length = N) (hM : b.length = M) (ha : Nums w sp cap a) (hb : Nums w sq caq b) :
    Calls Tryd.prog 33 #[.slice sp N cap, .slice sq M caq] w (AnsE w (addV a b) (addE a b)) := by
  have HB0 := Lib.hid (Below.refl w.heap.size w)
  have HV := Lib.hid (fun W g (hg : g = W.heap.size) (hW : Below w.heap.size w W) => vecs_new2 W g hg sp sq cap caq N M a b hN hM (ha.below hW) (hb.below hW))
  have HA := Lib.hid (fun W g (hg : g = W.heap.size) (hW : Below w.heap.size w W) => areSame_any _ _ 2 2 [a, b] rfl (HV.out W g hg hW))
  have HC := Lib.hid (fun W g (hg : g = W.heap.size) (hW : Below w.heap.size w W) => check_any _ _ 2 2 [a, b] rfl (HV.out W g hg hW))
  by_cases hs : N = M
  · subst hs
    rw [show decide (sameL [a, b]) = true by simp only [decide_eq_true_eq]; exact (sameL2 _ _).2 (by omega)] at HA
    by_cases hc : chkL [a, b] = 0
    · rw [hc] at HC
      rw [chkL2] at hc
      have h1 : chkV a = 0 := by
        by_cases h : chkV a = 0
        · exact h
        · rw [if_pos h] at hc; exact absurd hc h
      rw [if_neg (by omega)] at hc
      obtain ⟨e1, e2⟩ := add_first (by omega) h1 hc
      rw [hN] at e1 e2
      have hz := (chkV_zero h1).2.1
      have HT : Hid (∀ W g, g = W.heap.size → Below w.heap.size w W → Calls Tryd.prog 49 #[.func (.func 65) #[] #[], .slice (some ⟨g, 0, none⟩) 2 2] (W.alloc (.cells #[.slice sp N cap, .slice sq N caq] 22)) (AnsO (W.alloc (.cells #[.slice sp N cap, .slice sq N caq] 22)) (addV a b) (addE a b))) := Lib.hid (fun W g hg hW => by
        refine (tog_ints _ 65 #[] _ 2 2 N [a, b] rfl (by omega) (by omega) (fun i hi => ?_) (by omega) (vecsA_of (HV.out W g hg hW)) (fun i => Fq.addR (a.getD i 0) (b.getD i 0)) (fun i => Fq.addE (a.getD i 0) (b.getD i 0)) (eg_of Tryd.func65 (by kernel_rfl) (by kernel_rfl)) (fun i hi W' b' hW' hsl => ?_)).mono fun e w' h => h.cast e2 e1
        · rcases i with _ | _ | i
          · exact hN
          · exact hM
          · omega
        · rw [add_cols] at hsl
          exact add1_any W' b' 2 _ _ hsl rfl)
      obtain ⟨V, hV⟩ : ∃ V, addV a b = V := ⟨_, rfl⟩
      obtain ⟨E, hE⟩ : ∃ E, addE a b = E := ⟨_, rfl⟩
      rw [hV, hE] at HT ⊢
      clear ha hb hN hM hc h1 e1 e2 hz hV hE HV
      go_enter Tryd.func33, Tryd.ntmps33
      go_wp2_with fail
      refine (HA.out _ _ (by simp) HB0.out).mono ?_
      rintro e w' ⟨rfl, rfl⟩
      have HB1 := Lib.hid (HB0.out.alloc (Nat.le_refl _) (.cells #[.slice sp N cap, .slice sq N caq] 22))
      go_wp2_with fail
      refine (HC.out _ _ (by simp) HB1.out).mono ?_
      rintro e w2 ⟨rfl, hb2⟩
      have HB2 := Lib.hid ((HB1.out.alloc HB1.out.size (.cells #[.slice sp N cap, .slice sq N caq] 22)).trans (hb2.mono (by simp; omega)))
      clear hb2
      go_wp2_with fail
      refine (HT.out _ _ rfl HB2.out).mono ?_
      rintro e w3 h3
      obtain ⟨s3, c3, rfl, hn3, hb3⟩ := h3.ansE
      have HN3 := Lib.hid hn3
      have HB3 := Lib.hid ((HB2.out.alloc HB2.out.size (.cells #[.slice sp N cap, .slice sq N caq] 22)).trans (hb3.mono (by have := HB2.out.size; simp; omega)))
      clear h3 hn3 hb3
      go_wp2
      go_ret2
      exact ⟨s3, c3, rfl, HN3.out, HB3.out⟩
    · have hE : addE a b = chkL [a, b] := by
        rw [chkL2] at hc ⊢
        unfold addE
        rw [if_neg (by omega)]
        by_cases h : chkV a = 0
        · have hb0 : chkV b ≠ 0 := fun hh => hc (by rw [if_neg (fun x => x h)]; exact hh)
          rw [if_neg (fun x => x h), if_pos hb0, if_neg (fun x => x h)]
        · rw [if_pos h, if_pos h]
      have hV : addV a b = [] := by unfold addV; rw [if_neg (by rw [hE]; exact hc)]
      rw [hV, hE]
      have hne := ne0 hc
      obtain ⟨E, hEE⟩ : ∃ E, chkL [a, b] = E := ⟨_, rfl⟩
      rw [hEE] at HC hne ⊢
      clear ha hb hN hM hc hE hV hEE HV
      go_enter Tryd.func33, Tryd.ntmps33
      go_wp2_with fail
      refine (HA.out _ _ (by simp) HB0.out).mono ?_
      rintro e w' ⟨rfl, rfl⟩
      have HB1 := Lib.hid (HB0.out.alloc (Nat.le_refl _) (.cells #[.slice sp N cap, .slice sq N caq] 22))
      go_wp2_with fail
      refine (HC.out _ _ (by simp) HB1.out).mono ?_
      rintro e w2 ⟨rfl, hb2⟩
      have HB2 := Lib.hid ((HB1.out.alloc HB1.out.size (.cells #[.slice sp N cap, .slice sq N caq] 22)).trans (hb2.mono (by simp; omega)))
      clear hb2
      go_wp2
      go_ret2
      exact AnsE.no HB2.out
  · rw [show decide (sameL [a, b]) = false by simp only [decide_eq_false_iff_not, sameL2]; omega] at HA
    have hE : addE a b = 13 := by unfold addE; rw [if_pos (by omega)]
    have hV : addV a b = [] := by unfold addV; rw [if_neg (by omega)]
    rw [hV, hE]
    clear ha hb hN hM hs hE hV HV HC
    go_enter Tryd.func33, Tryd.ntmps33
    go_wp2_with fail
    refine (HA.out _ _ (by simp) HB0.out).mono ?_
    rintro e w' ⟨rfl, rfl⟩
    have HB1 := Lib.hid (HB0.out.alloc (Nat.le_refl _) (.cells #[.slice sp N cap, .slice sq M caq] 22))
    go_wp2
    go_ret2
    exact AnsE.no HB1.out
end Go.Proofs.YtchjijifmjbgoaaDoor.Tn
