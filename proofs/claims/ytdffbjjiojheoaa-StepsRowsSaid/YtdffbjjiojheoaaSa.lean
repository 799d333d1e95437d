/- Steps: a drawn region whose last operations are told inside a fence (a call of the loop's own body among them). -/
import Derived.Test.YtdffbjjiojheoaaMf
namespace Go.Proofs.Ytdffbjjiojheoaa.Tn
set_option maxRecDepth 100000
open Go.ChangeShapes Go.WideShapes Go.ChangeAt Go.RowKit Go.Shelf
def noDefS (ops : Array Oper) : Bool := ops.all fun o => match o.op with | .defer _ => false | _ => true
theorem opIn_wideS {P : Program} {o : Oper} {a : Act} {w : World} {K : Act → World → Prop} {Q : Exit → Act → World → Prop} {n : Nat} (hd : ∀ c, o.op ≠ .defer c) (h : o.wp P a w K Q) : o.wpIn Fence.wide n P a w K Q := by
  refine ⟨fun f _ => trivial, ?_⟩
  rw [Oper.semAt_plain Fence.wide _ _ hd]
  unfold Oper.wp at h
  generalize (execOp a.eval o).run P w = r at *
  cases r with
  | ok x w' =>
    cases x <;> simp only [Oper.upon, Oper.uponIn] at h ⊢ <;>
      first
        | exact h
        | exact ⟨fun e => by simp [Fence.wide] at e, callsIn_wide.2 h⟩
        | exact ⟨fun e => by simp [Fence.wide] at e, fun c cs _ => let ⟨v, w', r, s⟩ := h c cs; ⟨v, w', r, stepsIn_wide.2 s⟩⟩
  | halt x w' => cases x <;> simp only [Oper.upon, Oper.uponIn] at h ⊢ <;> exact h
section
variable {P : Program} {ops : Array Oper}
theorem wpAnyIn_of_seqS {F : Fence} {n : Nat} {md : Region.Mode} {Q' : Exit → Act → World → Prop} : ∀ (l : List Oper) (k : Nat) (listed : Array Bool) (a : Act) (w : World), (∀ j, l[j]? = ops[k + j]?) →
    Region.seqB md ops l.length k listed = true → wpListIn F n P ops Q' l a w → wpAnyIn F n P md ops Q' l.length listed a w
  | [], _, _, _, _, _, hB, h => ⟨by simpa [Region.seqB] using hB, h⟩
  | o :: l, k, listed, a, w, hl, hB, h => by
    have h0 : ops[k]? = some o := by simpa using (hl 0).symm
    simp only [List.length_cons, Region.seqB, Bool.and_eq_true, decide_eq_true_eq] at hB
    refine ⟨fun h1 => (by rw [hB.1] at h1; cases h1), fun i hi => ?_⟩
    rw [hB.1] at hi
    have hik : i = k := by simpa using hi
    subst hik
    have hw : wpOpIn F n P ops Q' i (wpListIn F n P ops Q' l) a w := by unfold wpOpIn; simp only [h0]; exact h
    exact wpOpIn_mono (fun a' w' h' => wpAnyIn_of_seqS l (i + 1) _ a' w' (fun j => by have := hl (j + 1); simpa [Nat.add_assoc, Nat.add_comm 1 j] using this) hB.2 h') hw
end
section
variable {P : Program} {ops : Array Oper} {C : World → Prop} {Pre : Nat → World → Prop} {Le : Nat → World → World → Prop} {Φ : (Nat → Value) → Nat → World → Value → Prop}
theorem specIn_any {mm : Nat} {Q : Exit → Act → World → Prop} {a0 : Act} {n : Nat} (hdf : noDefS ops = true) (hB : specB ops n = true) (hU : ∀ (u u' : Nat → Value) (j : Nat) w v, (∀ oj, ops[j]? = some oj → ∀ e ∈ oj.after, Region.binds .any e = true → u e.on = u' e.on) → Φ u j w v → Φ u' j w v) (hLe : ∀ u j k w w' v, j ≠ k → Le k w w' → Φ u j w v → Φ u j w' v) (hPre : ∀ j k w w', j ≠ k → Le k w w' → Pre j w → Pre j w') (Ψ : Nat → Value → Prop) (hΨ : ∀ u j w v, Φ u j w v → Ψ j v) (h : ∀ u, (∀ j, Ψ j (u j)) → specAll P ops C Pre Le Φ u (ops.toList.take n) 0 a0)
    (hend : ∀ u a w, (∀ j, Ψ j (u j)) → C w → (∀ j, j < n → Φ u j w (u j)) → a = putAll u (ops.toList.take n) 0 a0 → wpListIn Fence.wide mm P ops Q (ops.toList.drop n) a w) :
    ∀ (f : Nat) (listed : Array Bool) (a : Act) (w : World) (u : Nat → Value), (∀ j, Ψ j (u j)) → HeadInv .any ops n listed → cntU listed n = f → SpecInv P ops C Pre Φ a0 u listed a w → wpAnyIn Fence.wide mm P .any ops Q (f + (ops.size - n)) listed a w := by
  simp only [specB, Bool.and_eq_true, decide_eq_true_eq] at hB
  obtain ⟨⟨⟨⟨⟨⟨⟨hsel, hn⟩, hs⟩, hc⟩, hdist⟩, hlook⟩, hdep⟩, hseq⟩ := hB
  have hdep' : ∀ i oi, i < n → ops[i]? = some oi → ∀ e ∈ oi.after, Region.binds .any e = true → e.on < i := fun i oi hi hoi e he hb => by
    have h1 := List.all_eq_true.1 hdep i (List.mem_range.2 hi)
    simp only [hoi] at h1
    have h2 := Array.all_eq_true_iff_forall_mem.1 h1 e he
    rw [hb] at h2
    simpa using h2
  have hdist' : ∀ i j oi oj d, i < n → j < n → i ≠ j → ops[i]? = some oi → ops[j]? = some oj → oi.dst = some d → oj.dst ≠ some d := fun i j oi oj d hi hj hij hoi hoj hd hd2 => by
    have h1 := List.all_eq_true.1 (List.all_eq_true.1 hdist i (List.mem_range.2 hi)) j (List.mem_range.2 hj)
    simp [hij, hoi, hoj, hd, hd2] at h1
  have hlook' : ∀ i j oi oj t, i < n → ops[i]? = some oi → ops[j]? = some oj → t ∈ oi.looksAt ops → oj.dst = some t → n ≤ j ∨ (j < i ∧ Region.waitsFor .any ops i j = true) := fun i j oi oj t hi hoi hoj ht hd => by
    have h1 := List.all_eq_true.1 hlook i (List.mem_range.2 hi)
    simp only [hoi] at h1
    have h2 := List.all_eq_true.1 (List.all_eq_true.1 h1 t ht) j (List.mem_range.2 (Array.getElem?_eq_some_iff.1 hoj).1)
    simp only [hoj, hd] at h2
    simpa using h2
  intro f
  induction f with
  | zero =>
    intro listed a w u hu inv hcnt hi
    have hall := cntU_zero n hcnt
    have hlist : listed = (List.range n).foldl (fun l i => l.setIfInBounds i true) (Array.replicate ops.size false) := by
      apply Array.ext
      · rw [inv.size, (fold_get ops.size n 0 (by omega)).1]
      · intro j h1 h2
        rw [inv.size] at h1
        have e1 : listed[j] = listed.getD j true := by simp [Array.getD, inv.size, h1]
        have e2 := (fold_get ops.size n j (by omega)).2 true h1
        have e3 : ((List.range n).foldl (fun l i => l.setIfInBounds i true) (Array.replicate ops.size false))[j] = ((List.range n).foldl (fun l i => l.setIfInBounds i true) (Array.replicate ops.size false)).getD j true := by simp [Array.getD, h2]
        rw [e1, e3, e2]
        by_cases hj : j < n
        · rw [hall j hj]; simp [hj]
        · rw [inv.tail j (by omega) h1]; simp [hj]
    have htake : ∀ j oj, ops[j]? = some oj → j < n → (ops.toList.take n)[j]? = some oj := fun j oj hoj hj => by
      rw [List.getElem?_take, if_pos hj, Array.getElem?_toList]; exact hoj
    have hput : a = putAll u (ops.toList.take n) 0 a0 := by
      obtain ⟨p1, p2⟩ := putAll_size u (ops.toList.take n) 0 a0
      have ht : a.tmps = (putAll u (ops.toList.take n) 0 a0).tmps := by
        apply Array.ext
        · rw [hi.size, p1]
        · intro t h1 h2
          have e1 : a.tmps[t] = a.tmps.getD t undef := by simp [Array.getD, h1]
          have e2 : (putAll u (ops.toList.take n) 0 a0).tmps[t] = (putAll u (ops.toList.take n) 0 a0).tmps.getD t undef := by simp [Array.getD, h2]
          rw [e1, e2]
          rw [hi.size] at h1
          by_cases hw : ∃ j oj, j < n ∧ ops[j]? = some oj ∧ oj.dst = some t
          · obtain ⟨j, oj, hj, hoj, hd⟩ := hw
            rw [hi.val j oj t hoj (by rw [getD_agree inv.size (by omega) false true]; exact hall j hj) hd h1, putAll_same u t _ 0 a0 j oj (htake j oj hoj hj) hd h1 (fun i oi hi2 hji => by
              rw [List.getElem?_take] at hi2
              split at hi2
              · rename_i hin
                rw [Array.getElem?_toList] at hi2
                exact hdist' j i oj oi t hj hin (by omega) hoj hi2 hd
              · cases hi2), Nat.zero_add]
          · rw [hi.rest t (fun j oj hoj hl hd => by
              by_cases hj : j < n
              · exact hw ⟨j, oj, hj, hoj, hd⟩
              · have := inv.tail j (by omega) (Array.getElem?_eq_some_iff.1 hoj).1
                rw [getD_both this] at hl
                cases hl), putAll_other u t _ 0 a0 (fun o ho hd => by
              obtain ⟨j, hj⟩ := List.getElem?_of_mem ho
              rw [List.getElem?_take] at hj
              split at hj
              · rename_i hjn
                rw [Array.getElem?_toList] at hj
                exact hw ⟨j, o, hjn, hj, hd⟩
              · cases hj)]
      have hdd : a.defers = (putAll u (ops.toList.take n) 0 a0).defers := by rw [hi.defers, p2]
      cases a
      cases hp : putAll u (ops.toList.take n) 0 a0
      rw [hp] at ht hdd
      simp only at ht hdd
      rw [ht, hdd]
    have hdl : (ops.toList.drop n).length = ops.size - n := by simp
    have := wpAnyIn_of_seqS (md := .any) (Q' := Q) (ops.toList.drop n) n listed a w (fun j => by rw [List.getElem?_drop, Array.getElem?_toList]) (by rw [hdl, hlist]; exact hseq)
      (hend u a w hu hi.world (fun j hj => hi.word j (by rw [getD_agree inv.size (by omega) false true]; exact hall j hj)) hput)
    rw [hdl] at this
    rw [Nat.zero_add]
    exact this
  | succ f ih =>
    intro listed a w u hu inv hcnt hi
    obtain ⟨m, hm, hmun, hmall⟩ := cntU_least n (by rw [hcnt]; omega)
    have hready : m ∈ Region.ready .any ops listed := by
      rw [mem_ready]
      obtain ⟨om, hom⟩ : ∃ om, ops[m]? = some om := ⟨_, Array.getElem?_eq_getElem (by omega)⟩
      refine ⟨hmun, om, hom, fun e he hb => ?_⟩
      have h1 := hdep' m om hm hom e he hb
      rw [getD_agree inv.size (by omega) false true]
      exact hmall _ h1
    rw [show f + 1 + (ops.size - n) = (f + (ops.size - n)) + 1 by omega]
    refine ⟨fun h0 => absurd h0 (List.ne_nil_of_mem hready), fun i hir => ?_⟩
    have hin : i < n := Nat.lt_of_not_le fun hge => late_waits hs hc hn inv _ m rfl (Nat.zero_le _) hm hmun i hge hir
    obtain ⟨hun, oi, hoi, hall⟩ := mem_ready.1 hir
    have htk : (ops.toList.take n)[i]? = some oi := by rw [List.getElem?_take, if_pos hin, Array.getElem?_toList]; exact hoi
    obtain ⟨hwant, hgives⟩ := specAll_at (ops.toList.take n) 0 a0 i oi (h u hu) htk w hi.world (by rw [Nat.zero_add]; exact hi.pre i (Array.getElem?_eq_some_iff.1 hoi).1 hun) (fun e he hb => hi.word _ (hall e (by simpa using he) hb))
    -- what it looks at reads the same in both frames
    have hagree : ∀ t ∈ oi.looksAt ops, a.tmps.getD t undef = (putAll u ((ops.toList.take n).take i) 0 a0).tmps.getD t undef := by
      intro t ht
      obtain ⟨p1, _⟩ := putAll_size u ((ops.toList.take n).take i) 0 a0
      by_cases hts : t < a0.tmps.size
      · by_cases hw : ∃ (j : Nat) (oj : Oper), j < n ∧ ops[j]? = some oj ∧ oj.dst = some t
        · obtain ⟨j, oj, hjn, hoj, hd⟩ := hw
          obtain ⟨hji, hwt⟩ := (hlook' i j oi oj t hin hoi hoj ht hd).resolve_left (by omega)
          obtain ⟨o2, ho2, e, he, hb, hon⟩ := Region.waitsFor_spec hwt
          obtain rfl : o2 = oi := Option.some.inj (ho2.symm.trans hoi)
          have hl := hall e he hb
          rw [hon] at hl
          rw [hi.val j oj t hoj hl hd hts, putAll_same u t _ 0 a0 j oj (by rw [List.getElem?_take, if_pos hji, List.getElem?_take, if_pos (by omega), Array.getElem?_toList]; exact hoj) hd hts (fun k ok hk hjk => by
            rw [List.getElem?_take] at hk
            split at hk
            · rw [List.getElem?_take] at hk
              split at hk
              · rename_i hkn
                rw [Array.getElem?_toList] at hk
                exact hdist' j k oj ok t (by omega) hkn (by omega) hoj hk hd
              · cases hk
            · cases hk), Nat.zero_add]
        · rw [hi.rest t (fun j oj hoj hl hd => hw ⟨j, oj, Nat.lt_of_not_le (fun hge => by rw [getD_both (inv.tail j hge (Array.getElem?_eq_some_iff.1 hoj).1)] at hl; cases hl), hoj, hd⟩), putAll_other u t _ 0 a0 (fun o ho hd => by
            obtain ⟨j, hj⟩ := List.getElem?_of_mem (List.mem_of_mem_take ho)
            rw [List.getElem?_take] at hj
            split at hj
            · rename_i hjn
              rw [Array.getElem?_toList] at hj
              exact hw ⟨j, o, hjn, hj, hd⟩
            · cases hj)]
      · simp [Array.getD, hi.size, p1, hts]
    have heval : ∀ x ∈ oi.op.operands, a.eval x = (putAll u ((ops.toList.take n).take i) 0 a0).eval x := by
      intro x hx
      cases x with
      | tmp t => exact hagree t (List.mem_append_left _ (List.mem_filterMap.2 ⟨.tmp t, by simpa using hx, rfl⟩))
      | _ => rfl
    have hexec : execOp a.eval oi = execOp (putAll u ((ops.toList.take n).take i) 0 a0).eval oi := execOp_congr oi (fun cs b => Region.noSelect_spec hsel i oi cs b hoi) heval
    have hwanted : Region.wanted oi (yielded ops a.tmps) = true := by
      rw [← hwant]
      unfold Region.wanted
      cases hg : oi.guard with
      | none => rfl
      | some gw =>
        obtain ⟨g, want⟩ := gw
        have hy : yielded ops a.tmps g = yielded ops (putAll u ((ops.toList.take n).take i) 0 a0).tmps g := by
          unfold yielded
          cases ht : (ops[g]?).bind (·.dst) with
          | none => rfl
          | some t =>
            have h1 := hagree t (by simp [Oper.looksAt, hg, ht])
            have h2 : a.tmps.size = (putAll u ((ops.toList.take n).take i) 0 a0).tmps.size := hi.size.trans (putAll_size u _ 0 a0).1.symm
            rw [get_of_getD h2 h1]
        simp only [hy]
    have hg2 : Gives P oi a w (fun v w' => C w' ∧ Le (0 + i) w w' ∧ Φ u (0 + i) w' v) := by
      unfold Gives
      rw [hexec]
      exact hgives
    unfold wpOpIn
    simp only [hoi, hwanted, if_true]
    refine opIn_wideS (fun c e => by
      have h3 := (Array.all_eq_true_iff_forall_mem.1 hdf) oi (Array.mem_of_getElem? hoi)
      simp only [e] at h3
      cases h3) (wp_of_gives hg2 fun v w' ⟨hC', hLe', hΦ⟩ => ?_)
    rw [Nat.zero_add] at hΦ hLe'
    refine ih (listed.setIfInBounds i true) (a.put oi.dst v) w' (fun j => if j = i then v else u j) (fun j => by
      by_cases hji : j = i
      · subst hji; simp only [if_true]; exact hΨ _ _ _ _ hΦ
      · simp only [if_neg hji]; exact hu j) (inv.set hir hin) (by rw [cntU_set hun n hin] at hcnt; omega) ⟨hC', (put_size _ _ _).trans hi.size, (put_defers' _ _ _).trans hi.defers, ?_, ?_, ?_, fun j hjs hju => by
        by_cases hji : j = i
        · subst hji
          have hsz : j < listed.size := by rw [inv.size]; exact hjs
          rw [Array.getD_eq_getD_getElem?, Array.getElem?_setIfInBounds] at hju
          simp [hsz] at hju
        · exact hPre j i w w' hji hLe' (hi.pre j hjs (by rw [Array.getD_eq_getD_getElem?] at hju ⊢; rwa [Array.getElem?_setIfInBounds_ne (fun e => hji e.symm)] at hju))⟩
    · intro j oj d hoj hl hd hds
      by_cases hji : i = j
      · subst hji
        obtain rfl : oi = oj := Option.some.inj (hoi.symm.trans hoj)
        rw [put_getD, if_pos ⟨hd, by rw [hi.size]; exact hds⟩, if_pos rfl]
      · rw [getD_set_ne false hji] at hl
        have hjn : j < n := Nat.lt_of_not_le fun hge => by
          have := inv.tail j hge (Array.getElem?_eq_some_iff.1 hoj).1
          rw [getD_both this] at hl
          cases hl
        rw [put_getD, if_neg (fun h => hdist' j i oj oi d hjn hin (fun e => hji e.symm) hoj hoi hd h.1), if_neg (fun e => hji e.symm)]
        exact hi.val j oj d hoj hl hd hds
    · intro j hl
      by_cases hji : i = j
      · subst hji
        simp only [if_true]
        refine hU u _ i w' v (fun oj hoj e he hb => ?_) hΦ
        obtain rfl : oi = oj := Option.some.inj (hoi.symm.trans hoj)
        have := hdep' i oi hin hoi e he hb
        rw [if_neg (by omega)]
      · rw [getD_set_ne false hji] at hl
        simp only [if_neg (fun e : j = i => hji e.symm)]
        refine hU u _ j w' (u j) (fun oj hoj e he hb => ?_) (hLe _ _ _ _ _ _ (fun e => hji e.symm) hLe' (hi.word j hl))
        have h1 := inv.closed j oj hoj hl e he hb
        rw [if_neg (fun ee => by rw [ee, getD_both hun] at h1; cases h1)]
    · intro t ht
      rw [put_getD, if_neg (fun h => ht i oi hoi (by
        rw [Array.getD_eq_getD_getElem?, Array.getElem?_setIfInBounds]
        have : i < listed.size := by rw [inv.size]; omega
        simp [this]) h.1)]
      exact hi.rest t (fun j oj hoj hl => ht j oj hoj (getD_set_true hl))
end
/-- A region that draws its order: its first n operations are told by what they yield, the others follow in one order. -/
theorem anyIn_spec {P : Program} {C : World → Prop} {Pre : Nat → World → Prop} {Le : Nat → World → World → Prop} {mm : Nat} {Q : Exit → Act → World → Prop} {a0 : Act} {w : World} {l : List Oper} (n : Nat) (Φ : (Nat → Value) → Nat → World → Value → Prop) (hdf : noDefS l.toArray = true) (hB : specB l.toArray n = true) (hC : C { w with drawn := w.drawn + 1 }) (hU : ∀ (u u' : Nat → Value) (j : Nat) w v, (∀ oj, l.toArray[j]? = some oj → ∀ e ∈ oj.after, Region.binds .any e = true → u e.on = u' e.on) → Φ u j w v → Φ u' j w v) (hLe : ∀ u j k w w' v, j ≠ k → Le k w w' → Φ u j w v → Φ u j w' v) (hPre : ∀ j k w w', j ≠ k → Le k w w' → Pre j w → Pre j w') (hPre0 : ∀ j, Pre j { w with drawn := w.drawn + 1 }) (Ψ : Nat → Value → Prop) (hΨ : ∀ u j w v, Φ u j w v → Ψ j v) (u0 : Nat → Value) (hu0 : ∀ j, Ψ j (u0 j))
    (h : ∀ u, (∀ j, Ψ j (u j)) → specAll P l.toArray C Pre Le Φ u (l.take n) 0 a0) (hend : ∀ u w, (∀ j, Ψ j (u j)) → C w → (∀ j, j < n → Φ u j w (u j)) → wpListIn Fence.wide mm P l.toArray Q (l.drop n) (putAll u (l.take n) 0 a0) w) :
    wpAnyIn Fence.wide mm P .any l.toArray Q l.toArray.size (Array.replicate l.toArray.size false) a0 { w with drawn := w.drawn + 1 } := by
  have hn : n < l.toArray.size := by
    simp only [specB, Bool.and_eq_true, decide_eq_true_eq] at hB
    exact hB.1.1.1.1.1.1.2
  have inv0 : HeadInv .any l.toArray n (Array.replicate l.toArray.size false) :=
    ⟨by simp, fun j oj _ hl => (by rw [getD_replicate_false] at hl; cases hl), fun t _ ht => getD_in (by simpa using ht) (getD_replicate_false _ _)⟩
  have hc : ∀ k, k ≤ l.toArray.size → cntU (Array.replicate l.toArray.size false) k = k := by
    intro k
    induction k with
    | zero => intro _; rfl
    | succ k ih =>
      intro hk
      have : (Array.replicate l.toArray.size false).getD k true = false := getD_in (by simp at hk ⊢; omega) (getD_replicate_false _ _)
      rw [cntU, ih (by omega), this]
      simp
  have K := specIn_any (mm := mm) (Q := Q) (a0 := a0) (n := n) hdf hB hU hLe hPre Ψ hΨ (by simpa using h) (fun u a w hu hC hΦ ha => by subst ha; simpa using hend u w hu hC hΦ) n _ a0 { w with drawn := w.drawn + 1 } u0 hu0 inv0 (hc n (by omega))
    ⟨hC, rfl, rfl, (fun j oj d _ hl => by rw [getD_replicate_false] at hl; cases hl), (fun j hl => by rw [getD_replicate_false] at hl; cases hl), (fun t _ => rfl), fun j _ _ => hPre0 j⟩
  rwa [show n + (l.toArray.size - n) = l.toArray.size by omega] at K
/-- a region that draws its order, inside a fence: the first n operations are told by what they answer, the others follow in one order -/
theorem wpIn_region_specW {P : Program} {C : World → Prop} {Le : World → World → Prop} {id mm : Nat} {Q : Exit → Act → World → Prop} {a0 : Act} {w : World} {l : List Oper} (n : Nat) (Φ : Nat → World → Value → Prop) (hm : P.follows .mixedOrders = true) (hdf : noDefS l.toArray = true) (hB : specB l.toArray n = true) (hC : C { w with drawn := w.drawn + 1 }) (hLe : ∀ j w w' v, Le w w' → Φ j w v → Φ j w' v) (u0 : Nat → Value) (hu0 : ∀ j w v, Φ j w v → v = u0 j)
    (h : specAll P l.toArray C (fun _ _ => True) (fun _ => Le) (fun _ => Φ) u0 (l.take n) 0 a0) (hend : ∀ w, C w → (∀ j, j < n → Φ j w (u0 j)) → wpListIn Fence.wide mm P l.toArray Q (l.drop n) (putAll u0 (l.take n) 0 a0) w) : (Code.region id l.toArray true).wpIn Fence.wide mm P Q a0 w :=
  wpIn_region_any hm (anyIn_spec (Le := fun _ => Le) (Pre := fun _ _ => True) n (fun _ => Φ) hdf hB hC (fun _ _ _ _ _ _ h => h) (fun _ j _ w w' v _ => hLe j w w' v) (fun _ _ _ _ _ _ h => h) (fun _ => trivial) (fun j v => v = u0 j) (fun _ j w v h => hu0 j w v h) u0 (fun _ => rfl) (fun u hu => by have e : u = u0 := funext hu; subst e; exact h) (fun u w hu hC hP => by have e : u = u0 := funext hu; subst e; exact hend w hC hP))
end Go.Proofs.Ytdffbjjiojheoaa.Tn
