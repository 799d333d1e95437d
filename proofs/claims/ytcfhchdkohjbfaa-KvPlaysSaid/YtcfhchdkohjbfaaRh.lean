/- Pools of rows in pages: the document's pool of the law's: Close. -/
import Derived.Test.YtcfhchdkohjbfaaRg
namespace Go.Proofs.Ytcfhchdkohjbfaa.Kv
set_option maxRecDepth 100000
open Go.ChangeShapes Go.WideShapes Go.ChangeAt Go.RowKit Go.Proofs.Ytcfhchdkohjbfaa.Tn
theorem rowCells_shut (f g : Nat → Value) : ∀ (j : Nat) (l : List (Option (List Int × List Nat))) (k : Nat), k < l.length → (((rowCells f g j l).set (k * 3) (.slice none 0 0)).set (k * 3 + 1) (.slice none 0 0)).set (k * 3 + 2) (.bool false) = rowCells f g j (l.set k none)
  | j, [], k, h => by simp at h
  | j, x :: l, 0, _ => by cases x <;> rfl
  | j, x :: l, k + 1, h => by
    have ih := rowCells_shut f g (j + 1) l k (by simpa using h)
    have a0 : (k + 1) * 3 = k * 3 + 1 + 1 + 1 := by omega
    have a1 : (k + 1) * 3 + 1 = k * 3 + 1 + 1 + 1 + 1 := by omega
    have a2 : (k + 1) * 3 + 2 = k * 3 + 2 + 1 + 1 + 1 := by omega
    rw [a2, a1, a0]
    cases x
    · simp only [rowCells, List.set_cons_succ]
      rw [ih]
    · simp only [rowCells, List.set_cons_succ]
      rw [ih]
/-- a row that is closed -/
def shutW (w : World) (b k : Nat) : World := ((w.setCell ⟨b, k * 3, none⟩ (.slice none 0 0)).setCell ⟨b, k * 3 + 1, none⟩ (.slice none 0 0)).setCell ⟨b, k * 3 + 2, none⟩ (.bool false)
theorem RefAt.shut {w : World} {τ : Tags} {r : Nat} {ly : RLay} {D : Doc Int} (h : RefAt w τ r ly D) {k : Nat} {q : List Int × List Nat} (hq : D.rows[k]? = some (some q)) : RefAt (shutW w ly.b k) τ r ly (putRow D k none) ∧ Step Tag.theirs τ τ w (shutW w ly.b k) := by
  have hkl := (List.getElem?_eq_some_iff.1 hq).1
  rcases h.rows with ⟨h0, _⟩ | ⟨cap, cur, h1, h2, h3, h4, h5, h6, h7⟩
  · rw [h0] at hq; simp at hq
  have hoth : ∀ c, c ≠ ly.b → (shutW w ly.b k).heap[c]? = w.heap[c]? := fun c hc => by
    unfold shutW
    rw [set_other _ _ _ _ _ hc, set_other _ _ _ _ _ hc, set_other _ _ _ _ _ hc]
  have hst : Step Tag.theirs τ τ w (shutW w ly.b k) := ((step_set h7 rfl).trans (step_set h7 rfl)).trans (step_set h7 rfl)
  have hne : ∀ {c : Nat} {t : Tag}, τ c = some t → t ≠ .rrows → (shutW w ly.b k).heap[c]? = w.heap[c]? := fun {c t} ht h9 => hoth c fun e => by
    subst e
    rw [h7] at ht
    cases ht
    exact h9 rfl
  refine ⟨⟨(hne h.tr (by simp)).trans h.hd, h.tr, Or.inr ⟨cap, ((cur.setIfInBounds (k * 3) (.slice none 0 0)).setIfInBounds (k * 3 + 1) (.slice none 0 0)).setIfInBounds (k * 3 + 2) (.bool false), ?_, ?_, ?_, h4, by simpa using h5, ?_, h7⟩, fun id L P hr => ?_, fun c t ht => Nat.lt_of_lt_of_le (h.fits c t ht) hst.size⟩, hst⟩
  · rw [h1]
    show _ = Value.slice _ (D.rows.set k none).length cap
    rw [List.length_set]
  · unfold shutW
    exact set_same _ _ _ _ _ _ (set_same _ _ _ _ _ _ (set_same _ _ _ _ _ _ h2))
  · show (D.rows.set k none).length ≤ cap
    rw [List.length_set]; exact h3
  · show List.take ((D.rows.set k none).length * 3) _ = rowCells ly.lv ly.pv 0 (D.rows.set k none)
    rw [List.length_set, ← rowCells_shut ly.lv ly.pv 0 D.rows k hkl, ← h6]
    simp only [Array.toList_setIfInBounds, List.take_set]
  · replace hr : (D.rows.set k none)[id]? = some (some (L, P)) := hr
    have hik : id ≠ k := fun e => by
      subst e
      rw [List.getElem?_set_self hkl] at hr
      cases hr
    rw [List.getElem?_set_ne (Ne.symm hik)] at hr
    obtain ⟨b1, b2, b3, b4⟩ := h.row id L P hr
    exact ⟨b1.kept fun c hc => hne (b2 c hc) (by simp), b2, b3.kept fun c hc => hne (b4 c hc) (by simp), b4⟩
set_option maxHeartbeats 4000000 in
theorem close_yes {w : World} {τ : Tags} {r : Nat} {D : Doc Int} (h : Ref w τ r D) (hl : D.rows.length ≤ 1024) (k : Nat) (q : List Int × List Nat) (hq : D.rows[k]? = some (some q)) : Calls Try.prog 37 #[.pointer (some ⟨r, 0, none⟩), .int .i64 (k : Int)] w fun e w' => e = .returned (.int .i64 0) ∧ ∃ τ', Ref w' τ' r (putRow D k none) ∧ Step Tag.theirs τ τ' w w' := by
  have hRt := right_ref h hl (k : Int)
  rw [rightD_nat D k _ hq] at hRt
  obtain ⟨ly, h⟩ := h
  obtain ⟨c0, _, _⟩ := h.cells
  obtain ⟨sp, cap, hv, hcap, hmax, hrow⟩ := h.slice
  have HSh := Lib.hid (h.shut hq)
  obtain ⟨N, hN⟩ : ∃ N, D.rows.length = N := ⟨_, rfl⟩
  have hlt : k < N := by rw [← hN]; exact (List.getElem?_eq_some_iff.1 hq).1
  rw [hN] at hv hcap hl
  rw [hv] at c0
  obtain ⟨rfl, u0, u1, u2⟩ := hrow k _ hq
  have b1 : (0 : Int) ≤ (k : Int) := by omega
  have b2 : (k : Int) < (N : Int) := by omega
  have HRt := Lib.hid hRt
  obtain ⟨U0, hU0⟩ : ∃ U0, (if (some q).isSome = true then ly.lv k else Value.slice none 0 0) = U0 := ⟨_, rfl⟩
  obtain ⟨U1, hU1⟩ : ∃ U0, (if (some q).isSome = true then ly.pv k else Value.slice none 0 0) = U0 := ⟨_, rfl⟩
  rw [hU0] at u0
  rw [hU1] at u1
  have f : ∀ i, w.frozen? ⟨ly.b, i, none⟩ = false := by
    rcases h.rows with ⟨h0, _⟩ | ⟨cap, cur, _, h2, _⟩
    · rw [h0] at hq; simp at hq
    · exact fun i => row_frozen h2
  have f0 := f (k * 3)
  have f1 := f (k * 3 + 1)
  have f2 := f (k * 3 + 2)
  clear h hv hN hrow hRt hU0 hU1 f hq
  go_enter Try.func37, Try.ntmps37
  go_wp2_with fail
  refine HRt.out.mono ?_
  rintro e w9 ⟨rfl, rfl⟩
  go_wp2
  go_ret
  exact ⟨rfl, τ, ⟨ly, HSh.out.1⟩, HSh.out.2⟩
theorem close_ref {w : World} {τ : Tags} {r : Nat} {D : Doc Int} (h : Ref w τ r D) (hl : D.rows.length ≤ 1024) (id : Int) : Calls Try.prog 37 #[.pointer (some ⟨r, 0, none⟩), .int .i64 id] w fun e w' => e = .returned (.int .i64 (closeD D id).1) ∧ ∃ τ', Ref w' τ' r (closeD D id).2 ∧ Step Tag.theirs τ τ' w w' := by
  cases hr : rowAt D id with
  | none =>
    have he : closeD D id = (14, D) := by unfold closeD; rw [hr]
    rw [he]
    have hRt := right_ref h hl id
    rw [show rightD D id = false by unfold rightD; rw [hr]; rfl] at hRt
    have HRt := Lib.hid hRt
    have H := Lib.hid h
    clear h hRt hr he
    go_enter Try.func37, Try.ntmps37
    go_wp2_with fail
    refine HRt.out.mono ?_
    rintro e w9 ⟨rfl, rfl⟩
    go_wp2
    go_ret
    exact ⟨rfl, τ, H.out, Step.refl _ _ _⟩
  | some q =>
    obtain ⟨k, rfl, hk⟩ := rowAt_yes hr
    have he : closeD D (k : Int) = (0, putRow D k none) := by unfold closeD; rw [hr]; rfl
    rw [he]
    exact close_yes h hl k q hk
end Go.Proofs.Ytcfhchdkohjbfaa.Kv
