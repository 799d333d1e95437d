/- Pools of rows in pages: the document's pool of the law's, with rows: what lies there, and what is asked of it. -/
import Derived.Test.YtcfhchdkohjbfaaRb
namespace Go.Proofs.Ytcfhchdkohjbfaa.Kv
set_option maxRecDepth 100000
open Go.ChangeShapes Go.WideShapes Go.ChangeAt Go.RowKit Go.Proofs.Ytcfhchdkohjbfaa.Tn
/-- where the document's pool lies: its rows' block, and each row's things and pages -/
structure RLay where
  v : Value
  b : Nat
  lv : Nat → Value
  lb : Nat → Option Nat
  pv : Nat → Value
  pb : Nat → Option Nat
def rowCells (lv pv : Nat → Value) : Nat → List (Option (List Int × List Nat)) → List Value
  | _, [] => []
  | k, none :: l => .slice none 0 0 :: .slice none 0 0 :: .bool false :: rowCells lv pv (k + 1) l
  | k, some _ :: l => lv k :: pv k :: .bool true :: rowCells lv pv (k + 1) l
theorem rowCells_length (lv pv : Nat → Value) : ∀ (k : Nat) (l : List (Option (List Int × List Nat))), (rowCells lv pv k l).length = l.length * 3
  | _, [] => rfl
  | k, none :: l => by simp only [rowCells, List.length_cons, rowCells_length lv pv (k + 1) l]; omega
  | k, some _ :: l => by simp only [rowCells, List.length_cons, rowCells_length lv pv (k + 1) l]; omega
theorem rowCells_at (lv pv : Nat → Value) : ∀ (j : Nat) (l : List (Option (List Int × List Nat))) (k : Nat) (q : Option (List Int × List Nat)), l[k]? = some q →
    (rowCells lv pv j l)[k * 3]? = some (if q.isSome then lv (j + k) else .slice none 0 0) ∧ (rowCells lv pv j l)[k * 3 + 1]? = some (if q.isSome then pv (j + k) else .slice none 0 0) ∧ (rowCells lv pv j l)[k * 3 + 2]? = some (.bool q.isSome)
  | j, [], k, q, h => by simp at h
  | j, x :: l, 0, q, h => by
    simp only [List.getElem?_cons_zero, Option.some.injEq] at h
    subst h
    cases x <;> exact ⟨rfl, rfl, rfl⟩
  | j, x :: l, k + 1, q, h => by
    simp only [List.getElem?_cons_succ] at h
    obtain ⟨h1, h2, h3⟩ := rowCells_at lv pv (j + 1) l k q h
    rw [show j + 1 + k = j + (k + 1) by omega] at h1 h2
    have a0 : (k + 1) * 3 = k * 3 + 1 + 1 + 1 := by omega
    have a1 : (k + 1) * 3 + 1 = k * 3 + 1 + 1 + 1 + 1 := by omega
    have a2 : (k + 1) * 3 + 2 = k * 3 + 2 + 1 + 1 + 1 := by omega
    rw [a2, a1, a0]
    cases x <;> exact ⟨h1, h2, h3⟩
/-- the law's pool holds what the document's does -/
structure RefAt (w : World) (τ : Tags) (r : Nat) (ly : RLay) (D : Doc Int) : Prop where
  hd : w.heap[r]? = some (.cells #[ly.v, .int .i64 (D.pages : Int), .int .i64 (D.size : Int)] 32 (0, 0))
  tr : τ r = some .rpool
  rows : (D.rows = [] ∧ ly.v = .slice none 0 0) ∨ ∃ cap cur, ly.v = .slice (some ⟨ly.b, 0, none⟩) D.rows.length cap ∧ w.heap[ly.b]? = some (.cells cur 73 (0, 0)) ∧ D.rows.length ≤ cap ∧ cap ≤ maxLen ∧ cur.size = cap * 3 ∧ cur.toList.take (D.rows.length * 3) = rowCells ly.lv ly.pv 0 D.rows ∧ τ ly.b = some .rrows
  row : ∀ (id : Nat) (L : List Int) (P : List Nat), D.rows[id]? = some (some (L, P)) → Row w 3 (ly.lv id) (ly.lb id) (L.map (Value.int .i64)) ∧ (∀ c, ly.lb id = some c → τ c = some (.rl id)) ∧ Row w 3 (ly.pv id) (ly.pb id) (P.map natV) ∧ ∀ c, ly.pb id = some c → τ c = some (.rpg id)
  fits : Fits τ w
def Ref (w : World) (τ : Tags) (r : Nat) (D : Doc Int) : Prop := ∃ ly, RefAt w τ r ly D
section
variable {w w' : World} {τ τ' : Tags} {r : Nat} {ly : RLay} {D : Doc Int}
theorem RefAt.step {M : Tag → Bool} (h : RefAt w τ r ly D) (hs : Step M τ τ' w w') (hM : ∀ t, t.theirs = true → M t = false) (hf : Fits τ' w') : RefAt w' τ' r ly D := by
  have hk : ∀ {c : Nat} {t : Tag}, τ c = some t → t.theirs = true → w'.heap[c]? = w.heap[c]? ∧ τ' c = some t := fun {c t} ht hm =>
    ⟨hs.block c (h.fits c t ht) (fun u hu => by rw [ht] at hu; cases hu; exact hM t hm), (hs.tags c (h.fits c t ht)).trans ht⟩
  refine ⟨(hk h.tr rfl).1.trans h.hd, (hk h.tr rfl).2, ?_, fun id L P hr => ?_, hf⟩
  · rcases h.rows with h0 | ⟨cap, cur, h1, h2, h3, h4, h5, h6, h7⟩
    · exact Or.inl h0
    · exact Or.inr ⟨cap, cur, h1, (hk h7 rfl).1.trans h2, h3, h4, h5, h6, (hk h7 rfl).2⟩
  · obtain ⟨h1, h2, h3, h4⟩ := h.row id L P hr
    exact ⟨h1.kept fun c hc => (hk (h2 c hc) rfl).1, fun c hc => (hk (h2 c hc) rfl).2, h3.kept fun c hc => (hk (h4 c hc) rfl).1, fun c hc => (hk (h4 c hc) rfl).2⟩
theorem RefAt.below (h : RefAt w τ r ly D) (hb : Below w.heap.size w w') : RefAt w' τ r ly D := h.step (M := fun _ => false) (Step.below hb) (fun _ _ => rfl) (h.fits.below hb.size)
theorem Ref.step {M : Tag → Bool} (h : Ref w τ r D) (hs : Step M τ τ' w w') (hM : ∀ t, t.theirs = true → M t = false) (hf : Fits τ' w') : Ref w' τ' r D := by
  obtain ⟨ly, h⟩ := h
  exact ⟨ly, h.step hs hM hf⟩
theorem Ref.below (h : Ref w τ r D) (hb : Below w.heap.size w w') : Ref w' τ r D := by
  obtain ⟨ly, h⟩ := h
  exact ⟨ly, h.below hb⟩
theorem RefAt.cells (h : RefAt w τ r ly D) : w.cell? ⟨r, 0, none⟩ = some ly.v ∧ w.cell? ⟨r, 1, none⟩ = some (.int .i64 (D.pages : Int)) ∧ w.cell? ⟨r, 2, none⟩ = some (.int .i64 (D.size : Int)) := by
  refine ⟨?_, ?_, ?_⟩ <;> (rw [cell_of_row _ _ _ _ _ _ h.hd]; rfl)
theorem RefAt.slice (h : RefAt w τ r ly D) : ∃ sp cap, ly.v = .slice sp D.rows.length cap ∧ D.rows.length ≤ cap ∧ cap ≤ maxLen ∧ ∀ (k : Nat) (q : Option (List Int × List Nat)), D.rows[k]? = some q → sp = some ⟨ly.b, 0, none⟩ ∧
    w.cell? ⟨ly.b, k * 3, none⟩ = some (if q.isSome then ly.lv k else .slice none 0 0) ∧ w.cell? ⟨ly.b, k * 3 + 1, none⟩ = some (if q.isSome then ly.pv k else .slice none 0 0) ∧ w.cell? ⟨ly.b, k * 3 + 2, none⟩ = some (.bool q.isSome) := by
  rcases h.rows with ⟨h0, h1⟩ | ⟨cap, cur, h1, h2, h3, h4, h5, h6, _⟩
  · refine ⟨none, 0, by rw [h1, h0]; rfl, by rw [h0]; exact Nat.le_refl _, by unfold maxLen; omega, fun k q hk => by rw [h0] at hk; simp at hk⟩
  · refine ⟨_, cap, h1, h3, h4, fun k q hk => ⟨rfl, ?_⟩⟩
    have hkl := (List.getElem?_eq_some_iff.1 hk).1
    obtain ⟨c0, c1, c2⟩ := rowCells_at ly.lv ly.pv 0 D.rows k q hk
    rw [← h6] at c0 c1 c2
    rw [List.getElem?_take, if_pos (by omega)] at c0 c1 c2
    rw [Nat.zero_add] at c0 c1
    refine ⟨?_, ?_, ?_⟩ <;> rw [cell_of_row _ _ _ _ _ _ h2]
    · simpa using c0
    · simpa using c1
    · simpa using c2
end
/-- is a row open? -/
def rightD (D : Doc Int) (id : Int) : Bool := (rowAt D id).isSome
theorem rightD_nat (D : Doc Int) (k : Nat) (q : Option (List Int × List Nat)) (h : D.rows[k]? = some q) : rightD D (k : Int) = q.isSome := by unfold rightD; rw [rowAt_nat, h]; rfl
set_option maxHeartbeats 4000000 in
theorem right_ref {w : World} {τ : Tags} {r : Nat} {D : Doc Int} (h : Ref w τ r D) (_hl : D.rows.length ≤ 1024) (id : Int) : Calls Try.prog 38 #[.pointer (some ⟨r, 0, none⟩), .int .i64 id] w fun e w' => e = .returned (.bool (rightD D id)) ∧ w = w' := by
  obtain ⟨ly, h⟩ := h
  obtain ⟨c0, _, _⟩ := h.cells
  obtain ⟨sp, cap, hv, hcap, hmax, hrow⟩ := h.slice
  rw [hv] at c0
  obtain ⟨N, hN⟩ : ∃ N, D.rows.length = N := ⟨_, rfl⟩
  rw [hN] at c0 hcap
  have HN := Lib.hid hN
  have HR := Lib.hid hrow
  clear h hv hrow hN
  by_cases h0 : 0 ≤ id
  · obtain ⟨k, hk⟩ : ∃ k : Nat, (k : Int) = id := ⟨id.toNat, by omega⟩
    subst hk
    have d0 : decide (0 ≤ (k : Int)) = true := by simp
    by_cases h1 : k < N
    · have d1 : decide (k < N) = true := by simpa using h1
      have d2 : decide ((k : Int) < (N : Int)) = true := by simp; omega
      have b2 : (k : Int) < (N : Int) := by omega
      obtain ⟨q, hq⟩ : ∃ q, D.rows[k]? = some q := ⟨_, List.getElem?_eq_getElem (by rw [HN.out]; exact h1)⟩
      obtain ⟨rfl, _, _, e2⟩ := HR.out k q hq
      have HA := Lib.hid (rightD_nat D k q hq)
      obtain ⟨b, hb⟩ : ∃ b, q.isSome = b := ⟨_, rfl⟩
      rw [hb] at HA e2
      clear hq hb
      go_enter Try.func38, Try.ntmps38
      go_wp2
      go_ret
      exact ⟨by rw [HA.out]; rfl, rfl⟩
    · have d1 : decide (k < N) = false := by simpa using h1
      have d2 : decide ((k : Int) < (N : Int)) = false := by simp; omega
      have HA : Hid (rightD D (k : Int) = false) := Lib.hid (by unfold rightD; rw [rowAt_nat, List.getElem?_eq_none (by rw [HN.out]; omega)]; rfl)
      go_enter Try.func38, Try.ntmps38
      go_wp2
      go_ret
      exact ⟨by rw [HA.out]; rfl, rfl⟩
  · have d0 : decide (0 ≤ id) = false := by simpa using h0
    have HA : Hid (rightD D id = false) := Lib.hid (by unfold rightD rowAt; rw [if_neg h0]; rfl)
    go_enter Try.func38, Try.ntmps38
    go_wp2
    go_ret
    exact ⟨by rw [HA.out]; rfl, rfl⟩
end Go.Proofs.Ytcfhchdkohjbfaa.Kv
