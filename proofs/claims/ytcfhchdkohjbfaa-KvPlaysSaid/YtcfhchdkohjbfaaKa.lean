/- Pools of rows in pages: the mathematics, over lists alone. -/
import Derived.Lib.Hide
namespace Go.Proofs.Ytcfhchdkohjbfaa.Kv
set_option maxRecDepth 100000

/-- what the document tells of a pool: how many things a page has room for, how many pages there are, and the rows: of each that is open its things, and its pages -/
structure Doc (α : Type) where
  size : Nat
  pages : Nat
  rows : List (Option (List α × List Nat))
section
variable {α : Type}
/-- how often a row holds a page -/
def one : Option (List α × List Nat) → Nat → Nat
  | none, _ => 0
  | some (_, P), k => P.count k
/-- how often open rows hold a page -/
def cnt : List (Option (List α × List Nat)) → Nat → Nat
  | [], _ => 0
  | r :: l, k => one r k + cnt l k
theorem cnt_append (a b : List (Option (List α × List Nat))) (k : Nat) : cnt (a ++ b) k = cnt a k + cnt b k := by
  induction a with
  | nil => simp [cnt]
  | cons r l ih => simp [cnt, ih]; omega
theorem cnt_set (k : Nat) (r' : Option (List α × List Nat)) : ∀ (l : List (Option (List α × List Nat))) (i : Nat) (r : Option (List α × List Nat)), l[i]? = some r → cnt (l.set i r') k + one r k = cnt l k + one r' k
  | [], i, r, h => by simp at h
  | x :: l, 0, r, h => by
    simp only [List.getElem?_cons_zero, Option.some.injEq] at h
    subst h
    simp only [List.set_cons_zero, cnt]; omega
  | x :: l, i + 1, r, h => by
    simp only [List.getElem?_cons_succ] at h
    have := cnt_set k r' l i r h
    simp only [List.set_cons_succ, cnt]; omega
theorem one_le (k : Nat) : ∀ (l : List (Option (List α × List Nat))) (i : Nat) (r : Option (List α × List Nat)), l[i]? = some r → one r k ≤ cnt l k
  | [], i, r, h => by simp at h
  | x :: l, 0, r, h => by
    simp only [List.getElem?_cons_zero, Option.some.injEq] at h
    subst h
    simp only [cnt]; omega
  | x :: l, i + 1, r, h => by
    simp only [List.getElem?_cons_succ] at h
    have := one_le k l i r h
    simp only [cnt]; omega
theorem two_le (k : Nat) : ∀ (l : List (Option (List α × List Nat))) (i j : Nat) (r q : Option (List α × List Nat)), i ≠ j → l[i]? = some r → l[j]? = some q → one r k + one q k ≤ cnt l k
  | [], i, j, r, q, _, h, _ => by simp at h
  | x :: l, 0, 0, r, q, hn, _, _ => absurd rfl hn
  | x :: l, 0, j + 1, r, q, _, h, h' => by
    simp only [List.getElem?_cons_zero, Option.some.injEq] at h
    simp only [List.getElem?_cons_succ] at h'
    subst h
    have := one_le k l j q h'
    simp only [cnt]; omega
  | x :: l, i + 1, 0, r, q, _, h, h' => by
    simp only [List.getElem?_cons_zero, Option.some.injEq] at h'
    simp only [List.getElem?_cons_succ] at h
    subst h'
    have := one_le k l i r h
    simp only [cnt]; omega
  | x :: l, i + 1, j + 1, r, q, hn, h, h' => by
    simp only [List.getElem?_cons_succ] at h h'
    have := two_le k l i j r q (by omega) h h'
    simp only [cnt]; omega

/-- the pages as the program keeps them: what lies there, and how many open rows hold it -/
abbrev Pg (α : Type) := List (List α × Nat)
/-- a row's things lie in its pages -/
structure RowOK (size pages : Nat) (pg : Pg α) (L : List α) (P : List Nat) : Prop where
  nd : P.Nodup
  lt : ∀ k ∈ P, k < pages
  pl : P.length = (L.length + size - 1) / size
  th : ∀ (i : Nat) (x : α), L[i]? = some x → ∃ k c, P[i / size]? = some k ∧ pg[k]? = some c ∧ c.1[i % size]? = some x
/-- the pages are those of the document's pool -/
structure Good (D : Doc α) (pg : Pg α) : Prop where
  s0 : 1 ≤ D.size
  s1 : D.size ≤ 64
  p0 : 1 ≤ D.pages
  p1 : D.pages ≤ 256
  len : D.rows.length ≤ 1024
  plen : pg.length = D.pages
  cnts : ∀ (k : Nat) (c : List α × Nat), pg[k]? = some c → c.2 = cnt D.rows k
  row : ∀ (id : Nat) (L : List α) (P : List Nat), D.rows[id]? = some (some (L, P)) → RowOK D.size D.pages pg L P

theorem RowOK.kept {s n : Nat} {pg pg' : Pg α} {L : List α} {P : List Nat} (h : RowOK s n pg L P) (hk : ∀ k ∈ P, ∀ c, pg[k]? = some c → ∃ c', pg'[k]? = some c' ∧ c'.1 = c.1) : RowOK s n pg' L P :=
  ⟨h.nd, h.lt, h.pl, fun i x hx => by
    obtain ⟨k, c, h1, h2, h3⟩ := h.th i x hx
    obtain ⟨c', h4, h5⟩ := hk k (List.mem_of_getElem? h1) c h2
    exact ⟨k, c', h1, h4, by rw [h5]; exact h3⟩⟩

/-- a page that is held once more -/
def hold (pg : Pg α) (k : Nat) : Pg α := match pg[k]? with
  | some c => pg.set k (c.1, c.2 + 1)
  | none => pg
/-- a page that is held once less: where nobody holds it, nothing lies there any more -/
def leave (pg : Pg α) (k : Nat) : Pg α := match pg[k]? with
  | some c => pg.set k (if c.2 = 1 then ([], 0) else (c.1, c.2 - 1))
  | none => pg
theorem hold_length (pg : Pg α) (k : Nat) : (hold pg k).length = pg.length := by unfold hold; split <;> simp
theorem leave_length (pg : Pg α) (k : Nat) : (leave pg k).length = pg.length := by unfold leave; split <;> simp
theorem hold_at (pg : Pg α) (k j : Nat) : (hold pg k)[j]? = (pg[j]?).map fun c => if j = k then (c.1, c.2 + 1) else c := by
  unfold hold
  by_cases e : j = k
  · subst e
    cases h : pg[j]? with
    | none => simp [h]
    | some c =>
      have := (List.getElem?_eq_some_iff.1 h).1
      simp [this]
  · cases h : pg[k]? with
    | none => simp [e]
    | some c => simp [e, Ne.symm e]
theorem leave_at (pg : Pg α) (k j : Nat) : (leave pg k)[j]? = (pg[j]?).map fun c => if j = k then (if c.2 = 1 then ([], 0) else (c.1, c.2 - 1)) else c := by
  unfold leave
  by_cases e : j = k
  · subst e
    cases h : pg[j]? with
    | none => simp [h]
    | some c =>
      have := (List.getElem?_eq_some_iff.1 h).1
      simp [this]
  · cases h : pg[k]? with
    | none => simp [e]
    | some c => simp [e, Ne.symm e]
def holds (pg : Pg α) (P : List Nat) : Pg α := P.foldl hold pg
def leaves (pg : Pg α) (P : List Nat) : Pg α := P.foldl leave pg
theorem holds_length (P : List Nat) : ∀ pg : Pg α, (holds pg P).length = pg.length := by
  induction P with
  | nil => intro pg; rfl
  | cons k P ih => intro pg; show (holds (hold pg k) P).length = _; rw [ih, hold_length]
theorem leaves_length (P : List Nat) : ∀ pg : Pg α, (leaves pg P).length = pg.length := by
  induction P with
  | nil => intro pg; rfl
  | cons k P ih => intro pg; show (leaves (leave pg k) P).length = _; rw [ih, leave_length]
theorem holds_at (j : Nat) (P : List Nat) : ∀ (pg : Pg α) (c : List α × Nat), pg[j]? = some c → (holds pg P)[j]? = some (c.1, c.2 + P.count j) := by
  induction P with
  | nil => intro pg c h; exact h
  | cons k P ih =>
    intro pg c h
    show (holds (hold pg k) P)[j]? = _
    by_cases e : j = k
    · subst e
      rw [ih (hold pg j) (c.1, c.2 + 1) (by rw [hold_at, h]; simp)]
      simp; omega
    · rw [ih (hold pg k) c (by rw [hold_at, h]; simp [e])]
      rw [List.count_cons_of_ne (Ne.symm e)]
theorem leaves_at (j : Nat) (P : List Nat) : ∀ (pg : Pg α) (c : List α × Nat), pg[j]? = some c → P.count j ≤ c.2 → ∃ c', (leaves pg P)[j]? = some c' ∧ c'.2 = c.2 - P.count j ∧ (P.count j < c.2 → c'.1 = c.1) := by
  induction P with
  | nil => intro pg c h _; exact ⟨c, h, by simp, fun _ => rfl⟩
  | cons k P ih =>
    intro pg c h hc
    show ∃ c', (leaves (leave pg k) P)[j]? = some c' ∧ _
    by_cases e : j = k
    · subst e
      rw [List.count_cons_self] at hc ⊢
      by_cases h1 : c.2 = 1
      · obtain ⟨c', a, b, d⟩ := ih (leave pg j) ([], 0) (by rw [leave_at, h]; simp [h1]) (by simp; omega)
        exact ⟨c', a, by simp at b; omega, fun h => by omega⟩
      · obtain ⟨c', a, b, d⟩ := ih (leave pg j) (c.1, c.2 - 1) (by rw [leave_at, h]; simp [h1]) (by simp; omega)
        exact ⟨c', a, by simp at b; omega, fun h => d (by simp; omega)⟩
    · rw [List.count_cons_of_ne (Ne.symm e)] at hc ⊢
      exact ih (leave pg k) c (by rw [leave_at, h]; simp [e]) hc

/-- a new pool -/
theorem good_new (s n : Nat) (h1 : 1 ≤ s) (h2 : s ≤ 64) (h3 : 1 ≤ n) (h4 : n ≤ 256) : Good (⟨s, n, []⟩ : Doc α) (List.replicate n ([], 0)) :=
  ⟨h1, h2, h3, h4, by simp, by simp, (fun k c h => by
    rw [List.getElem?_replicate] at h
    split at h
    · simp only [Option.some.injEq] at h
      subst h
      rfl
    · simp at h), (fun id L P h => by simp at h)⟩
theorem RowOK.nil (s n : Nat) (h : 1 ≤ s) (pg : Pg α) : RowOK s n pg ([] : List α) [] :=
  ⟨by simp, by simp, by simp only [List.length_nil, Nat.zero_add]; exact (Nat.div_eq_of_lt (by omega)).symm, by simp⟩
theorem div_up (a b s : Nat) (hs : 1 ≤ s) (h : a ≤ b) : (a + s - 1) / s ≤ (b + s - 1) / s := Nat.div_le_div_right (by omega)
theorem idx_lt {i n s : Nat} (hs : 1 ≤ s) (h : i < n) : i / s < (n + s - 1) / s := by
  have h1 := Nat.div_add_mod i s
  have h2 := Nat.mod_lt i (show 0 < s by omega)
  rw [Nat.lt_iff_add_one_le, Nat.le_div_iff_mul_le (by omega), Nat.add_mul, Nat.mul_comm]
  omega
theorem RowOK.take {s n : Nat} {pg : Pg α} {L : List α} {P : List Nat} (h : RowOK s n pg L P) (hs : 1 ≤ s) (m : Nat) (hm : m ≤ L.length) : RowOK s n pg (L.take m) (P.take ((m + s - 1) / s)) := by
  have hd := div_up m L.length s hs hm
  refine ⟨h.nd.sublist (List.take_sublist _ _), fun k hk => h.lt k (List.mem_of_mem_take hk), ?_, fun i x hx => ?_⟩
  · rw [List.length_take, h.pl, List.length_take, Nat.min_eq_left hm, Nat.min_eq_left hd]
  · rw [List.getElem?_take] at hx
    split at hx
    · next hi =>
      obtain ⟨k, c, h1, h2, h3⟩ := h.th i x hx
      exact ⟨k, c, by rw [List.getElem?_take, if_pos (idx_lt hs hi)]; exact h1, h2, h3⟩
    · cases hx
/-- one more row, that holds these pages -/
theorem good_open {D : Doc α} {pg : Pg α} (h : Good D pg) (hl : D.rows.length < 1024) (L : List α) (P : List Nat) (hr : RowOK D.size D.pages pg L P) : Good ⟨D.size, D.pages, D.rows ++ [some (L, P)]⟩ (holds pg P) := by
  have hk : ∀ (Q : List Nat), ∀ k ∈ Q, ∀ c, pg[k]? = some c → ∃ c', (holds pg P)[k]? = some c' ∧ c'.1 = c.1 := fun Q k _ c hc => ⟨_, holds_at k P pg c hc, rfl⟩
  refine ⟨h.s0, h.s1, h.p0, h.p1, by simp; omega, by rw [holds_length]; exact h.plen, fun k c hc => ?_, fun id L' P' hr' => ?_⟩
  · have hlt := (List.getElem?_eq_some_iff.1 hc).1
    rw [holds_length] at hlt
    obtain ⟨c0, h0⟩ : ∃ c0, pg[k]? = some c0 := ⟨_, List.getElem?_eq_getElem hlt⟩
    have h1 := holds_at k P pg c0 h0
    rw [hc] at h1
    cases h1
    have h2 := h.cnts k c0 h0
    show c0.2 + P.count k = cnt (D.rows ++ [some (L, P)]) k
    rw [cnt_append, h2]
    simp [cnt, one]
  · show RowOK D.size D.pages _ L' P'
    replace hr' : (D.rows ++ [some (L, P)])[id]? = some (some (L', P')) := hr'
    rw [List.getElem?_append] at hr'
    split at hr'
    · exact (h.row id L' P' hr').kept (hk P')
    · next hge =>
      have : id - D.rows.length = 0 := by
        rcases Nat.eq_zero_or_pos (id - D.rows.length) with e | e
        · exact e
        · rw [List.getElem?_eq_none (by simp; omega)] at hr'; cases hr'
      rw [this] at hr'
      simp only [List.getElem?_cons_zero, Option.some.injEq, Prod.mk.injEq] at hr'
      obtain ⟨rfl, rfl⟩ := hr'
      exact hr.kept (hk _)
/-- one row less -/
theorem good_close {D : Doc α} {pg : Pg α} (h : Good D pg) {id : Nat} {L : List α} {P : List Nat} (hid : D.rows[id]? = some (some (L, P))) : Good ⟨D.size, D.pages, D.rows.set id none⟩ (leaves pg P) := by
  refine ⟨h.s0, h.s1, h.p0, h.p1, by simp; exact h.len, by rw [leaves_length]; exact h.plen, fun k c hc => ?_, fun id' L' P' hr' => ?_⟩
  · have hlt := (List.getElem?_eq_some_iff.1 hc).1
    rw [leaves_length] at hlt
    obtain ⟨c0, h0⟩ : ∃ c0, pg[k]? = some c0 := ⟨_, List.getElem?_eq_getElem hlt⟩
    have h2 := h.cnts k c0 h0
    have h3 := one_le k D.rows id _ hid
    have h4 := cnt_set k none D.rows id _ hid
    simp only [one] at h3 h4
    obtain ⟨c', h5, h6, _⟩ := leaves_at k P pg c0 h0 (by omega)
    rw [hc] at h5
    cases h5
    show c.2 = cnt (D.rows.set id none) k
    omega
  · show RowOK D.size D.pages _ L' P'
    replace hr' : (D.rows.set id none)[id']? = some (some (L', P')) := hr'
    rw [List.getElem?_set] at hr'
    split at hr'
    · split at hr' <;> cases hr'
    · next hne =>
      refine (h.row id' L' P' hr').kept fun k hk c hc => ?_
      have h2 := h.cnts k c hc
      have h3 := two_le k D.rows id id' _ _ hne hid hr'
      have h4 : 0 < P'.count k := List.count_pos_iff.2 hk
      simp only [one] at h3
      obtain ⟨c', h5, _, h7⟩ := leaves_at k P pg c hc (by omega)
      exact ⟨c', h5, h7 (by omega)⟩
end
end Go.Proofs.Ytcfhchdkohjbfaa.Kv
