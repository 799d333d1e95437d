/- Pools of rows in pages: where all rows are closed, and one row that is filled (lists alone). -/
import Derived.Test.YtcfhchdkohjbfaaRb
namespace Go.Proofs.Ytcfhchdkohjbfaa.Kv
set_option maxRecDepth 100000
section
variable {D : Doc Int}
theorem appendD_shape (D : Doc Int) (id x : Int) : (appendD D id x).2.size = D.size ∧ (appendD D id x).2.pages = D.pages ∧ (appendD D id x).2.rows.length = D.rows.length := by
  unfold appendD
  cases rowAt D id with
  | none => exact ⟨rfl, rfl, rfl⟩
  | some r =>
    obtain ⟨L, P⟩ := r
    dsimp only
    cases roomD D L P
    · exact ⟨rfl, rfl, rfl⟩
    · exact ⟨rfl, rfl, by simp [putRow]⟩
theorem closeD_shape (D : Doc Int) (id : Int) : (closeD D id).2.size = D.size ∧ (closeD D id).2.pages = D.pages ∧ (closeD D id).2.rows.length = D.rows.length := by
  unfold closeD
  cases rowAt D id with
  | none => exact ⟨rfl, rfl, rfl⟩
  | some r => exact ⟨rfl, rfl, by simp [putRow]⟩
theorem openD_shape (D : Doc Int) : (openD D).2.size = D.size ∧ (openD D).2.pages = D.pages ∧ (openD D).2.rows.length ≤ D.rows.length + 1 := by
  unfold openD
  split
  · exact ⟨rfl, rfl, by simp⟩
  · exact ⟨rfl, rfl, by simp [addRow]⟩
theorem shareD_shape (D : Doc Int) (id n : Int) : (shareD D id n).2.size = D.size ∧ (shareD D id n).2.pages = D.pages ∧ (shareD D id n).2.rows.length ≤ D.rows.length + 1 := by
  unfold shareD
  cases rowAt D id with
  | none => exact ⟨rfl, rfl, by simp⟩
  | some r =>
    obtain ⟨L, P⟩ := r
    dsimp only
    split
    · exact ⟨rfl, rfl, by simp⟩
    · split
      · exact ⟨rfl, rfl, by simp⟩
      · exact ⟨rfl, rfl, by simp [addRow]⟩
theorem opD_shape (D : Doc Int) (a i m : Int) : (opD D a i m).size = D.size ∧ (opD D a i m).pages = D.pages ∧ (opD D a i m).rows.length ≤ D.rows.length + 1 := by
  unfold opD
  split
  · exact openD_shape D
  · split
    · obtain ⟨h1, h2, h3⟩ := appendD_shape D i m
      exact ⟨h1, h2, by omega⟩
    · split
      · exact shareD_shape D i m
      · split
        · obtain ⟨h1, h2, h3⟩ := closeD_shape D i
          exact ⟨h1, h2, by omega⟩
        · exact ⟨rfl, rfl, by omega⟩
end
/-- the first rows are closed -/
def Shut (rows : List (Option (List Int × List Nat))) (j : Nat) : Prop := ∀ (k : Nat) (q : Option (List Int × List Nat)), k < j → rows[k]? = some q → q = none
theorem shut_step {D : Doc Int} {j : Nat} (h : Shut D.rows j) : Shut (closeD D (j : Int)).2.rows (j + 1) := by
  unfold closeD
  rw [rowAt_nat]
  intro k q hk hq
  cases hj : (D.rows[j]?).join with
  | none =>
    rw [hj] at hq
    rcases Nat.lt_succ_iff_lt_or_eq.1 hk with h1 | rfl
    · exact h k q h1 hq
    · have hq' : D.rows[k]? = some q := hq
      rw [hq'] at hj
      exact hj
  | some r =>
    rw [hj] at hq
    have hq' : (D.rows.set j none)[k]? = some q := hq
    rw [List.getElem?_set] at hq'
    split at hq'
    · split at hq'
      · cases hq'; rfl
      · cases hq'
    · next hne => exact h k q (by omega) hq'
theorem cnt_shut : ∀ (rows : List (Option (List Int × List Nat))) (k : Nat), (∀ q, q ∈ rows → q = none) → cnt rows k = 0
  | [], _, _ => rfl
  | r :: l, k, h => by
    have h1 := h r (by simp)
    subst h1
    simp only [cnt, one]
    rw [cnt_shut l k (fun q hq => h q (by simp [hq]))]
theorem shut_all {rows : List (Option (List Int × List Nat))} {j : Nat} (h : Shut rows j) (hl : rows.length ≤ j) : ∀ q, q ∈ rows → q = none := fun q hq => by
  obtain ⟨k, hk⟩ := List.getElem?_of_mem hq
  have := (List.getElem?_eq_some_iff.1 hk).1
  exact h k q (by omega) hk
theorem freeN_all {D : Doc Int} : ∀ (k : Nat), (∀ j, j < k → cnt D.rows j = 0) → I.freeN D k = k
  | 0, _ => rfl
  | k + 1, h => by
    have ih := freeN_all k (fun j hj => h j (by omega))
    unfold I.freeN
    rw [ih, if_pos (h k (by omega))]
theorem freeN_none {D : Doc Int} : ∀ (k : Nat), (∀ j, j < k → cnt D.rows j ≠ 0) → I.freeN D k = 0
  | 0, _ => rfl
  | k + 1, h => by
    have ih := freeN_none k (fun j hj => h j (by omega))
    unfold I.freeN
    rw [ih, if_neg (h k (by omega))]
theorem nodup_sub : ∀ (l P : List Nat), l.Nodup → (∀ x ∈ l, x ∈ P) → l.length ≤ P.length
  | [], P, _, _ => by simp
  | x :: l, P, hd, h => by
    rw [List.nodup_cons] at hd
    have h1 := nodup_sub l (P.erase x) hd.2 (fun y hy => by
      have h2 : y ≠ x := fun e => hd.1 (e ▸ hy)
      exact (List.mem_erase_of_ne h2).2 (h y (by simp [hy])))
    have h3 := List.length_erase_of_mem (h x (by simp))
    have h4 := List.length_pos_of_mem (h x (by simp))
    simp only [List.length_cons]
    omega
/-- one open row behind closed ones -/
def Fill (D : Doc Int) (s n : Nat) (base : List (Option (List Int × List Nat))) (j : Nat) : Prop := D.size = s ∧ D.pages = n ∧ (∀ q, q ∈ base → q = none) ∧ ∃ P, D.rows = base ++ [some (numsTo j, P)] ∧ P.Nodup ∧ (∀ k ∈ P, k < n) ∧ P.length = (j + s - 1) / s
theorem fill_cnt {base : List (Option (List Int × List Nat))} (hb : ∀ q, q ∈ base → q = none) (L : List Int) (P : List Nat) (k : Nat) : cnt (base ++ [some (L, P)]) k = P.count k := by
  rw [cnt_append, cnt_shut base k hb]
  simp [cnt, one]
theorem fill_at {D : Doc Int} {s n j : Nat} {base : List (Option (List Int × List Nat))} (h : Fill D s n base j) : ∃ P, D.rows[base.length]? = some (some (numsTo j, P)) ∧ rowAt D (base.length : Int) = some (numsTo j, P) := by
  obtain ⟨_, _, _, P, hr, _⟩ := h
  have h1 : D.rows[base.length]? = some (some (numsTo j, P)) := by rw [hr]; simp
  exact ⟨P, h1, by rw [rowAt_nat, h1]; rfl⟩
theorem cntPg_at {D : Doc Int} (k : Nat) (hk : k < D.pages) : (cntPg D)[k]? = some ([], cnt D.rows k) := by
  unfold cntPg
  rw [List.getElem?_map, List.getElem?_range hk]
  rfl
theorem freeAt_none {D : Doc Int} (h : freeAt D = none) : ∀ k, k < D.pages → cnt D.rows k ≠ 0 := fun k hk => free1_none _ _ h k _ (cntPg_at k hk)
theorem freeAt_of {D : Doc Int} (h : ∀ k, k < D.pages → cnt D.rows k ≠ 0) : freeAt D = none := by
  cases hf : freeAt D with
  | none => rfl
  | some a =>
    obtain ⟨c, h1, h2⟩ := free1_lt hf
    have hk : a < D.pages := by
      have := (List.getElem?_eq_some_iff.1 h1).1
      simpa [cntPg] using this
    rw [cntPg_at a hk] at h1
    cases h1
    exact absurd h2 (h a hk)
theorem fill_step {D : Doc Int} {s n j : Nat} {base : List (Option (List Int × List Nat))} (h : Fill D s n base j) (hs : 1 ≤ s) (hj : j < n * s) (_hb1 : base.length < 1000) {w : World} {τ : Tags} {g : Nat} (hp : ∀ D', (appendD D (base.length : Int) (j : Int)).2 = D' → Pool I.kind w τ g D') :
    ∃ D', appendD D (base.length : Int) (j : Int) = (0, D') ∧ Fill D' s n base (j + 1) := by
  obtain ⟨P, hrow, _⟩ := fill_at h
  obtain ⟨h1, h2, hb, P', hr, hnd, hlt, hpl⟩ := h
  have hPP : P' = P := by rw [hr] at hrow; simpa using hrow
  subst hPP
  have hcn : ∀ k, cnt D.rows k = P'.count k := fun k => by rw [hr]; exact fill_cnt hb _ _ k
  rcases appendD_cases hrow (j : Int) with ⟨hno, _⟩ | ⟨P1, hy, he⟩
  · exfalso
    unfold roomD at hno
    rw [numsTo_length, h1] at hno
    by_cases h0 : 0 < j % s
    · have hp0 : 0 < P'.length := by rw [hpl, up_more hs h0]; exact Nat.succ_pos _
      have hm : lastP P' ∈ P' := List.mem_of_getElem? (lastP_at hp0)
      have hc1 : cnt D.rows (lastP P') = 1 := by
        rw [hcn]
        have a1 := count_short hnd (lastP P')
        have a2 : 0 < P'.count (lastP P') := List.count_pos_iff.2 hm
        omega
      rw [if_pos ⟨h0, hc1⟩] at hno
      cases hno
    · rw [if_neg (fun h => h0 h.1)] at hno
      cases hf : freeAt D with
      | some a => rw [hf] at hno; cases hno
      | none =>
        have hall := freeAt_none hf
        have hsub := nodup_sub (List.range n) P' List.nodup_range (fun x hx => by
          have := hall x (by rw [h2]; exact List.mem_range.1 hx)
          rw [hcn] at this
          exact List.count_pos_iff.1 (Nat.pos_of_ne_zero this))
        rw [List.length_range, hpl, up_exact hs (by omega)] at hsub
        have : j / s < n := (Nat.div_lt_iff_lt_mul (by omega)).2 hj
        omega
  · refine ⟨_, he, ?_⟩
    have hP := hp _ (by rw [he])
    obtain ⟨ly, pg, _, hG⟩ := hP
    have hrw : (putRow D base.length (some (numsTo j ++ [(j : Int)], P1))).rows = base ++ [some (numsTo (j + 1), P1)] := by
      show D.rows.set base.length _ = _
      rw [hr, numsTo_succ]
      simp
    have hOK := hG.row base.length (numsTo (j + 1)) P1 (by rw [hrw]; simp)
    have hsz : (putRow D base.length (some (numsTo j ++ [(j : Int)], P1))).size = s := h1
    have hpg : (putRow D base.length (some (numsTo j ++ [(j : Int)], P1))).pages = n := h2
    rw [hsz, hpg] at hOK
    have h3 := hOK.pl
    rw [numsTo_length] at h3
    exact ⟨hsz, hpg, hb, P1, hrw, hOK.nd, hOK.lt, h3⟩
theorem fill_full {D : Doc Int} {s n : Nat} {base : List (Option (List Int × List Nat))} (h : Fill D s n base (n * s)) (hs : 1 ≤ s) : I.freeN D D.pages = 0 ∧ ∀ x, appendD D (base.length : Int) x = (16, D) := by
  obtain ⟨P, hrow, _⟩ := fill_at h
  obtain ⟨h1, h2, hb, P', hr, hnd, hlt, hpl⟩ := h
  have hPP : P' = P := by rw [hr] at hrow; simpa using hrow
  subst hPP
  have hcn : ∀ k, cnt D.rows k = P'.count k := fun k => by rw [hr]; exact fill_cnt hb _ _ k
  have hm0 : n * s % s = 0 := Nat.mul_mod_left n s
  rw [up_exact hs hm0, Nat.mul_div_cancel _ (by omega)] at hpl
  have hall : ∀ k, k < D.pages → cnt D.rows k ≠ 0 := fun k hk => by
    rw [hcn]
    intro e
    have hk' : k ∉ P' := fun hm => by
      have : 0 < P'.count k := List.count_pos_iff.2 hm
      omega
    have := nodup_short n (k :: P') (List.nodup_cons.2 ⟨hk', hnd⟩) (fun x hx => by
      rcases List.mem_cons.1 hx with rfl | hx
      · rw [← h2]; exact hk
      · exact hlt x hx)
    simp only [List.length_cons] at this
    omega
  refine ⟨freeN_none _ hall, fun x => ?_⟩
  rcases appendD_cases hrow x with ⟨_, he⟩ | ⟨P1, hy, _⟩
  · exact he
  · unfold roomD at hy
    rw [numsTo_length, h1, hm0, if_neg (fun h => by omega), freeAt_of hall] at hy
    cases hy
theorem fill_open {D : Doc Int} {s n : Nat} (h1 : D.size = s) (h2 : D.pages = n) (hs : 1 ≤ s) (hb : ∀ q, q ∈ D.rows → q = none) (hl : D.rows.length ≤ 50) : openD D = (((D.rows.length : Int), 0), addRow D [] []) ∧ Fill (addRow D [] []) s n D.rows 0 := by
  refine ⟨by unfold openD; rw [if_neg (by omega)], h1, h2, hb, [], rfl, by simp, by simp, ?_⟩
  have : (0 + s - 1) / s = 0 := Nat.div_eq_of_lt (by omega)
  rw [this]; rfl
end Go.Proofs.Ytcfhchdkohjbfaa.Kv
