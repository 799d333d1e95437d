/- Pools of rows in pages: what Append makes of the pages, over lists alone. -/
import Derived.Test.YtcfhchdkohjbfaaKa
namespace Go.Proofs.Ytcfhchdkohjbfaa.Kv
set_option maxRecDepth 100000
section
variable {α : Type}
def lastP (P : List Nat) : Nat := P.getD (P.length - 1) 0
/-- the first page from k on that no row holds -/
def free1 : Pg α → Nat → Option Nat
  | [], _ => none
  | c :: r, k => if c.2 = 0 then some k else free1 r (k + 1)
def pageOf (pg : Pg α) (k : Nat) : List α × Nat := pg.getD k ([], 0)
/-- what makeRoom makes of the pages, and of the row's -/
def room (s : Nat) (pg : Pg α) (n : Nat) (P : List Nat) : Option (Pg α × List Nat) :=
  if 0 < n % s ∧ (pageOf pg (lastP P)).2 = 1 then some (pg, P)
  else match free1 pg 0 with
    | none => none
    | some a => if 0 < n % s then some (leave (pg.set a ((pageOf pg (lastP P)).1.take (n % s), 1)) (lastP P), P.take (P.length - 1) ++ [a])
      else some (pg.set a ((pageOf pg a).1, 1), P ++ [a])
/-- and what is appended then -/
def fill (s : Nat) (pg : Pg α) (n : Nat) (P : List Nat) (x : α) : Pg α := pg.set (lastP P) ((pageOf pg (lastP P)).1.take (n % s) ++ [x], (pageOf pg (lastP P)).2)

theorem free1_some : ∀ (pg : Pg α) (k a : Nat), free1 pg k = some a → ∃ j c, a = k + j ∧ pg[j]? = some c ∧ c.2 = 0 ∧ ∀ i c', i < j → pg[i]? = some c' → c'.2 ≠ 0
  | [], k, a, h => by simp [free1] at h
  | c :: r, k, a, h => by
    unfold free1 at h
    split at h
    · next h0 =>
      cases h
      exact ⟨0, c, rfl, rfl, h0, fun i c' hi => by omega⟩
    · next h0 =>
      obtain ⟨j, c', e, h1, h2, h3⟩ := free1_some r (k + 1) a h
      refine ⟨j + 1, c', by omega, h1, h2, fun i c'' hi hc => ?_⟩
      cases i with
      | zero => simp at hc; subst hc; exact h0
      | succ i => exact h3 i c'' (by omega) hc
theorem free1_none : ∀ (pg : Pg α) (k : Nat), free1 pg k = none → ∀ (i : Nat) (c : List α × Nat), pg[i]? = some c → c.2 ≠ 0
  | [], k, h, i, c, hc => by simp at hc
  | c :: r, k, h, i, c', hc => by
    unfold free1 at h
    split at h
    · cases h
    · next h0 =>
      cases i with
      | zero => simp at hc; subst hc; exact h0
      | succ i => exact free1_none r (k + 1) h i c' hc
theorem pageOf_eq {pg : Pg α} {k : Nat} {c : List α × Nat} (h : pg[k]? = some c) : pageOf pg k = c := by unfold pageOf; rw [List.getD_eq_getElem?_getD, h]; rfl
theorem lastP_at {P : List Nat} (h : 0 < P.length) : P[P.length - 1]? = some (lastP P) := by
  unfold lastP
  rw [List.getD_eq_getElem?_getD, List.getElem?_eq_getElem (by omega)]; rfl
theorem lastP_snoc (P : List Nat) (a : Nat) : lastP (P ++ [a]) = a := by unfold lastP; rw [List.getD_eq_getElem?_getD]; simp
theorem up_exact {n s : Nat} (hs : 1 ≤ s) (h : n % s = 0) : (n + s - 1) / s = n / s := by
  have h1 := Nat.div_add_mod n s
  rw [Nat.div_eq_iff (by omega)]
  have : n / s * s = s * (n / s) := Nat.mul_comm _ _
  omega
theorem up_more {n s : Nat} (hs : 1 ≤ s) (h : 0 < n % s) : (n + s - 1) / s = n / s + 1 := by
  have h1 := Nat.div_add_mod n s
  have h2 := Nat.mod_lt n (show 0 < s by omega)
  rw [Nat.div_eq_iff (by omega), Nat.add_mul]
  have : n / s * s = s * (n / s) := Nat.mul_comm _ _
  omega
theorem up_next (n : Nat) {s : Nat} (hs : 1 ≤ s) : (n + 1 + s - 1) / s = n / s + 1 := by
  have h1 := Nat.div_add_mod n s
  have h2 := Nat.mod_lt n (show 0 < s by omega)
  rw [Nat.div_eq_iff (by omega), Nat.add_mul]
  have : n / s * s = s * (n / s) := Nat.mul_comm _ _
  omega
theorem mod_mono {i n s : Nat} (h : i < n) (he : i / s = n / s) : i % s < n % s := by
  have h1 := Nat.div_add_mod i s
  have h2 := Nat.div_add_mod n s
  rw [he] at h1
  omega
theorem div_mono {i n : Nat} (s : Nat) (h : i ≤ n) : i / s ≤ n / s := Nat.div_le_div_right h
theorem nodup_at {P : List Nat} (h : P.Nodup) {i j k : Nat} (hi : P[i]? = some k) (hj : P[j]? = some k) : i = j := by
  obtain ⟨a, ha⟩ := List.getElem?_eq_some_iff.1 hi
  obtain ⟨b, hb⟩ := List.getElem?_eq_some_iff.1 hj
  exact (List.getElem_inj h).1 (ha.trans hb.symm)

/-- the row's last page has what lies behind its whole pages -/
theorem RowOK.last {s n : Nat} {pg : Pg α} {L : List α} {P : List Nat} (h : RowOK s n pg L P) (hs : 1 ≤ s) (h0 : 0 < L.length % s) : P.length = L.length / s + 1 ∧ ∃ c, pg[lastP P]? = some c ∧ L.length % s ≤ c.1.length := by
  have hp := h.pl
  rw [up_more hs h0] at hp
  refine ⟨hp, ?_⟩
  have hn : 0 < L.length := Nat.pos_of_ne_zero fun e => by rw [e] at h0; simp at h0
  obtain ⟨k, c, h1, h2, h3⟩ := h.th (L.length - 1) L[L.length - 1] (List.getElem?_eq_getElem (by omega))
  have e1 : (L.length - 1) / s = L.length / s := by
    have h4 := Nat.div_add_mod L.length s
    rw [Nat.div_eq_iff (by omega)]
    have : L.length / s * s = s * (L.length / s) := Nat.mul_comm _ _
    have := Nat.mod_lt L.length (show 0 < s by omega)
    omega
  have e2 : (L.length - 1) % s = L.length % s - 1 := by
    have h4 := Nat.div_add_mod L.length s
    have h5 := Nat.div_add_mod (L.length - 1) s
    rw [e1] at h5
    omega
  rw [e1] at h1
  rw [e2] at h3
  have hl := lastP_at (P := P) (by rw [hp]; exact Nat.succ_pos _)
  rw [hp] at hl
  simp only [Nat.add_sub_cancel] at hl
  rw [h1] at hl
  cases hl
  exact ⟨c, h2, by have := (List.getElem?_eq_some_iff.1 h3).1; omega⟩

theorem set_at (pg : Pg α) (k j : Nat) (v : List α × Nat) : (pg.set k v)[j]? = (pg[j]?).map fun c => if j = k then v else c := by
  rw [List.getElem?_set]
  by_cases e : k = j
  · subst e
    by_cases h : k < pg.length
    · simp [h]
    · rw [List.getElem?_eq_none (l := pg) (by omega)]; simp [h]
  · cases h : pg[j]? with
    | none => simp [e]
    | some c => simp [e, Ne.symm e]
/-- whatever room makes, and what is put there then, is the document's row with one thing more -/
theorem good_put {D : Doc α} {pg pg' : Pg α} (h : Good D pg) {id : Nat} {L : List α} {P P' : List Nat} {k : Nat} (hid : D.rows[id]? = some (some (L, P)))
    (hlen : pg'.length = pg.length)
    (hP : ∀ i, i < L.length / D.size → P'[i]? = P[i]?) (hl : P'.length = L.length / D.size + 1) (hk : P'[L.length / D.size]? = some k) (hkn : k < D.pages) (hnd : P'.Nodup)
    (hlt : ∀ j ∈ P', j < D.pages)
    (hc : ∀ j c, pg'[j]? = some c → c.2 + P.count j = cnt D.rows j + P'.count j)
    (ho : ∀ j c, j ≠ k → pg[j]? = some c → ∃ c', pg'[j]? = some c' ∧ c'.1 = c.1)
    (hno : ∀ id' L' Q, id' ≠ id → D.rows[id']? = some (some (L', Q)) → k ∉ Q)
    (x : α) (l : List α) (hll : l.length = L.length % D.size) (hl' : ∀ i y, i < L.length → i / D.size = L.length / D.size → L[i]? = some y → l[i % D.size]? = some y)
    (m : Nat) (hkv : pg'[k]? = some (l ++ [x], m)) : Good ⟨D.size, D.pages, D.rows.set id (some (L ++ [x], P'))⟩ pg' := by
  have hs := h.s0
  refine ⟨h.s0, h.s1, h.p0, h.p1, by simp; exact h.len, by rw [hlen]; exact h.plen, fun j c hj => ?_, fun id' L' Q hr' => ?_⟩
  · have h1 := cnt_set j (some (L ++ [x], P')) D.rows id _ hid
    have h2 := hc j c hj
    simp only [one] at h1
    show c.2 = cnt (D.rows.set id (some (L ++ [x], P'))) j
    omega
  · show RowOK D.size D.pages _ L' Q
    replace hr' : (D.rows.set id (some (L ++ [x], P')))[id']? = some (some (L', Q)) := hr'
    rw [List.getElem?_set] at hr'
    split at hr'
    · next he =>
      subst he
      split at hr'
      · simp only [Option.some.injEq, Prod.mk.injEq] at hr'
        obtain ⟨rfl, rfl⟩ := hr'
        have hr := h.row id L P hid
        refine ⟨hnd, hlt, ?_, fun i y hy => ?_⟩
        · rw [List.length_append, List.length_singleton, up_next _ hs, hl]
        · rw [List.getElem?_append] at hy
          split at hy
          · next hi =>
            have hd := div_mono D.size (Nat.le_of_lt hi)
            by_cases e : i / D.size = L.length / D.size
            · refine ⟨k, _, by rw [e]; exact hk, hkv, ?_⟩
              have hm := mod_mono hi e
              rw [List.getElem?_append, if_pos (by omega)]
              exact hl' i y hi e hy
            · obtain ⟨j, c, h1, h2, h3⟩ := hr.th i y hy
              have hjk : j ≠ k := fun e' => by
                subst e'
                have h4 := hP (i / D.size) (by omega)
                rw [h1] at h4
                exact e (nodup_at hnd h4 hk)
              obtain ⟨c', h5, h6⟩ := ho j c hjk h2
              exact ⟨j, c', by rw [hP _ (by omega)]; exact h1, h5, by rw [h6]; exact h3⟩
          · next hi =>
            have hi' : i = L.length := by
              have := (List.getElem?_eq_some_iff.1 hy).1
              simp at this
              omega
            subst hi'
            simp only [Nat.sub_self, List.getElem?_cons_zero, Option.some.injEq] at hy
            subst hy
            refine ⟨k, _, hk, hkv, ?_⟩
            rw [List.getElem?_append, if_neg (by omega)]
            simp [hll]
      · cases hr'
    · next hne =>
      refine (h.row id' L' Q hr').kept fun j hj c hc' => ho j c (fun e => ?_) hc'
      subst e
      exact hno id' L' Q (Ne.symm hne) hr' hj
theorem free1_lt {pg : Pg α} {a : Nat} (h : free1 pg 0 = some a) : ∃ c, pg[a]? = some c ∧ c.2 = 0 := by
  obtain ⟨j, c, e, h1, h2, _⟩ := free1_some pg 0 a h
  have : a = j := by omega
  subst this
  exact ⟨c, h1, h2⟩
/-- THE ROW WITH ONE THING MORE -/
theorem good_append {D : Doc α} {pg pg1 : Pg α} (h : Good D pg) {id : Nat} {L : List α} {P P1 : List Nat} (hid : D.rows[id]? = some (some (L, P))) (hr : room D.size pg L.length P = some (pg1, P1)) (x : α) :
    Good ⟨D.size, D.pages, D.rows.set id (some (L ++ [x], P1))⟩ (fill D.size pg1 L.length P1 x) := by
  have hs := h.s0
  have hrow := h.row id L P hid
  have hone := fun j => one_le j D.rows id _ hid
  simp only [one] at hone
  unfold room at hr
  split at hr
  · next hA =>
    cases hr
    obtain ⟨h0, h1⟩ := hA
    obtain ⟨hl, c, hc, hcl⟩ := hrow.last hs h0
    have hla := lastP_at (P := P) (by rw [hl]; exact Nat.succ_pos _)
    rw [hl, Nat.add_sub_cancel] at hla
    rw [pageOf_eq hc] at h1
    have hcn := h.cnts _ c hc
    have hmem : lastP P ∈ P := List.mem_of_getElem? hla
    unfold fill
    rw [pageOf_eq hc]
    refine good_put h (k := lastP P) hid (by simp) (fun i _ => rfl) hl hla (hrow.lt _ hmem) hrow.nd hrow.lt (fun j c' hj => ?_) (fun j c' hj hc' => ⟨c', by rw [set_at, hc']; simp [hj], rfl⟩) (fun id' L' Q hne hq hm => ?_) x (c.1.take (L.length % D.size)) (by simp; omega) (fun i y hi he hy => ?_) c.2 (by rw [set_at, hc]; simp)
    · rw [set_at] at hj
      cases h2 : pg[j]? with
      | none => rw [h2] at hj; simp at hj
      | some c2 =>
        rw [h2] at hj
        simp only [Option.map_some, Option.some.injEq] at hj
        have h3 := h.cnts j c2 h2
        by_cases e : j = lastP P
        · subst e
          rw [hc] at h2
          cases h2
          rw [if_pos rfl] at hj
          subst hj
          show c.2 + _ = _
          omega
        · rw [if_neg e] at hj
          subst hj
          omega
    · have h3 := two_le (lastP P) D.rows id id' _ _ (Ne.symm hne) hid hq
      have h4 : 0 < Q.count (lastP P) := List.count_pos_iff.2 hm
      have h5 : 0 < P.count (lastP P) := List.count_pos_iff.2 hmem
      simp only [one] at h3
      omega
    · obtain ⟨k, c', a, b, d⟩ := hrow.th i y hy
      rw [he, hla] at a
      cases a
      rw [hc] at b
      cases b
      rw [List.getElem?_take, if_pos (mod_mono hi he)]
      exact d
  · next hA =>
    split at hr
    · cases hr
    · next a hf =>
      obtain ⟨ca, hca, hca0⟩ := free1_lt hf
      have hcn := h.cnts a ca hca
      have halt : a < D.pages := by rw [← h.plen]; exact (List.getElem?_eq_some_iff.1 hca).1
      have hano : ∀ id' L' Q, D.rows[id']? = some (some (L', Q)) → a ∉ Q := fun id' L' Q hq hm => by
        have h3 := one_le a D.rows id' _ hq
        have h4 : 0 < Q.count a := List.count_pos_iff.2 hm
        simp only [one] at h3
        omega
      have haP := hano id L P hid
      split at hr
      · next h0 =>
        cases hr
        obtain ⟨hl, c, hc, hcl⟩ := hrow.last hs h0
        have hla := lastP_at (P := P) (by rw [hl]; exact Nat.succ_pos _)
        have hmem : lastP P ∈ P := List.mem_of_getElem? hla
        have hne : lastP P ≠ a := fun e => haP (e ▸ hmem)
        rw [pageOf_eq hc] at hA
        have hcl2 := h.cnts _ c hc
        have hcp := hone (lastP P)
        have h5 : 0 < P.count (lastP P) := List.count_pos_iff.2 hmem
        have hc2 : c.2 ≠ 1 := fun e => hA ⟨h0, e⟩
        have hta : (P.take (P.length - 1)).length = L.length / D.size := by rw [List.length_take, hl, Nat.add_sub_cancel]; exact Nat.min_eq_left (Nat.le_succ _)
        have hat : (leave (pg.set a (c.1.take (L.length % D.size), 1)) (lastP P))[a]? = some (c.1.take (L.length % D.size), 1) := by
          rw [leave_at, set_at, hca]; simp [Ne.symm hne]
        have hcnt : ∀ j, P.count j = (P.take (P.length - 1)).count j + if j = lastP P then 1 else 0 := fun j => by
          have e : P = P.take (P.length - 1) ++ [lastP P] := by
            have hp0 : 0 < P.length := by rw [hl]; exact Nat.succ_pos _
            have h6 := List.take_succ_eq_append_getElem (l := P) (i := P.length - 1) (by omega)
            have h7 : P[P.length - 1] = lastP P := by
              rw [List.getElem?_eq_getElem (by omega)] at hla
              exact Option.some.inj hla
            rw [h7, show P.length - 1 + 1 = P.length by omega, List.take_length] at h6
            exact h6
          have h8 := congrArg (List.count j) e
          rw [List.count_append, List.count_singleton] at h8
          rw [h8]
          congr 1
          by_cases e2 : j = lastP P
          · simp [e2]
          · simp [e2, Ne.symm e2]
        unfold fill
        rw [pageOf_eq hc, lastP_snoc, pageOf_eq hat]
        have hnd' : (P.take (P.length - 1) ++ [a]).Nodup := by
          rw [List.nodup_append]
          exact ⟨hrow.nd.sublist (List.take_sublist _ _), by simp, fun y hy z hz => by
            rw [List.mem_singleton] at hz
            subst hz
            exact fun e => haP (e ▸ List.mem_of_mem_take hy)⟩
        refine good_put h (k := a) hid (by simp [leave_length]) (fun i hi => ?_) (by simp [hta]) ?_ halt hnd' (fun j hj => ?_) (fun j c' hj => ?_) (fun j c' hj hc' => ?_) (fun id' L' Q hne' hq => hano id' L' Q hq) x (c.1.take (L.length % D.size)) (by simp; omega) (fun i y hi he hy => ?_) 1 ?_
        · rw [List.getElem?_append, if_pos (by omega), List.getElem?_take, if_pos (by omega)]
        · rw [List.getElem?_append, if_neg (by omega), hta]; simp
        · rcases List.mem_append.1 hj with e | e
          · exact hrow.lt j (List.mem_of_mem_take e)
          · rw [List.mem_singleton] at e; subst e; exact halt
        · rw [set_at, leave_at, set_at] at hj
          cases h2 : pg[j]? with
          | none => rw [h2] at hj; simp at hj
          | some c2 =>
            rw [h2] at hj
            simp only [Option.map_some, Option.some.injEq] at hj
            have h3 := h.cnts j c2 h2
            rw [List.count_append, List.count_singleton, hcnt j]
            by_cases e : j = a
            · subst e
              rw [if_pos rfl] at hj
              subst hj
              simp [Ne.symm hne]
              rw [hca] at h2
              cases h2
              omega
            · rw [if_neg e, if_neg e] at hj
              by_cases e2 : j = lastP P
              · subst e2
                rw [hc] at h2
                cases h2
                rw [if_pos rfl, if_neg hc2] at hj
                subst hj
                simp [Ne.symm e]
                omega
              · rw [if_neg e2] at hj
                subst hj
                simp [Ne.symm e, e2]
                omega
        · rw [set_at, leave_at, set_at, hc']
          simp only [Option.map_some, if_neg hj]
          by_cases e2 : j = lastP P
          · subst e2
            rw [hc] at hc'
            cases hc'
            exact ⟨_, rfl, by simp [hc2]⟩
          · exact ⟨_, rfl, by simp [e2]⟩
        · obtain ⟨k, c', a1, b, d⟩ := hrow.th i y hy
          have e3 := hla
          rw [hl, Nat.add_sub_cancel] at e3
          rw [he, e3] at a1
          cases a1
          rw [hc] at b
          cases b
          rw [List.getElem?_take, if_pos (mod_mono hi he)]
          exact d
        · rw [set_at, hat]
          simp [List.take_take]
      · next h0 =>
        cases hr
        have hm0 : L.length % D.size = 0 := by omega
        have hpl := hrow.pl
        rw [up_exact hs hm0] at hpl
        have hat : (pg.set a ((pageOf pg a).1, 1))[a]? = some ((pageOf pg a).1, 1) := by rw [set_at, hca]; simp
        unfold fill
        rw [lastP_snoc, pageOf_eq hat]
        have hnd' : (P ++ [a]).Nodup := by
          rw [List.nodup_append]
          exact ⟨hrow.nd, by simp, fun y hy z hz => by
            rw [List.mem_singleton] at hz
            subst hz
            exact fun e => haP (e ▸ hy)⟩
        refine good_put h (k := a) hid (by simp) (fun i hi => ?_) (by simp [hpl]) ?_ halt hnd' (fun j hj => ?_) (fun j c' hj => ?_) (fun j c' hj hc' => ?_) (fun id' L' Q hne' hq => hano id' L' Q hq) x [] (by simp [hm0]) (fun i y hi he hy => ?_) 1 ?_
        · rw [List.getElem?_append, if_pos (by omega)]
        · rw [List.getElem?_append, if_neg (by omega), hpl]; simp
        · rcases List.mem_append.1 hj with e | e
          · exact hrow.lt j e
          · rw [List.mem_singleton] at e; subst e; exact halt
        · rw [set_at, set_at] at hj
          cases h2 : pg[j]? with
          | none => rw [h2] at hj; simp at hj
          | some c2 =>
            rw [h2] at hj
            simp only [Option.map_some, Option.some.injEq] at hj
            have h3 := h.cnts j c2 h2
            rw [List.count_append, List.count_singleton]
            by_cases e : j = a
            · subst e
              rw [if_pos rfl] at hj
              subst hj
              simp
              rw [hca] at h2
              cases h2
              omega
            · rw [if_neg e, if_neg e] at hj
              subst hj
              simp [Ne.symm e]
              omega
        · rw [set_at, set_at, hc']
          exact ⟨_, rfl, by simp [hj]⟩
        · have := mod_mono hi he
          omega
        · rw [set_at, hat]
          simp [hm0]
end
end Go.Proofs.Ytcfhchdkohjbfaa.Kv
