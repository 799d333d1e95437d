/- Pools of rows in pages: the document's pool, call by call. -/
import Derived.Test.YtcfhchdkohjbfaaKf
namespace Go.Proofs.Ytcfhchdkohjbfaa.Kv
set_option maxRecDepth 100000
open Go.ChangeShapes Go.WideShapes Go.ChangeAt Go.RowKit Go.Proofs.Ytcfhchdkohjbfaa.Tn
section
variable {α : Type}
def roOf (rows : List (Option (List α × List Nat))) : Ro := rows.map (Option.map fun p => (p.1.length, p.2))
/-- the row of a number, where it is open -/
def rowAt (D : Doc α) (id : Int) : Option (List α × List Nat) := if 0 ≤ id then (D.rows[id.toNat]?).join else none
/-- the pages' counts -/
def cntPg (D : Doc α) : Pg Unit := (List.range D.pages).map fun k => ([], cnt D.rows k)
def freeAt (D : Doc α) : Option Nat := free1 (cntPg D) 0
/-- the pages of a row that takes one thing more -/
def roomD (D : Doc α) (L : List α) (P : List Nat) : Option (List Nat) :=
  if 0 < L.length % D.size ∧ cnt D.rows (lastP P) = 1 then some P
  else match freeAt D with
    | none => none
    | some a => some ((if 0 < L.length % D.size then P.take (P.length - 1) else P) ++ [a])
def putRow (D : Doc α) (id : Nat) (r : Option (List α × List Nat)) : Doc α := ⟨D.size, D.pages, D.rows.set id r⟩
def addRow (D : Doc α) (L : List α) (P : List Nat) : Doc α := ⟨D.size, D.pages, D.rows ++ [some (L, P)]⟩
/-- Append: its answer, and the pool behind it -/
def appendD (D : Doc α) (id : Int) (x : α) : Int × Doc α := match rowAt D id with
  | none => (14, D)
  | some (L, P) => match roomD D L P with
    | none => (16, D)
    | some P1 => (0, putRow D id.toNat (some (L ++ [x], P1)))
def openD (D : Doc α) : (Int × Int) × Doc α := if D.rows.length = 1024 then ((0, 16), D) else (((D.rows.length : Int), 0), addRow D [] [])
def shareD (D : Doc α) (id n : Int) : (Int × Int) × Doc α := match rowAt D id with
  | none => ((0, 14), D)
  | some (L, P) => if n < 0 ∨ (L.length : Int) < n then ((0, 10), D) else if D.rows.length = 1024 then ((0, 16), D)
    else (((D.rows.length : Int), 0), addRow D (L.take n.toNat) (P.take ((n.toNat + D.size - 1) / D.size)))
def closeD (D : Doc α) (id : Int) : Int × Doc α := match rowAt D id with
  | none => (14, D)
  | some _ => (0, putRow D id.toNat none)
theorem rowAt_yes {D : Doc α} {id : Int} {r : List α × List Nat} (h : rowAt D id = some r) : ∃ k : Nat, id = (k : Int) ∧ D.rows[k]? = some (some r) := by
  unfold rowAt at h
  split at h
  · next h0 =>
    refine ⟨id.toNat, by omega, ?_⟩
    cases h1 : D.rows[id.toNat]? with
    | none => rw [h1] at h; cases h
    | some q => rw [h1] at h; simp only [Option.join_some] at h; rw [h]
  · cases h
theorem rowAt_nat (D : Doc α) (k : Nat) : rowAt D (k : Int) = (D.rows[k]?).join := by unfold rowAt; rw [if_pos (by omega)]; simp
theorem isOpen_roOf (rows : List (Option (List α × List Nat))) (k : Nat) : isOpen (roOf rows) k = true ↔ ∃ r, rows[k]? = some (some r) := by
  unfold isOpen roOf
  rw [List.getElem?_map]
  cases h : rows[k]? with
  | none => simp
  | some q => cases q <;> simp
theorem rowAt_no {D : Doc α} {id : Int} (h : rowAt D id = none) : ¬ (0 ≤ id ∧ isOpen (roOf D.rows) id.toNat = true) := fun ⟨h0, h1⟩ => by
  obtain ⟨r, hr⟩ := (isOpen_roOf _ _).1 h1
  unfold rowAt at h
  rw [if_pos h0, hr] at h
  cases h
theorem roOf_at {rows : List (Option (List α × List Nat))} {k : Nat} {L : List α} {P : List Nat} (h : rows[k]? = some (some (L, P))) : (roOf rows)[k]? = some (some (L.length, P)) := by
  unfold roOf
  rw [List.getElem?_map, h]; rfl
theorem roOf_set (rows : List (Option (List α × List Nat))) (k : Nat) (L : List α) (P : List Nat) : roOf (rows.set k (some (L, P))) = (roOf rows).set k (some (L.length, P)) := by unfold roOf; rw [List.map_set]; rfl
theorem roOf_none (rows : List (Option (List α × List Nat))) (k : Nat) : roOf (rows.set k none) = (roOf rows).set k none := by unfold roOf; rw [List.map_set]; rfl
theorem roOf_snoc (rows : List (Option (List α × List Nat))) (L : List α) (P : List Nat) : roOf (rows ++ [some (L, P)]) = roOf rows ++ [some (L.length, P)] := by unfold roOf; rw [List.map_append]; rfl
theorem roOf_length (rows : List (Option (List α × List Nat))) : (roOf rows).length = rows.length := by simp [roOf]
theorem free1_same {β : Type} : ∀ (p : Pg α) (q : Pg β) (k : Nat), p.map (·.2) = q.map (·.2) → free1 p k = free1 q k
  | [], [], k, _ => rfl
  | [], _ :: _, k, h => by simp at h
  | _ :: _, [], k, h => by simp at h
  | a :: p, b :: q, k, h => by
    simp only [List.map_cons, List.cons.injEq] at h
    unfold free1
    rw [h.1, free1_same p q (k + 1) h.2]
theorem Good.counts {D : Doc α} {pg : Pg α} (h : Good D pg) : pg.map (·.2) = (cntPg D).map (·.2) := by
  apply List.ext_getElem?
  intro k
  unfold cntPg
  rw [List.map_map, List.getElem?_map, List.getElem?_map]
  by_cases hk : k < D.pages
  · have hk' : k < pg.length := by rw [h.plen]; exact hk
    rw [List.getElem?_eq_getElem hk', List.getElem?_eq_getElem (by simpa using hk)]
    simp [h.cnts k _ (List.getElem?_eq_getElem hk')]
  · rw [List.getElem?_eq_none (by rw [h.plen]; omega), List.getElem?_eq_none (by simp; omega)]
    rfl
theorem Good.free {D : Doc α} {pg : Pg α} (h : Good D pg) : free1 pg 0 = freeAt D := free1_same _ _ _ h.counts
theorem Good.room {D : Doc α} {pg : Pg α} (h : Good D pg) {k : Nat} {L : List α} {P : List Nat} (hr : D.rows[k]? = some (some (L, P))) : (room D.size pg L.length P).map (·.2) = roomD D L P := by
  unfold Kv.room roomD
  rw [h.free]
  by_cases h0 : 0 < L.length % D.size
  · obtain ⟨_, c, hc, _⟩ := (h.row k L P hr).last h.s0 h0
    rw [pageOf_eq hc, h.cnts _ c hc]
    by_cases h1 : cnt D.rows (lastP P) = 1
    · rw [if_pos ⟨h0, h1⟩, if_pos ⟨h0, h1⟩]; rfl
    · rw [if_neg (fun h => h1 h.2), if_neg (fun h => h1 h.2)]
      cases freeAt D with
      | none => rfl
      | some a => simp only [if_pos h0]; rfl
  · rw [if_neg (fun h => h0 h.1), if_neg (fun h => h0 h.1)]
    cases freeAt D with
    | none => rfl
    | some a => simp only [if_neg h0]; rfl
/-- a list of different numbers below n is no longer than n -/
theorem nodup_short : ∀ (n : Nat) (l : List Nat), l.Nodup → (∀ x ∈ l, x < n) → l.length ≤ n
  | 0, l, _, h => by
    cases l with
    | nil => simp
    | cons x r => have := h x (by simp); omega
  | n + 1, l, hd, h => by
    by_cases hm : n ∈ l
    · have := nodup_short n (l.erase n) (hd.erase n) (fun x hx => by
        have h1 := h x (List.mem_of_mem_erase hx)
        have h2 : x ≠ n := fun e => by subst e; exact (List.Nodup.not_mem_erase hd) hx
        omega)
      rw [List.length_erase_of_mem hm] at this
      omega
    · have := nodup_short n l hd (fun x hx => by
        have h1 := h x hx
        have h2 : x ≠ n := fun e => hm (e ▸ hx)
        omega)
      omega
theorem RowOK.short {s n : Nat} {pg : Pg α} {L : List α} {P : List Nat} (h : RowOK s n pg L P) (hs : 1 ≤ s) : P.length ≤ n ∧ L.length ≤ n * s := by
  have h1 := nodup_short n P h.nd h.lt
  refine ⟨h1, ?_⟩
  have h2 := h.pl
  rw [h2] at h1
  have h3 : L.length + s - 1 < (n + 1) * s := (Nat.div_lt_iff_lt_mul (by omega)).1 (by omega)
  rw [Nat.add_mul] at h3
  omega
theorem count_short {P : List Nat} (h : P.Nodup) (k : Nat) : P.count k ≤ 1 := List.nodup_iff_count.1 h k
theorem cnt_le : ∀ (rows : List (Option (List α × List Nat))) (k : Nat), (∀ (i : Nat) (L : List α) (P : List Nat), rows[i]? = some (some (L, P)) → P.Nodup) → cnt rows k ≤ rows.length
  | [], k, _ => by simp [cnt]
  | r :: l, k, h => by
    have h1 := cnt_le l k (fun i L P hi => h (i + 1) L P (by simpa using hi))
    have h2 : one r k ≤ 1 := by
      cases r with
      | none => simp [one]
      | some p => exact count_short (h 0 p.1 p.2 rfl) k
    simp only [cnt, List.length_cons]
    omega
theorem Good.count_le {D : Doc α} {pg : Pg α} (h : Good D pg) (k : Nat) (c : List α × Nat) (hc : pg[k]? = some c) : c.2 ≤ 1024 := by
  rw [h.cnts k c hc]
  exact Nat.le_trans (cnt_le D.rows k (fun i L P hi => (h.row i L P hi).nd)) h.len
/-- the last page behind makeRoom -/
theorem room_last {D : Doc α} {pg pg1 : Pg α} (h : Good D pg) {id : Nat} {L : List α} {P P1 : List Nat} (hid : D.rows[id]? = some (some (L, P))) (hr : Kv.room D.size pg L.length P = some (pg1, P1)) :
    0 < P1.length ∧ P1.length ≤ 1000000 ∧ ∃ c, pg1[lastP P1]? = some c ∧ L.length % D.size ≤ c.1.length := by
  have hs := h.s0
  have hrow := h.row id L P hid
  have hsh := (hrow.short hs).1
  have hp1 := h.p1
  unfold Kv.room at hr
  split at hr
  · next hA =>
    cases hr
    obtain ⟨hl, c, hc, hcl⟩ := hrow.last hs hA.1
    exact ⟨by rw [hl]; exact Nat.succ_pos _, by omega, c, hc, hcl⟩
  · next hA =>
    split at hr
    · cases hr
    · next a hf =>
      obtain ⟨ca, hca, hca0⟩ := free1_lt hf
      split at hr
      · next h0 =>
        cases hr
        obtain ⟨hl, c, hc, hcl⟩ := hrow.last hs h0
        have hla := lastP_at (P := P) (by rw [hl]; exact Nat.succ_pos _)
        have hne : a ≠ lastP P := fun e => by
          subst e
          have h1 := h.cnts _ ca hca
          have h2 := one_le (lastP P) D.rows id _ hid
          have h3 : 0 < P.count (lastP P) := List.count_pos_iff.2 (List.mem_of_getElem? hla)
          simp only [one] at h2
          omega
        refine ⟨by simp, by simp; omega, ((pageOf pg (lastP P)).1.take (L.length % D.size), 1), ?_, ?_⟩
        · rw [lastP_snoc, leave_at, set_at, hca]; simp [hne]
        · rw [pageOf_eq hc, List.length_take]; omega
      · next h0 =>
        cases hr
        refine ⟨by simp, by simp; omega, ((pageOf pg a).1, 1), ?_, by omega⟩
        rw [lastP_snoc, set_at, hca]; simp
/-- A POOL IN MEMORY, as the document tells it -/
def Pool (K : Kind α) (w : World) (τ : Tags) (g : Nat) (D : Doc α) : Prop := ∃ ly pg, PoolAt K w τ g ly D.size D.rows.length pg (roOf D.rows) ∧ Good D pg
theorem Pool.step {K : Kind α} {w w' : World} {τ τ' : Tags} {g : Nat} {D : Doc α} {M : Tag → Bool} (h : Pool K w τ g D) (hs : Step M τ τ' w w') (hM : ∀ t, t.mine = true → M t = false) (hf : Fits τ' w') : Pool K w' τ' g D := by
  obtain ⟨ly, pg, h1, h2⟩ := h
  exact ⟨ly, pg, h1.step hs hM hf, h2⟩
theorem Pool.below {K : Kind α} {w w' : World} {τ : Tags} {g : Nat} {D : Doc α} (h : Pool K w τ g D) (hb : Below w.heap.size w w') : Pool K w' τ g D := by
  obtain ⟨ly, pg, h1, h2⟩ := h
  exact ⟨ly, pg, h1.below hb, h2⟩
end
section
variable {a : Act} {o : Oper} {W : World}
theorem exec_move (x : Operand) (ho : o.op = .move x) (v : Value) (hx : a.eval x = v) : (execOp a.eval o).run Try.prog W = .ok (.value v) W := by
  unfold execOp
  simp only [ho, hx, Sem.run_pure]
theorem exec_nilc (x : Operand) (ho : o.op = .nilCheck x) (p : Addr) (hx : a.eval x = .pointer (some p)) : (execOp a.eval o).run Try.prog W = .ok (.value (.pointer (some p))) W := by
  unfold execOp
  simp only [ho, hx, Sem.run_pure]
theorem exec_fld (T : TypeId) (i : Nat) (x : Operand) (ho : o.op = .fieldAddr T x i) (p q : Addr) (hx : a.eval x = .pointer (some p)) (h : (Instr.fieldAt T (.pointer (some p)) i).run Try.prog W = .ok (.pointer (some q)) W) : (execOp a.eval o).run Try.prog W = .ok (.value (.pointer (some q))) W := by
  unfold execOp
  simp only [ho, hx, Sem.run_bind, h, Result.andThen_ok, Sem.run_pure]
theorem run_loadVar1 {P : Program} {W : World} (ty : TypeId) (p : Addr) (v : Value) (hc : W.cell? p = some v) (d : TypeDesc) (hu : P.underlying ty = some d) (hd : (match d with | .struct _ | .array _ _ => false | _ => true) = true) : (loadVar ty p).run P W = .ok v W := by
  have hag : (isAgg ty).run P W = .ok false W := by
    simp only [isAgg, Sem.run_bind, run_underlying hu, Result.andThen_ok]
    cases d <;> simp_all
  simp [loadVar, hag, go_sem, hc]
theorem exec_load1 {P : Program} (ty : TypeId) (x : Operand) (ho : o.op = .load ty x) (p : Addr) (hx : a.eval x = .pointer (some p)) (v : Value) (hc : W.cell? p = some v) (d : TypeDesc) (hu : P.underlying ty = some d)
    (hd : (match d with | .struct _ | .array _ _ => false | _ => true) = true) : (execOp a.eval o).run P W = .ok (.value v) W := by
  unfold execOp
  simp only [ho, hx, Instr.loadAt, Instr.sureAddr, Sem.run_bind, Sem.run_pure, Result.andThen_ok, run_loadVar1 ty p v hc d hu hd]
theorem exec_rem (x y : Operand) (ho : o.op = .binOp .rem 3 x y 3) (u v z : Int) (hx : a.eval x = .int .i64 u) (hy : a.eval y = .int .i64 v) (hz : v ≠ 0) (h : u.tmod v = z) : (execOp a.eval o).run Try.prog W = .ok (.value (.int .i64 z)) W := by
  unfold execOp
  simp [ho, hx, hy, binOp, Op.intDiv, hz, h, eqGuard]
theorem run_head (t e : TypeId) (hu : Try.prog.underlying t = some (.slice e)) (he : (Try.prog.info? e).map (·.size) = some 1) (sp : Option Addr) (m cap k : Nat) (hk : k ≤ cap) (w : World) : (Instr.slice t (.slice sp m cap) none (some (.int .i64 (k : Int))) none).run Try.prog w = .ok (.slice sp k cap) w := by
  cases hq : Try.prog.info? e with
  | none => simp [hq] at he
  | some i =>
    have hi : i.size = 1 := by simpa [hq] using he
    have hadd : sp.map (fun x => x.add 0) = sp := by
      rcases sp with _ | ⟨b, o, s⟩
      · rfl
      · simp [Addr.add]
    simp only [Instr.slice, run_underlying hu, Instr.sliceBounds, Instr.sliceBound, asIntOf, sizeOf, typeInfo, Sem.run_bind, Result.andThen_ok, Sem.run_pure, Sem.run_ite]
    simp [hq, hi, hk, hadd]
theorem exec_slice (t e : TypeId) (hu : Try.prog.underlying t = some (.slice e)) (he : (Try.prog.info? e).map (·.size) = some 1) (x y : Operand) (ho : o.op = .slice t x none (some y) none) (sp : Option Addr) (m cap k : Nat) (hx : a.eval x = .slice sp m cap) (hy : a.eval y = .int .i64 (k : Int)) (hk : k ≤ cap) : (execOp a.eval o).run Try.prog W = .ok (.value (.slice sp k cap)) W := by
  have h := run_head t e hu he sp m cap k hk W
  unfold execOp
  simp [ho, hx, hy, Instr.sliceAt, run_underlying hu, h]
end
end Go.Proofs.Ytcfhchdkohjbfaa.Kv
