import Derived.Test.YtllaecliaojmjaaDoorBb
import Derived.Test.YtllaecliaojmjaaDoorBt
namespace Go.Proofs.YtllaecliaojmjaaDoor.Bp
set_option maxRecDepth 100000
open Go.ChangeShapes Go.WideShapes Go.ChangeAt Go.RowKit Go.Proofs.YtllaecliaojmjaaDoor.Tn

/-! ### the document's answer: neighbours, and what becomes of them -/
theorem drop_at {l : List Int} {k : Nat} (h : k < l.length) : l.drop k = l.getD k 0 :: l.drop (k + 1) := by
  rw [List.drop_eq_getElem_cons h]
  simp [h]
theorem nbr_end {p : Int × Int} {l : List Int} {k : Nat} (h : l.length ≤ k + 1) : nbr p (l.drop k) = false := by
  by_cases hk : k < l.length
  · rw [drop_at hk, List.drop_of_length_le (by omega)]
    rfl
  · rw [List.drop_of_length_le (by omega)]
    rfl
theorem nbr_next {p : Int × Int} {l : List Int} {k : Nat} (h : k + 1 < l.length) : nbr p (l.drop k) = (decide (l.getD k 0 = p.1 ∧ l.getD (k + 1) 0 = p.2) || nbr p (l.drop (k + 1))) := by
  rw [drop_at (k := k) (by omega), drop_at (k := k + 1) h]
  rfl
theorem merg_yes {p : Int × Int} {t : Int} {l : List Int} {k : Nat} (h : k + 1 < l.length) (h1 : l.getD k 0 = p.1) (h2 : l.getD (k + 1) 0 = p.2) : merg p t (l.drop k) = t :: merg p t (l.drop (k + 2)) := by
  rw [drop_at (k := k) (by omega), drop_at (k := k + 1) h, merg, if_pos ⟨h1, h2⟩]
theorem merg_no {p : Int × Int} {t : Int} {l : List Int} {k : Nat} (h : k < l.length) (h1 : ¬ (k + 1 < l.length ∧ l.getD k 0 = p.1 ∧ l.getD (k + 1) 0 = p.2)) : merg p t (l.drop k) = l.getD k 0 :: merg p t (l.drop (k + 1)) := by
  by_cases hk : k + 1 < l.length
  · rw [drop_at (k := k) h, drop_at (k := k + 1) hk, merg, if_neg (fun e => h1 ⟨hk, e⟩)]
  · rw [drop_at (k := k) h, List.drop_of_length_le (by omega)]
    rfl
theorem gen_w {Q : World → Prop} (w2 : World) (P : World → Prop) (h : P w2) (k : ∀ w, P w → Q w) : Q w2 := k w2 h
/-- two numbers in a block of their own -/
structure Pb (w : World) (a b : Int) (W : World) : Prop where
  below : Below w.heap.size w W
  row : W.heap[w.heap.size]? = some (.cells #[.int .i64 a, .int .i64 b] 47 (0, 0))
theorem Pb.made (w : World) (a b : Int) : Pb w a b (w.alloc (.cells #[.int .i64 a, .int .i64 b] 47)) := ⟨(Below.refl _ _).alloc (Nat.le_refl _) _, heap_alloc_new _ _⟩
theorem Pb.later {w W W' : World} {a b : Int} (h : Pb w a b W) (hb : Below W.heap.size W W') : Pb w a b W' := ⟨h.below.trans (hb.mono h.below.size), (hb.block _ (Array.getElem?_eq_some_iff.1 h.row).1).trans h.row⟩
theorem Pb.cells {w W : World} {a b : Int} (h : Pb w a b W) : W.cell? ⟨w.heap.size, 0, none⟩ = some (.int .i64 a) ∧ W.cell? ⟨w.heap.size, 1, none⟩ = some (.int .i64 b) := by
  constructor
  · rw [cell_of_row _ _ _ _ _ _ h.row]; rfl
  · rw [cell_of_row _ _ _ _ _ _ h.row]; rfl
theorem Nums.cell {w : World} {c o : Nat} {cap : Nat} {l : List Int} (h : Nums w (some ⟨c, o, none⟩) cap l) (k : Nat) (hk : k < l.length) : w.cell? ⟨c, o + k, none⟩ = some (.int .i64 (l.getD k 0)) := by
  obtain ⟨c', o', e, hc⟩ := h.at_ k hk
  cases e
  exact hc
theorem same_beq (x : Int) : (x == x) = true := by simp
set_option maxHeartbeats 4000000 in
theorem neighbours_any (w : World) (sp : Option Addr) (cap N : Nat) (l : List Int) (a b : Int) (hN : l.length = N) (hl : Nums w sp cap l) :
    Calls Tryd.prog 12 #[.slice sp N cap, .agg #[.int .i64 a, .int .i64 b]] w fun e w' => e = .returned (.bool (nbr (a, b) l)) ∧ Below w.heap.size w w' := by
  have hNm : N ≤ 9223372036854775807 := by rw [← hN]; exact hl.len
  have HN := Lib.hid hN
  have HP := Lib.hid (Pb.made w a b)
  have HL := Lib.hid (hl.below HP.out.below)
  have HR : Hid (nbr (a, b) (l.drop 0) = nbr (a, b) l) := Lib.hid rfl
  obtain ⟨R, hR⟩ : ∃ R, nbr (a, b) l = R := ⟨_, rfl⟩
  rw [hR] at HR ⊢
  clear hN hl hR
  go_enter Tryd.func12, Tryd.ntmps12
  go_upto_region 1 with fail
  refine gen_w (Q := fun w => Code.wp _ _ _ _ w) _ (fun W => Pb w a b W ∧ Nums W sp cap l) ⟨HP.out, HL.out⟩ ?_
  rintro w1 ⟨hp1, hl1⟩
  have HP1 := Lib.hid hp1
  have HL1 := Lib.hid hl1
  obtain ⟨q1, q2⟩ := hp1.cells
  clear hp1 hl1
  go_wp2
  go_loopw [5] (fun i wr => ∃ k q : Nat, i = .int .i64 k ∧ (k < N ∨ k = 0) ∧ wr = w1.drewN q ∧ nbr (a, b) (l.drop k) = R) (fun i _ => N - (intOf i).toNat)
  case atStart => exact ⟨0, 0, rfl, Or.inr rfl, rfl, HR.out⟩
  case round =>
    clear HR
    obtain ⟨k, q, rfl, hk, rfl, hR⟩ := hrel
    have HRk := Lib.hid hR
    clear hR
    by_cases hlt : k + 1 < N
    · have hdt : decide (k + 1 < N) = true := by simpa using hlt
      have hk0 : k < N := by omega
      have hdt2 : decide ((k : Int) + 1 < (N : Int)) = true := by simp; omega
      have hR := HRk.out
      rw [nbr_next (by rw [HN.out]; exact hlt)] at hR
      obtain ⟨c, o, e, h9⟩ := HL1.out.at_ k (by rw [HN.out]; omega)
      clear h9
      subst e
      have c1 := Nums.cell HL1.out k (by rw [HN.out]; omega)
      have c2 := Nums.cell HL1.out (k + 1) (by rw [HN.out]; exact hlt)
      obtain ⟨x, hx⟩ : ∃ x, l.getD k 0 = x := ⟨_, rfl⟩
      obtain ⟨y, hy⟩ : ∃ y, l.getD (k + 1) 0 = y := ⟨_, rfl⟩
      rw [hx] at c1 hR
      rw [hy] at c2 hR
      have HRn := Lib.hid hR
      clear hx hy hR
      by_cases hxa : x = a
      · have e1 : (x == a) = true := by simpa using hxa
        by_cases hyb : y = b
        · have e2 : (y == b) = true := by simpa using hyb
          have hR := HRn.out
          rw [decide_eq_true (show x = (a, b).1 ∧ y = (a, b).2 from ⟨hxa, hyb⟩), Bool.true_or] at hR
          subst hR
          subst hxa hyb
          clear HRn HRk
          have e1 := same_beq x
          have e2 := same_beq y
          go_wp2
          go_quiet (fail)
          go_wp2
          go_ret
          exact ⟨rfl, below_drewN (below_drewN HP1.out.below _) _⟩
        · have e2 : (y == b) = false := by simpa using hyb
          have HR2 : Hid (nbr (a, b) (l.drop (k + 1)) = R) := Lib.hid (by have := HRn.out; rwa [decide_eq_false (show ¬ (x = (a, b).1 ∧ y = (a, b).2) from fun h => hyb h.2), Bool.false_or] at this)
          subst hxa
          have e1 := same_beq x
          clear HRn HRk
          go_wp2
          go_quiet (fail)
          go_wp2
          go_roundw
          case rel => exact ⟨k + 1, _, by go_num, Or.inl hlt, rfl, HR2.out⟩
          case measure => simp [intOf]; omega
      · have e1 : (x == a) = false := by simpa using hxa
        have HR2 : Hid (nbr (a, b) (l.drop (k + 1)) = R) := Lib.hid (by have := HRn.out; rwa [decide_eq_false (show ¬ (x = (a, b).1 ∧ y = (a, b).2) from fun h => hxa h.1), Bool.false_or] at this)
        clear HRn HRk
        go_wp2
        go_quiet (fail)
        go_wp2
        go_roundw
        case rel => exact ⟨k + 1, _, by go_num, Or.inl hlt, rfl, HR2.out⟩
        case measure => simp [intOf]; omega
    · have hdf : decide (k + 1 < N) = false := by simpa using hlt
      have hdf2 : decide ((k : Int) + 1 < (N : Int)) = false := by simp; omega
      have hR := HRk.out
      rw [nbr_end (by rw [HN.out]; omega)] at hR
      subst hR
      clear HRk
      go_wp2
      go_ret
      exact ⟨rfl, below_drewN HP1.out.below _⟩
/-- while tokens are merged: k are gone through -/
structure Mg (w : World) (l : List Int) (p : Int × Int) (t : Int) (n k : Nat) (v : Value) (d : List Int) (W : World) : Prop where
  below : Below w.heap.size w W
  own : W.ownsRow (w.heap.size + 1) 3 1 v n (d.map (Value.int .i64))
  len : d.length = n
  le : n ≤ k
  rest : d ++ merg p t (l.drop k) = merg p t l
theorem Mg.yes {w W W' : World} {l : List Int} {p : Int × Int} {t : Int} {n k : Nat} {v v' : Value} {d : List Int} (h : Mg w l p t n k v d W) (hk : k + 1 < l.length) (h1 : l.getD k 0 = p.1) (h2 : l.getD (k + 1) 0 = p.2) (ho : W'.ownsRow (w.heap.size + 1) 3 1 v' (n + 1) ((d ++ [t]).map (Value.int .i64))) (hb : Below (w.heap.size + 1) W W') : Mg w l p t (n + 1) (k + 2) v' (d ++ [t]) W' :=
  ⟨h.below.trans (hb.mono (Nat.le_succ _)), ho, by simp [h.len], by have := h.le; omega, by rw [List.append_assoc, List.singleton_append, ← merg_yes hk h1 h2]; exact h.rest⟩
theorem Mg.no {w W W' : World} {l : List Int} {p : Int × Int} {t : Int} {n k : Nat} {v v' : Value} {d : List Int} (h : Mg w l p t n k v d W) (hk : k < l.length) (h1 : ¬ (k + 1 < l.length ∧ l.getD k 0 = p.1 ∧ l.getD (k + 1) 0 = p.2)) (ho : W'.ownsRow (w.heap.size + 1) 3 1 v' (n + 1) ((d ++ [l.getD k 0]).map (Value.int .i64))) (hb : Below (w.heap.size + 1) W W') : Mg w l p t (n + 1) (k + 1) v' (d ++ [l.getD k 0]) W' :=
  ⟨h.below.trans (hb.mono (Nat.le_succ _)), ho, by simp [h.len], by have := h.le; omega, by rw [List.append_assoc, List.singleton_append, ← merg_no hk h1]; exact h.rest⟩
end Go.Proofs.YtllaecliaojmjaaDoor.Bp
