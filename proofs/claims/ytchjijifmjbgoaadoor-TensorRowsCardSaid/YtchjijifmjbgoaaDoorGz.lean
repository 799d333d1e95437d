import Derived.Test.YtchjijifmjbgoaaDoorGy
namespace Go.Proofs.YtchjijifmjbgoaaDoor.Tn
open Go.ChangeShapes Go.WideShapes Go.ChangeAt Go.RowKit Go.Proofs.YtchjijifmjbgoaaDoor.Fx Go.Proofs.YtchjijifmjbgoaaDoor.Rf

/-! ### rows go each for itself -/
theorem firstE_append : ∀ x y : List Int, firstE (x ++ y) = if firstE x ≠ 0 then firstE x else firstE y
  | [], y => by rw [List.nil_append, show firstE [] = 0 from rfl, if_neg (by simp)]
  | a :: x, y => by
    rw [List.cons_append, firstE, firstE]
    by_cases h : a ≠ 0
    · rw [if_pos h, if_pos h, if_pos h]
    · rw [if_neg h, if_neg h]
      exact firstE_append x y
theorem rowL_left {la lb : List Int} {C Ra i : Nat} (h : la.length = Ra * C) (hi : i < Ra) : rowL (la ++ lb) C i = rowL la C i := by
  have hin := row_in (C := C) hi
  unfold rowL
  rw [List.drop_append_of_le_length (by omega), List.take_append_of_le_length (by rw [List.length_drop]; omega)]
theorem rowL_right {la lb : List Int} {C Ra : Nat} (h : la.length = Ra * C) (j : Nat) : rowL (la ++ lb) C (Ra + j) = rowL lb C j := by
  unfold rowL
  rw [Nat.add_mul, ← h, List.drop_append, List.drop_eq_nil_of_le (by omega), List.nil_append, Nat.add_sub_cancel_left]
theorem dotsE_append {la lb v : List Int} {C Ra Rb : Nat} (h : la.length = Ra * C) : dotsE (la ++ lb) C v (Ra + Rb) = dotsE la C v Ra ++ dotsE lb C v Rb := by
  unfold dotsE
  rw [List.range_add, List.map_append, List.map_map]
  congr 1
  · exact List.map_congr_left fun i hi => by rw [rowL_left h (List.mem_range.1 hi)]
  · exact List.map_congr_left fun i _ => by show dotE (rowL (la ++ lb) C (Ra + i)) v = _; rw [rowL_right h]
theorem dotsR_append {la lb v : List Int} {C Ra Rb : Nat} (h : la.length = Ra * C) : dotsR (la ++ lb) C v (Ra + Rb) = dotsR la C v Ra ++ dotsR lb C v Rb := by
  unfold dotsR
  rw [List.range_add, List.map_append, List.map_map]
  congr 1
  · exact List.map_congr_left fun i hi => by rw [rowL_left h (List.mem_range.1 hi)]
  · exact List.map_congr_left fun i _ => by show dotR (rowL (la ++ lb) C (Ra + i)) v = _; rw [rowL_right h]
theorem chk_rows {la lb : List Int} {C Ra Rb : Nat} (ha : la.length = Ra * C) (hb : lb.length = Rb * C) (h1 : 1 ≤ Ra) (h2 : Ra + Rb ≤ 512) (h3 : 1 ≤ C) (h4 : C ≤ 64) (hwa : ∀ x ∈ la, isW x) (hwb : ∀ x ∈ lb, isW x) : chkM ((Ra + Rb : Nat) : Int) (C : Int) (la ++ lb) = 0 := by
  have hl : (la ++ lb).length = (Ra + Rb) * C := by rw [List.length_append, ha, hb, Nat.add_mul]
  unfold chkM
  rw [if_neg (fun h => h ⟨by omega, by omega, by omega, by omega, by rw [hl, Int.natCast_mul]⟩), if_pos]
  intro x hx
  rcases List.mem_append.1 hx with h | h
  · exact hwa x h
  · exact hwb x h
theorem mulE_of {l v : List Int} {C R : Nat} (hk : chkM (R : Int) (C : Int) l = 0) : mulE (R : Int) (C : Int) l v = if (v.length : Int) ≠ (C : Int) then 13 else firstE (dotsE l C v R) := by
  unfold mulE
  rw [if_neg (fun h => h hk), Int.toNat_natCast, Int.toNat_natCast]
theorem mulE_rows {la lb v : List Int} {C Ra Rb : Nat} (ha : la.length = Ra * C) (hka : chkM (Ra : Int) (C : Int) la = 0) (hkb : chkM (Rb : Int) (C : Int) lb = 0) (hkc : chkM ((Ra + Rb : Nat) : Int) (C : Int) (la ++ lb) = 0) :
    mulE ((Ra + Rb : Nat) : Int) (C : Int) (la ++ lb) v = if mulE (Ra : Int) (C : Int) la v ≠ 0 then mulE (Ra : Int) (C : Int) la v else mulE (Rb : Int) (C : Int) lb v := by
  rw [mulE_of hka, mulE_of hkb, mulE_of hkc]
  by_cases hv : (v.length : Int) ≠ (C : Int)
  · rw [if_pos hv, if_pos hv, if_pos (by omega)]
  · rw [if_neg hv, if_neg hv, if_neg hv, dotsE_append ha, firstE_append]
theorem mulV_rows {la lb v : List Int} {C Ra Rb : Nat} (ha : la.length = Ra * C) (hka : chkM (Ra : Int) (C : Int) la = 0) (hkb : chkM (Rb : Int) (C : Int) lb = 0) (hkc : chkM ((Ra + Rb : Nat) : Int) (C : Int) (la ++ lb) = 0)
    (h1 : mulE (Ra : Int) (C : Int) la v = 0) (h2 : mulE (Rb : Int) (C : Int) lb v = 0) : mulE ((Ra + Rb : Nat) : Int) (C : Int) (la ++ lb) v = 0 ∧ mulV ((Ra + Rb : Nat) : Int) (C : Int) (la ++ lb) v = mulV (Ra : Int) (C : Int) la v ++ mulV (Rb : Int) (C : Int) lb v := by
  have h3 : mulE ((Ra + Rb : Nat) : Int) (C : Int) (la ++ lb) v = 0 := by rw [mulE_rows ha hka hkb hkc, if_neg (fun h => h h1)]; exact h2
  refine ⟨h3, ?_⟩
  unfold mulV
  rw [if_pos h1, if_pos h2, if_pos h3, Int.toNat_natCast, Int.toNat_natCast, Int.toNat_natCast, Int.toNat_natCast, dotsR_append ha]
theorem dot_nought : ∀ (v : List Int) (n : Nat), dotS v (List.replicate n 0) = 0
  | [], n => by simp [dotS]
  | a :: v, 0 => by simp [dotS]
  | a :: v, n + 1 => by rw [List.replicate_succ, dotS, dot_nought v n]; omega
theorem nought_dot {row : List Int} {C : Nat} (hl : row.length = C) (h1 : 1 ≤ C) (h2 : C ≤ 64) (hw : ∀ x ∈ row, isW x) : dotE row (List.replicate C 0) = 0 ∧ dotR row (List.replicate C 0) = 0 := by
  have ho : dotOk row (List.replicate C 0) := ⟨by rw [List.length_replicate, hl], by rw [List.length_replicate]; exact h1, by rw [List.length_replicate]; exact h2⟩
  have hi : dotIn row (List.replicate C 0) := ⟨hw, fun x hx => by rw [List.eq_of_mem_replicate hx]; decide⟩
  have hd : rnd (dotS row (List.replicate C 0)) = 0 := by rw [dot_nought]; decide
  unfold dotE dotR
  rw [if_neg (fun h => h ho), if_pos hi, if_pos ⟨ho, hi⟩, hd]
  decide
theorem mul_noughts {l : List Int} {R C : Nat} (hk : chkM (R : Int) (C : Int) l = 0) (hl : l.length = R * C) (h1 : 1 ≤ C) (h2 : C ≤ 64) (hw : ∀ x ∈ l, isW x) : mulE (R : Int) (C : Int) l (List.replicate C 0) = 0 ∧ mulV (R : Int) (C : Int) l (List.replicate C 0) = List.replicate R 0 := by
  have hd : ∀ i, i < R → dotE (rowL l C i) (List.replicate C 0) = 0 ∧ dotR (rowL l C i) (List.replicate C 0) = 0 := fun i hi => nought_dot (rowL_length hl hi) h1 h2 (fun x hx => hw x (List.mem_of_mem_drop (List.mem_of_mem_take hx)))
  obtain ⟨h3, h4⟩ := mulE_all hk (by rw [List.length_replicate]) (fun i hi => (hd i hi).1)
  refine ⟨h3, ?_⟩
  rw [h4]
  apply List.ext_getElem
  · simp [dotsR]
  · intro i h5 h6
    have hi : i < R := by simpa [dotsR] using h5
    simp [dotsR, (hd i hi).2]
end Go.Proofs.YtchjijifmjbgoaaDoor.Tn
