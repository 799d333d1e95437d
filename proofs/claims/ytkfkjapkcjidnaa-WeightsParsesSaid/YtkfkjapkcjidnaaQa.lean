import Derived.Test.YtkfkjapkcjidnaaWx
import Derived.Test.YtkfkjapkcjidnaaOs
namespace Go.Proofs.Ytkfkjapkcjidnaa.Wg
set_option maxRecDepth 100000
open Go.ChangeShapes Go.WideShapes Go.ChangeAt Go.RowKit Go.Shelf Go.Proofs.Ytkfkjapkcjidnaa.Tn

/-! ### the leaf at a part's place -/
theorem plc_find (k y r : Int) : ∀ (bs : List Bl) (n : Nat), 0 ≤ plcB k y r n bs → ∃ (i : Nat) (b : Bl), bs[i]? = some b ∧ (b.k : Int) = k ∧ (b.y : Int) = y ∧ 0 ≤ r ∧ r < (b.r : Int) ∧ plcB k y r n bs = (n : Int) + (rowsB (bs.take i) : Nat) + r
  | [], n, h => by simp [plcB] at h
  | b :: l, n, h => by
    unfold plcB at h ⊢
    by_cases hk : (b.k : Int) = k ∧ (b.y : Int) = y
    · rw [if_pos hk] at h ⊢
      by_cases hr : r < 0 ∨ (b.r : Int) ≤ r
      · rw [if_pos hr] at h; omega
      · rw [if_neg hr]
        exact ⟨0, b, rfl, hk.1, hk.2, by omega, by omega, by simp [rowsB]⟩
    · rw [if_neg hk] at h ⊢
      obtain ⟨i, x, h1, h2, h3, h4, h5, h6⟩ := plc_find k y r l (n + b.r) h
      exact ⟨i + 1, x, by simpa using h1, h2, h3, h4, h5, by rw [h6]; simp [rowsB]; omega⟩
theorem leavesB_len (b : Bl) (p : Mt) : (leavesB b p).length = b.r := by simp [leavesB, rowsL]
theorem flat_atQ (f : Bl → List (List Int)) (hf : ∀ b, (f b).length = b.r) : ∀ (bs : List Bl) (i : Nat) (b : Bl) (j : Nat), bs[i]? = some b → j < b.r → (bs.flatMap f)[rowsB (bs.take i) + j]? = (f b)[j]?
  | [], i, b, j, h, _ => by simp at h
  | a :: l, 0, b, j, h, hj => by
    obtain rfl : a = b := by simpa using h
    rw [List.flatMap_cons]
    simp only [List.take_zero, rowsB, List.map_nil, List.sum_nil, Nat.zero_add]
    rw [List.getElem?_append_left (by rw [hf]; exact hj)]
  | a :: l, i + 1, b, j, h, hj => by
    rw [List.flatMap_cons, List.getElem?_append_right (by rw [hf]; simp [rowsB]; omega), ← flat_atQ f hf l i b j (by simpa using h) hj]
    congr 1
    rw [hf]; simp [rowsB]; omega
theorem flat_len (f : Bl → List (List Int)) (hf : ∀ b, (f b).length = b.r) : ∀ (bs : List Bl), (bs.flatMap f).length = rowsB bs
  | [] => rfl
  | a :: l => by rw [List.flatMap_cons, List.length_append, hf, flat_len f hf l]; simp [rowsB]
theorem leavesD_len (m : Md) : (leavesD m).length = 1 + rowsB m.cfg.blks := by
  unfold leavesD
  rw [List.length_cons, flat_len _ (fun b => leavesB_len b _)]
  omega
theorem leavesD_at (m : Md) {i : Nat} {b : Bl} {j : Nat} (h : m.cfg.blks[i]? = some b) (hj : j < b.r) : (leavesD m)[1 + (rowsB (m.cfg.blks.take i) + j)]? = some (Cd.nums (((m.part b.k b.y).l.drop (j * b.c)).take b.c)) := by
  unfold leavesD
  rw [Nat.add_comm 1, List.getElem?_cons_succ, flat_atQ _ (fun b => leavesB_len b _) _ i b j h hj]
  simp [leavesB, rowsL, hj]
theorem blks_cols {V D L I : Nat} {b : Bl} (h : b ∈ blks V D L I) : b.c = if b.k = 10 then I else D := by
  unfold blks at h
  simp only [List.mem_cons, List.mem_append, List.not_mem_nil, or_false] at h
  rcases h with rfl | h | rfl | rfl
  · rfl
  · induction L with
    | zero => simp [laysB] at h
    | succ n ih =>
      unfold laysB at h
      rcases List.mem_append.1 h with h | h
      · exact ih h
      · simp only [layB, List.mem_cons, List.not_mem_nil, or_false] at h
        rcases h with rfl | rfl | rfl | rfl | rfl | rfl | rfl | rfl | rfl <;> rfl
  · rfl
  · rfl
theorem blks_vec {V D L I : Nat} {b : Bl} (h : b ∈ blks V D L I) (hv : isVec b.k = true) : b.r = 1 := by
  unfold blks at h
  simp only [List.mem_cons, List.mem_append, List.not_mem_nil, or_false] at h
  rcases h with rfl | h | rfl | rfl
  · cases hv
  · induction L with
    | zero => simp [laysB] at h
    | succ n ih =>
      unfold laysB at h
      rcases List.mem_append.1 h with h | h
      · exact ih h
      · simp only [layB, List.mem_cons, List.not_mem_nil, or_false] at h
        rcases h with rfl | rfl | rfl | rfl | rfl | rfl | rfl | rfl | rfl <;> first | rfl | cases hv
  · rfl
  · cases hv
theorem nm_int {b : Bl} {p : Mt} (h : nmB b p = 0) : ∀ x ∈ p.l, -9223372036854775808 ≤ x ∧ x ≤ 9223372036854775807 := by
  intro x hx
  unfold nmB at h
  by_cases hv : isVec b.k = true
  · rw [if_pos hv] at h
    unfold chkV at h
    split at h
    · omega
    · split at h
      · rename_i hn
        have := hn x hx
        unfold Fx.isN at this
        omega
      · omega
  · rw [if_neg hv] at h
    unfold chkM at h
    split at h
    · omega
    · split at h
      · rename_i hn
        have := hn x hx
        unfold isW at this
        omega
      · omega
/-- what is known of a part that has a place -/
structure PlcAt (m : Md) (k y r : Int) (K Y R C A : Nat) : Prop where
  ek : k = K
  ey : y = Y
  er : r = R
  part : (K = 1 ∧ Y = 0) ∨ (K = 11 ∧ Y = 0) ∨ (K = 12 ∧ Y = 0) ∨ (Y < m.n ∧ 2 ≤ K ∧ K ≤ 10)
  lt : R * C + C ≤ (m.part K Y).l.length
  pos : 1 ≤ C
  le : C ≤ 64
  at_ : plcB k y r 1 m.cfg.blks = A
  one : 1 ≤ A
  alt : A < (leavesD m).length
  leaf : (leavesD m)[A]? = some (Cd.nums (((m.part K Y).l.drop (R * C)).take C))
  down : K = 10 → m.cfg.i = C
  other : K ≠ 10 → m.cfg.d = C
  row : K ≠ 10 → (m.part K Y).l.length ≤ C → (m.part K Y).l.length = C
  int : ∀ x ∈ ((m.part K Y).l.drop (R * C)).take C, -9223372036854775808 ≤ x ∧ x ≤ 9223372036854775807
  blk : ∃ i b, m.cfg.blks[i]? = some b ∧ b.k = K ∧ b.y = Y ∧ b.c = C ∧ R < b.r ∧ A = 1 + (rowsB (m.cfg.blks.take i) + R)
theorem plc_at {m : Md} (hE : m.chk = 0) (k y r : Int) (hp : 0 ≤ plcB k y r 1 m.cfg.blks) : ∃ K Y R C A, PlcAt m k y r K Y R C A := by
  obtain ⟨hH, hP⟩ := chk_zero hE
  obtain ⟨hck, _, _, hnl⟩ := headE_zero hH
  have hO := Cfg.ok_of_chk hck
  obtain ⟨V, D, I, e, eV, eD, eI, hV, hD, hIi, hL1, hL2, hL3⟩ := cfg_blks hO
  obtain ⟨i, b, h1, h2, h3, h4, h5, h6⟩ := plc_find k y r _ 1 hp
  have hm := List.mem_of_getElem? h1
  obtain ⟨hsz, hnm⟩ := partsE_all hP b hm
  have hm' := hm
  rw [e] at hm'
  obtain ⟨q1, q2, _⟩ := part_many (fun hv => blks_vec hm' hv) hsz hnm
  have hc := blks_cols hm'
  have hR : r.toNat < b.r := by omega
  have hlf := leavesD_at m h1 hR
  have hmul : r.toNat * b.c + b.c ≤ b.r * b.c := by rw [← Nat.succ_mul]; exact Nat.mul_le_mul_right _ hR
  refine ⟨b.k, b.y, r.toNat, b.c, 1 + (rowsB (m.cfg.blks.take i) + r.toNat), h2.symm, h3.symm, by omega, ?_, by rw [q1]; exact hmul, q2, ?_, by rw [h6]; omega, by omega, (List.getElem?_eq_some_iff.1 hlf).1, hlf, fun h => ?_, fun h => ?_, fun h hle => ?_, fun x hx => nm_int hnm x (List.mem_of_mem_drop (List.mem_of_mem_take hx)), i, b, h1, rfl, rfl, rfl, hR, rfl⟩
  · rcases blks_okL hm' with h | h | h | ⟨a1, a2, a3⟩
    · exact Or.inl h
    · exact Or.inr (Or.inl h)
    · exact Or.inr (Or.inr (Or.inl h))
    · exact Or.inr (Or.inr (Or.inr ⟨by omega, a2, a3⟩))
  · rw [hc]; split <;> omega
  · rw [hc, if_pos h]; have := hO.i; omega
  · rw [hc, if_neg h]; have := hO.d; omega
  · rw [q1] at hle ⊢
    have : 1 ≤ b.r := by omega
    have := Nat.mul_le_mul_right b.c this
    omega
end Go.Proofs.Ytkfkjapkcjidnaa.Wg
