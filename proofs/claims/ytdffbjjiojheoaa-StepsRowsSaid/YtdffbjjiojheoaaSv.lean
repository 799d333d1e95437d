/- Steps: where a row of a model stands. -/
import Derived.Test.YtdffbjjiojheoaaSs
namespace Go.Proofs.Ytdffbjjiojheoaa.St
set_option maxRecDepth 100000
open Go.ChangeShapes Go.WideShapes Go.ChangeAt Go.RowKit Go.Shelf Go.Proofs.Ytdffbjjiojheoaa.Tn Go.Proofs.Ytdffbjjiojheoaa.Wg
theorem partsE_all {m : Md} : ∀ {l : List Bl}, partsE m l = 0 → ∀ b ∈ l, szB b (m.part b.k b.y) = 0 ∧ nmB b (m.part b.k b.y) = 0
  | [], _, _, h => by cases h
  | c :: l, h, b, hb => by
    have h0 : partE c (m.part c.k c.y) = 0 := by
      by_cases hz : partE c (m.part c.k c.y) = 0
      · exact hz
      · rw [partsE_no hz] at h; exact absurd h hz
    rw [partsE_yes h0] at h
    rcases List.mem_cons.1 hb with rfl | h1
    · unfold partE at h0
      by_cases hs : szB b (m.part b.k b.y) = 0
      · rw [if_neg (by omega)] at h0
        exact ⟨hs, h0⟩
      · rw [if_pos hs] at h0
        exact absurd h0 hs
    · exact partsE_all h b h1
theorem part_many {b : Bl} {p : Mt} (h1 : isVec b.k = true → b.r = 1) (hs : szB b p = 0) (hn : nmB b p = 0) : p.l.length = b.r * b.c ∧ 1 ≤ b.c ∧ b.r * b.c ≤ 32768 := by
  unfold szB at hs
  unfold nmB at hn
  cases hk : isVec b.k with
  | true =>
    rw [hk, if_pos rfl] at hs hn
    have hl : p.l.length = b.c := by
      by_cases h : p.l.length = b.c
      · exact h
      · rw [if_neg h] at hs; cases hs
    have : ¬ (p.l.length < 1 ∨ 512 < p.l.length) := fun h => by unfold chkV at hn; rw [if_pos h] at hn; cases hn
    rw [h1 hk]
    omega
  | false =>
    rw [hk, if_neg (by decide)] at hs hn
    have hrc : p.r = b.r ∧ p.c = b.c := by
      by_cases h : p.r = b.r ∧ p.c = b.c
      · exact h
      · rw [if_neg h] at hs; cases hs
    have hz : sizeM p.r p.c p.l.length := by
      by_cases h : sizeM p.r p.c p.l.length
      · exact h
      · rw [chkM_size h] at hn; cases hn
    obtain ⟨a1, a2, a3, a4, a5⟩ := hz
    rw [hrc.1, hrc.2] at a5
    have e : ((p.l.length : Nat) : Int) = ((b.r * b.c : Nat) : Int) := by rw [a5]; simp
    have hle : b.r * b.c ≤ 512 * 64 := Nat.mul_le_mul (by omega) (by omega)
    exact ⟨by omega, by omega, by omega⟩
theorem chk_zero {m : Md} (h : m.chk = 0) : m.headE = 0 ∧ partsE m m.cfg.blks = 0 := by
  by_cases h0 : m.headE = 0
  · exact ⟨h0, (chk_yes h0).symm.trans h⟩
  · rw [chk_no h0] at h
    exact absurd h h0
theorem cfg_blks {c : Cfg} (h : c.Ok) : ∃ V D I : Nat, c.blks = blks V D c.l.toNat I ∧ c.v.toNat = V ∧ c.d.toNat = D ∧ c.i.toNat = I ∧ (1 ≤ V ∧ V ≤ 512) ∧ (1 ≤ D ∧ D ≤ 64) ∧ (1 ≤ I ∧ I ≤ 64) ∧ 1 ≤ c.l.toNat ∧ c.l.toNat ≤ 4 ∧ ((c.l.toNat : Nat) : Int) = c.l := by
  obtain ⟨h1, h2, h3, h4, h5, h6⟩ := h
  exact ⟨_, _, _, rfl, rfl, rfl, rfl, by omega, by omega, by omega, by omega, by omega, by omega⟩
theorem plc_find (k y r : Int) : ∀ (bs : List Bl) (n : Nat), 0 ≤ plcB k y r n bs → ∃ (i : Nat) (b : Bl), bs[i]? = some b ∧ (b.k : Int) = k ∧ (b.y : Int) = y ∧ 0 ≤ r ∧ r < (b.r : Int) ∧ plcB k y r n bs = (n : Int) + (rowsB (bs.take i) : Nat) + r
  | [], n, h => by simp [plcB] at h
  | b :: l, n, h => by
    unfold plcB at h ⊢
    by_cases hk : (b.k : Int) = k ∧ (b.y : Int) = y
    · rw [if_pos hk] at h ⊢
      by_cases hr : r < 0 ∨ (b.r : Int) ≤ r
      · rw [if_pos hr] at h; omega
      · rw [if_neg hr]
        exact ⟨0, b, rfl, hk.1, hk.2, by omega, by omega, by simp [rowsB]⟩
    · rw [if_neg hk] at h ⊢
      obtain ⟨i, x, h1, h2, h3, h4, h5, h6⟩ := plc_find k y r l (n + b.r) h
      exact ⟨i + 1, x, by simpa using h1, h2, h3, h4, h5, by rw [h6]; simp [rowsB]; omega⟩
theorem blks_cols {V D L I : Nat} {b : Bl} (h : b ∈ blks V D L I) : b.c = if b.k = 10 then I else D := by
  unfold blks at h
  simp only [List.mem_cons, List.mem_append, List.not_mem_nil, or_false] at h
  rcases h with rfl | h | rfl | rfl
  · rfl
  · induction L with
    | zero => simp [laysB] at h
    | succ n ih =>
      unfold laysB at h
      rcases List.mem_append.1 h with h | h
      · exact ih h
      · simp only [layB, List.mem_cons, List.not_mem_nil, or_false] at h
        rcases h with rfl | rfl | rfl | rfl | rfl | rfl | rfl | rfl | rfl <;> rfl
  · rfl
  · rfl
theorem blks_vec {V D L I : Nat} {b : Bl} (h : b ∈ blks V D L I) (hv : isVec b.k = true) : b.r = 1 := by
  unfold blks at h
  simp only [List.mem_cons, List.mem_append, List.not_mem_nil, or_false] at h
  rcases h with rfl | h | rfl | rfl
  · cases hv
  · induction L with
    | zero => simp [laysB] at h
    | succ n ih =>
      unfold laysB at h
      rcases List.mem_append.1 h with h | h
      · exact ih h
      · simp only [layB, List.mem_cons, List.not_mem_nil, or_false] at h
        rcases h with rfl | rfl | rfl | rfl | rfl | rfl | rfl | rfl | rfl <;> first | rfl | cases hv
  · rfl
  · cases hv
def OkL (L : Nat) (b : Bl) : Prop := (b.k = 1 ∧ b.y = 0) ∨ (b.k = 11 ∧ b.y = 0) ∨ (b.k = 12 ∧ b.y = 0) ∨ (b.y < L ∧ 2 ≤ b.k ∧ b.k ≤ 10)
theorem blks_okL {V D L I : Nat} {b : Bl} (h : b ∈ blks V D L I) : OkL L b := by
  unfold blks at h
  simp only [List.mem_cons, List.mem_append, List.not_mem_nil, or_false] at h
  rcases h with rfl | h | rfl | rfl
  · exact Or.inl ⟨rfl, rfl⟩
  · exact Or.inr (Or.inr (Or.inr (laysB_mem h)))
  · exact Or.inr (Or.inl ⟨rfl, rfl⟩)
  · exact Or.inr (Or.inr (Or.inl ⟨rfl, rfl⟩))
/-- where a row of a model is -/
structure RowAt (m : Md) (k y r : Int) (K Y R C Q : Nat) : Prop where
  ek : k = K
  ey : y = Y
  er : r = R
  part : (K = 1 ∧ Y = 0) ∨ (K = 11 ∧ Y = 0) ∨ (K = 12 ∧ Y = 0) ∨ (Y < m.n ∧ 2 ≤ K ∧ K ≤ 10)
  lt : R < Q
  len : (m.part K Y).l.length = Q * C
  pos : 1 ≤ C
  le : C ≤ 64
  q : Q ≤ 512
  vec : isVec K = true → Q = 1
  mat : isVec K = false → (m.part K Y).r = Q ∧ (m.part K Y).c = C
  num : isVec K = false → chkM Q C (m.part K Y).l = 0
theorem row_at {m : Md} (hE : m.chk = 0) (k y r : Int) (hp : 0 ≤ plcB k y r 1 m.cfg.blks) : ∃ K Y R C Q, RowAt m k y r K Y R C Q := by
  obtain ⟨hH, hP⟩ := chk_zero hE
  obtain ⟨hck, _, _, hnl⟩ := headE_zero hH
  have hO := Cfg.ok_of_chk hck
  obtain ⟨V, D, I, e, eV, eD, eI, hV, hD, hIi, hL1, hL2, hL3⟩ := cfg_blks hO
  obtain ⟨i, b, h1, h2, h3, h4, h5, h6⟩ := plc_find k y r _ 1 hp
  have hm := List.mem_of_getElem? h1
  obtain ⟨hsz, hnm⟩ := partsE_all hP b hm
  have hm' := hm
  rw [e] at hm'
  obtain ⟨q1, q2, q3⟩ := part_many (fun hv => blks_vec hm' hv) hsz hnm
  have hc := blks_cols hm'
  refine ⟨b.k, b.y, r.toNat, b.c, b.r, h2.symm, h3.symm, by omega, ?_, by omega, q1, q2, ?_, ?_, fun hv => blks_vec hm' hv, fun hv => ?_, fun hv => ?_⟩
  · rcases blks_okL hm' with h | h | h | ⟨a1, a2, a3⟩
    · exact Or.inl h
    · exact Or.inr (Or.inl h)
    · exact Or.inr (Or.inr (Or.inl h))
    · exact Or.inr (Or.inr (Or.inr ⟨by omega, a2, a3⟩))
  · rw [hc]; split <;> omega
  · cases hv : isVec b.k with
    | true => have := blks_vec hm' hv; omega
    | false =>
      unfold szB at hsz
      unfold nmB at hnm
      rw [hv, if_neg (by decide)] at hsz hnm
      have hrc : (m.part b.k b.y).r = b.r ∧ (m.part b.k b.y).c = b.c := by
        by_cases h : (m.part b.k b.y).r = b.r ∧ (m.part b.k b.y).c = b.c
        · exact h
        · rw [if_neg h] at hsz; cases hsz
      rw [hrc.1, hrc.2] at hnm
      obtain ⟨R', C', e1, e2, x1, x2, _⟩ := chkM_ok rfl hnm
      omega
  · unfold szB at hsz
    rw [hv, if_neg (by decide)] at hsz
    by_cases h : (m.part b.k b.y).r = b.r ∧ (m.part b.k b.y).c = b.c
    · exact h
    · rw [if_neg h] at hsz; cases hsz
  · unfold szB at hsz
    unfold nmB at hnm
    rw [hv, if_neg (by decide)] at hsz hnm
    have hrc : (m.part b.k b.y).r = b.r ∧ (m.part b.k b.y).c = b.c := by
      by_cases h : (m.part b.k b.y).r = b.r ∧ (m.part b.k b.y).c = b.c
      · exact h
      · rw [if_neg h] at hsz; cases hsz
    rw [hrc.1, hrc.2] at hnm
    exact hnm
end Go.Proofs.Ytdffbjjiojheoaa.St
