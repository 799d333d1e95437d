import Derived.Test.YtdffbjjiojheoaaChecked
import Derived.Lib.Hide
-- from Ba
namespace Go.Proofs.Ytdffbjjiojheoaa.Bp
end Go.Proofs.Ytdffbjjiojheoaa.Bp
-- from Bb
namespace Go.Proofs.Ytdffbjjiojheoaa.Bp
/-! ### bytes as tokens: what a coder is made of, and what it answers -/
/-- the text of a pair -/
def txt (T : List (List Int)) (p : Int × Int) : List Int := T.getD p.1.toNat [] ++ T.getD p.2.toNat []
/-- what is wrong with a pair, behind those that are seen -/
def stepE (T : List (List Int)) (seen : List (Int × Int)) (p : Int × Int) : Int :=
  if p.1 < 0 ∨ (T.length : Int) ≤ p.1 ∨ p.2 < 0 ∨ (T.length : Int) ≤ p.2 then 10 else if p ∈ seen then 15 else if 16 < (txt T p).length then 20 else 0
/-- pair by pair: what is wrong, and the texts -/
def newT (T : List (List Int)) (seen : List (Int × Int)) : List (Int × Int) → Int × List (List Int)
  | [] => (0, T)
  | p :: r => if stepE T seen p ≠ 0 then (stepE T seen p, []) else newT (T ++ [txt T p]) (seen ++ [p]) r
def one (al : List Int) : List (List Int) := al.map fun x => [x]
/-- a coder: what is wrong, and the texts -/
def newD (al : List Int) (ps : List (Int × Int)) : Int × List (List Int) :=
  if al.length < 1 ∨ 512 < al.length + ps.length then (13, []) else if ¬ al.Nodup then (15, []) else newT (one al) [] ps
theorem stepE_zero {T : List (List Int)} {seen : List (Int × Int)} {p : Int × Int} (h : stepE T seen p = 0) : (0 ≤ p.1 ∧ p.1 < T.length) ∧ (0 ≤ p.2 ∧ p.2 < T.length) ∧ p ∉ seen ∧ (txt T p).length ≤ 16 := by
  unfold stepE at h
  by_cases h1 : p.1 < 0 ∨ (T.length : Int) ≤ p.1 ∨ p.2 < 0 ∨ (T.length : Int) ≤ p.2
  · rw [if_pos h1] at h; omega
  rw [if_neg h1] at h
  by_cases h2 : p ∈ seen
  · rw [if_pos h2] at h; omega
  rw [if_neg h2] at h
  by_cases h3 : 16 < (txt T p).length
  · rw [if_pos h3] at h; omega
  exact ⟨by omega, by omega, h2, by omega⟩
/-- the texts of a coder -/
structure Texts (n : Nat) (ps : List (Int × Int)) (T : List (List Int)) : Prop where
  len : T.length = n + ps.length
  pair : ∀ k, k < ps.length → (0 ≤ (ps.getD k (0, 0)).1 ∧ (ps.getD k (0, 0)).1 < ((n + k : Nat) : Int)) ∧ (0 ≤ (ps.getD k (0, 0)).2 ∧ (ps.getD k (0, 0)).2 < ((n + k : Nat) : Int)) ∧ T.getD (n + k) [] = txt T (ps.getD k (0, 0)) ∧ (txt T (ps.getD k (0, 0))).length ≤ 16
  nodup : ps.Nodup
theorem txt_append {T U : List (List Int)} {p : Int × Int} (h1 : 0 ≤ p.1 ∧ p.1 < T.length) (h2 : 0 ≤ p.2 ∧ p.2 < T.length) : txt (T ++ U) p = txt T p := by
  unfold txt
  have e1 : (T ++ U).getD p.1.toNat [] = T.getD p.1.toNat [] := by rw [List.getD_eq_getElem?_getD, List.getElem?_append_left (by omega), ← List.getD_eq_getElem?_getD]
  have e2 : (T ++ U).getD p.2.toNat [] = T.getD p.2.toNat [] := by rw [List.getD_eq_getElem?_getD, List.getElem?_append_left (by omega), ← List.getD_eq_getElem?_getD]
  rw [e1, e2]
theorem Texts.snoc {n : Nat} {ps : List (Int × Int)} {T : List (List Int)} {p : Int × Int} (h : Texts n ps T) (hp : stepE T ps p = 0) : Texts n (ps ++ [p]) (T ++ [txt T p]) := by
  obtain ⟨h1, h2, h3, h4⟩ := stepE_zero hp
  have hl := h.len
  refine ⟨by simp [hl]; omega, fun k hk => ?_, ?_⟩
  · by_cases hkl : k < ps.length
    · have e : (ps ++ [p]).getD k (0, 0) = ps.getD k (0, 0) := by rw [List.getD_eq_getElem?_getD, List.getElem?_append_left hkl, ← List.getD_eq_getElem?_getD]
      obtain ⟨a, b, c, d⟩ := h.pair k hkl
      rw [e, txt_append (by omega) (by omega)]
      refine ⟨a, b, ?_, d⟩
      rw [List.getD_eq_getElem?_getD, List.getElem?_append_left (by omega), ← List.getD_eq_getElem?_getD]
      exact c
    · have hk2 : k = ps.length := by simp at hk; omega
      subst hk2
      have e : (ps ++ [p]).getD ps.length (0, 0) = p := by simp
      rw [e, txt_append h1 h2]
      refine ⟨by omega, by omega, ?_, h4⟩
      rw [← hl]
      simp
  · rw [List.nodup_append]
    refine ⟨h.nodup, by simp, fun a ha b hb => ?_⟩
    obtain rfl : b = p := by simpa using hb
    exact fun e => h3 (e ▸ ha)
/-- the tokens of bytes at first -/
def firsts (al b : List Int) : List Int := b.map fun x => (al.idxOf x : Int)
end Go.Proofs.Ytdffbjjiojheoaa.Bp
