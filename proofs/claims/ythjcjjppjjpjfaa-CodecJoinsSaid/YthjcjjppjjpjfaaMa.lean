import Derived.WalkKit
import Derived.ProofKit
import Derived.OpenShut
import Derived.WalkLawsBesides
import Derived.Lib.Hide
import Derived.Laws.CopyOwn
namespace Go.Proofs.Ythjcjjppjjpjfaa
open Go.RowKit

/-- the lowest k bytes of n, the highest first -/
def be : Nat → Int → List Int
  | 0, _ => []
  | k + 1, n => be k (n / 256) ++ [n % 256]
theorem be_length : ∀ k n, (be k n).length = k
  | 0, _ => rfl
  | k + 1, n => by simp [be, be_length k]
theorem be_cons : ∀ k n, be (k + 1) n = (n / 256 ^ k % 256) :: be k n
  | 0, n => by simp [be]
  | k + 1, n => by
    rw [be, be_cons k (n / 256), be, List.cons_append]
    congr 1
    rw [Int.pow_succ, Int.mul_comm (256 ^ k), Int.ediv_ediv_of_nonneg (by omega)]
theorem mod_split (n M : Int) : n % (256 * M) = 256 * (n / 256 % M) + n % 256 := by
  rw [Int.emod_def n (256 * M), Int.emod_def (n / 256), Int.emod_def n 256, ← Int.ediv_ediv_of_nonneg (by omega : (0 : Int) ≤ 256), Int.mul_sub, Int.mul_assoc]
  omega
theorem be_mod : ∀ k n, be k (n % 256 ^ k) = be k n
  | 0, _ => rfl
  | k + 1, n => by
    rw [be, be, Int.pow_succ, Int.mul_comm (256 ^ k) 256, mod_split]
    have h1 : (256 * (n / 256 % 256 ^ k) + n % 256) % 256 = n % 256 := by omega
    have h2 : (256 * (n / 256 % 256 ^ k) + n % 256) / 256 = n / 256 % 256 ^ k := by omega
    rw [h1, h2, be_mod k]
theorem be_range : ∀ k n, ∀ x ∈ be k n, 0 ≤ x ∧ x < 256
  | 0, _, _, h => by simp [be] at h
  | k + 1, n, x, h => by
    simp only [be, List.mem_append, List.mem_singleton] at h
    rcases h with h | h
    · exact be_range k _ x h
    · subst h; omega
/-- the number of bytes -/
def val (l : List Int) : Int := l.foldl (fun a x => 256 * a + x) 0
theorem val_snoc (l : List Int) (x : Int) : val (l ++ [x]) = 256 * val l + x := by simp [val]
theorem val_be : ∀ k n, val (be k n) = n % 256 ^ k
  | 0, n => by simp [be, val, Int.emod_one]
  | k + 1, n => by
    rw [be, val_snoc, val_be k, Int.pow_succ, Int.mul_comm (256 ^ k) 256, mod_split]
/-- bytes -/
def rng (l : List Int) : Prop := ∀ x ∈ l, 0 ≤ x ∧ x < 256
theorem val_bound : ∀ (k : Nat) (l : List Int), l.length = k → rng l → 0 ≤ val l ∧ val l < 256 ^ k
  | 0, l, h, _ => by
    obtain rfl : l = [] := List.eq_nil_of_length_eq_zero h
    simp [val]
  | k + 1, l, h, hr => by
    obtain ⟨m, x, rfl⟩ : ∃ m x, l = m ++ [x] := ⟨l.dropLast, l.getLast (by intro e; simp [e] at h), (List.dropLast_concat_getLast _).symm⟩
    have hx := hr x (by simp)
    obtain ⟨h1, h2⟩ := val_bound k m (by simpa using h) (fun y hy => hr y (by simp [hy]))
    rw [val_snoc, Int.pow_succ]
    omega
theorem be_val : ∀ (k : Nat) (l : List Int), l.length = k → rng l → be k (val l) = l
  | 0, l, h, _ => by
    obtain rfl : l = [] := List.eq_nil_of_length_eq_zero h
    rfl
  | k + 1, l, h, hr => by
    obtain ⟨m, x, rfl⟩ : ∃ m x, l = m ++ [x] := ⟨l.dropLast, l.getLast (by intro e; simp [e] at h), (List.dropLast_concat_getLast _).symm⟩
    have hx := hr x (by simp)
    have hm := be_val k m (by simpa using h) (fun y hy => hr y (by simp [hy]))
    rw [val_snoc, be, show (256 * val m + x) / 256 = val m by omega, show (256 * val m + x) % 256 = x by omega, hm]
theorem val_zeros (l : List Int) : val ([0, 0, 0, 0] ++ l) = val l := by simp [val]

/-- a piece's bytes -/
def pc (l : List Int) : List Int := be 4 l.length ++ l
/-- pieces' bytes -/
def join (ls : List (List Int)) : List Int := ls.flatMap pc
theorem join_nil : join [] = [] := rfl
theorem join_cons (p : List Int) (ls : List (List Int)) : join (p :: ls) = be 4 p.length ++ (p ++ join ls) := by simp [join, pc]
theorem join_append (a b : List (List Int)) : join (a ++ b) = join a ++ join b := by simp [join]
theorem join_snoc (a : List (List Int)) (p : List Int) : join (a ++ [p]) = join a ++ be 4 p.length ++ p := by simp [join, pc]
/-- pieces that are not too long for their lengths -/
def small (ls : List (List Int)) : Prop := ∀ l ∈ ls, l.length < 4294967296
theorem be4_inj {a b : Nat} (ha : a < 4294967296) (hb : b < 4294967296) (h : be 4 (a : Int) = be 4 (b : Int)) : a = b := by
  have := congrArg val h
  rw [val_be, val_be] at this
  omega
/-- pieces that begin with the bytes of others begin with these -/
theorem join_cancel : ∀ (ds ps : List (List Int)) (r : List Int), small ds → small ps → join ps = join ds ++ r → ∃ qs, ps = ds ++ qs ∧ join qs = r
  | [], ps, r, _, _, h => ⟨ps, rfl, by simpa [join_nil] using h⟩
  | d :: ds, ps, r, hd, hp, h => by
    rcases ps with _ | ⟨p, ps⟩
    · have := congrArg List.length h
      simp [join_cons, join_nil, be_length] at this
      omega
    · rw [join_cons, join_cons, List.append_assoc] at h
      obtain ⟨h1, h2⟩ := List.append_inj h (by rw [be_length, be_length])
      have hl := be4_inj (hp p (by simp)) (hd d (by simp)) h1
      rw [List.append_assoc] at h2
      obtain ⟨h3, h4⟩ := List.append_inj h2 hl
      obtain ⟨qs, rfl, hq⟩ := join_cancel ds ps r (fun l hl => hd l (by simp [hl])) (fun l hl => hp l (by simp [hl])) h4
      exact ⟨qs, by rw [h3]; rfl, hq⟩
theorem join_inj {a b : List (List Int)} (ha : small a) (hb : small b) (h : join a = join b) : a = b := by
  obtain ⟨qs, rfl, hq⟩ := join_cancel b a [] hb ha (by simpa using h)
  rcases qs with _ | ⟨q, qs⟩
  · simp
  · have := congrArg List.length hq
    simp [join_cons, be_length] at this
/-- bytes that begin with a whole piece -/
theorem join_whole {ps : List (List Int)} {r : List Int} (hs : small ps) (h : join ps = r) (hr : r ≠ []) : 4 ≤ r.length ∧ val (r.take 4) ≤ (r.length - 4 : Nat) := by
  rcases ps with _ | ⟨p, ps⟩
  · exact absurd h.symm hr
  · have hp := hs p (by simp)
    subst h
    have hl : (join (p :: ps)).length = 4 + (p.length + (join ps).length) := by simp [join_cons, be_length]
    refine ⟨by omega, ?_⟩
    rw [hl, join_cons, List.take_left' (be_length _ _), val_be]
    omega
/-- a piece is taken off -/
theorem join_take (r : List Int) (n : Nat) (hr : rng r) (h4 : 4 ≤ r.length) (hv : val (r.take 4) = n) (_hn : n ≤ r.length - 4) : be 4 (n : Int) ++ ((r.drop 4).take n ++ (r.drop 4).drop n) = r := by
  rw [List.take_append_drop, ← hv, be_val 4 (r.take 4) (by simp; omega) (fun x hx => hr x (List.mem_of_mem_take hx)), List.take_append_drop]
theorem rng_append {a b : List Int} : rng (a ++ b) ↔ rng a ∧ rng b := by
  constructor
  · exact fun h => ⟨fun x hx => h x (by simp [hx]), fun x hx => h x (by simp [hx])⟩
  · rintro ⟨h1, h2⟩ x hx
    rcases List.mem_append.1 hx with h | h
    · exact h1 x h
    · exact h2 x h
theorem rng_join {ls : List (List Int)} (h : ∀ l ∈ ls, rng l) : rng (join ls) := by
  intro x hx
  simp only [join, List.mem_flatMap, pc, List.mem_append] at hx
  obtain ⟨l, hl, h1 | h1⟩ := hx
  · exact be_range _ _ x h1
  · exact h l hl x h1
theorem rng_drop {l : List Int} (h : rng l) (k : Nat) : rng (l.drop k) := fun x hx => h x (List.mem_of_mem_drop hx)
theorem rng_take {l : List Int} (h : rng l) (k : Nat) : rng (l.take k) := fun x hx => h x (List.mem_of_mem_take hx)
/-- a word of which k bytes are written, from the end on -/
def wk (n : Int) (k : Nat) : List Int := List.replicate (8 - k) 0 ++ be k n
theorem wk_length (n : Int) (k : Nat) (h : k ≤ 8) : (wk n k).length = 8 := by simp [wk, be_length]; omega
theorem wk_set (n : Int) (k : Nat) (h : k < 8) : (wk n k).set (7 - k) (n / 256 ^ k % 256) = wk n (k + 1) := by
  unfold wk
  rw [be_cons, show 8 - k = (7 - k) + 1 by omega, show 8 - (k + 1) = 7 - k by omega, List.replicate_succ', List.append_assoc, List.set_append_right _ _ (by simp)]
  simp
theorem wk_all (n : Int) : wk n 8 = be 8 n := rfl
theorem be_drop (n : Int) : (be 8 n).drop 4 = be 4 n := by
  rw [be_cons, be_cons, be_cons, be_cons]
  rfl
end Go.Proofs.Ythjcjjppjjpjfaa
