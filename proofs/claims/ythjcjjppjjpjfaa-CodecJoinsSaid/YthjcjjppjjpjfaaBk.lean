import Derived.Test.YthjcjjppjjpjfaaIn
import Derived.Test.YthjcjjppjjpjfaaCu
namespace Go.Proofs.Ythjcjjppjjpjfaa
open Go.ChangeShapes Go.WideShapes Go.ChangeAt Go.RowKit

theorem num_be (n : Int) (h1 : -9223372036854775808 ≤ n) (h2 : n ≤ 9223372036854775807) : num (be 8 n) = n := by
  unfold num
  rw [val_be]
  simp [IntKind.wrap, IntKind.bits, IntKind.signed]
  omega
theorem be_num (t : List Int) (h : t.length = 8) (hr : rng t) : be 8 (num t) = t := by
  have hv := val_bound 8 t h hr
  have e : num t % 256 ^ 8 = val t := by
    unfold num
    simp [IntKind.wrap, IntKind.bits, IntKind.signed]
    simp at hv
    omega
  rw [← be_mod, e, be_val 8 t h hr]
theorem nums_ints (b : List Int) (hr : rng b) : ∀ q, 8 * q ≤ b.length → nums (ints b q) = b.take (8 * q)
  | 0, _ => by simp [ints, nums]
  | q + 1, h => by
    rw [ints_succ, nums_snoc, nums_ints b hr q (by omega), be_num _ (by simp; omega) (rng_take (rng_drop hr _) 8), show 8 * (q + 1) = 8 * q + 8 by omega, List.take_add]
theorem nums_append (a b : List Int) : nums (a ++ b) = nums a ++ nums b := by simp [nums]
theorem ints_nums (m : List Int) (hr : ∀ x ∈ m, -9223372036854775808 ≤ x ∧ x ≤ 9223372036854775807) : ∀ q, q ≤ m.length → ints (nums m) q = m.take q
  | 0, _ => by simp [ints]
  | q + 1, h => by
    have hq : q < m.length := by omega
    have e : nums m = nums (m.take q) ++ (be 8 m[q] ++ nums (m.drop (q + 1))) := by
      have : m = m.take q ++ ([m[q]] ++ m.drop (q + 1)) := by simp
      calc nums m = nums (m.take q ++ ([m[q]] ++ m.drop (q + 1))) := by rw [← this]
        _ = _ := by rw [nums_append, nums_append]; simp [nums]
    have e2 : ((nums m).drop (8 * q)).take 8 = be 8 m[q] := by
      rw [e, List.drop_left' (by rw [nums_length, List.length_take, Nat.min_eq_left (by omega)]), List.take_left' (be_length _ _)]
    have hx := hr m[q] (List.getElem_mem hq)
    rw [ints_succ, ints_nums m hr q (by omega), e2, num_be _ hx.1 hx.2, List.take_succ_eq_append_getElem hq]
theorem split_ok (w : World) (sp : Option Addr) (m cap : Nat) (l : List Int) (ps : List (List Int)) (hm : l.length = m) (hb : Bytes w sp cap l) (hmx : m ≤ 100000) (hj : join ps = l) (hs : small ps) :
    Calls Try.prog 13 #[.slice sp m cap] w fun e w' => ∃ A c, e = .returned (.tuple #[.slice A ps.length c, .int .i64 0]) ∧ Pieces w' A c ps ∧ Below w.heap.size w w' := by
  refine (split_any w sp m cap l hm hb hmx).mono fun e w' ⟨hw, h⟩ => ?_
  rcases h with ⟨A, c, qs, rfl, hp, hq, hsq⟩ | ⟨_, hno⟩
  · obtain rfl := join_inj hsq hs (hq.trans hj.symm)
    exact ⟨A, c, rfl, hp, hw⟩
  · exact absurd hj (hno ps hs)
theorem split_bad (w : World) (sp : Option Addr) (m cap : Nat) (l : List Int) (hm : l.length = m) (hb : Bytes w sp cap l) (hmx : m ≤ 100000) (hno : ¬ ∃ ps, small ps ∧ join ps = l) :
    Calls Try.prog 13 #[.slice sp m cap] w fun e w' => e = .returned (.tuple #[.slice none 0 0, .int .i64 11]) ∧ Below w.heap.size w w' := by
  refine (split_any w sp m cap l hm hb hmx).mono fun e w' ⟨hw, h⟩ => ?_
  rcases h with ⟨A, c, qs, rfl, hp, hq, hsq⟩ | ⟨he, _⟩
  · exact absurd ⟨qs, hsq, hq⟩ hno
  · exact ⟨he, hw⟩
end Go.Proofs.Ythjcjjppjjpjfaa
