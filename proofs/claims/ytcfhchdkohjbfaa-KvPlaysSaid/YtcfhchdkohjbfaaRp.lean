/- Pools of rows in pages: the document's Append of the law's. -/
import Derived.Test.YtcfhchdkohjbfaaRi
import Derived.Test.YtcfhchdkohjbfaaRl
import Derived.Test.YtcfhchdkohjbfaaRm
import Derived.Test.YtcfhchdkohjbfaaRt
import Derived.Test.YtcfhchdkohjbfaaRo
namespace Go.Proofs.Ytcfhchdkohjbfaa.Kv
set_option maxRecDepth 100000
open Go.ChangeShapes Go.WideShapes Go.ChangeAt Go.RowKit Go.Proofs.Ytcfhchdkohjbfaa.Tn
theorem freeAt_lt {D : Doc Int} {a : Nat} (h : freeAt D = some a) : a < D.pages := by
  obtain ⟨c, h1, _⟩ := free1_lt h
  have := (List.getElem?_eq_some_iff.1 h1).1
  simpa [cntPg] using this
theorem append_no {w : World} {τ : Tags} {r : Nat} {D : Doc Int} (h : Ref w τ r D) (hl : D.rows.length ≤ 1024) (id x : Int) (hr : rowAt D id = none) :
    Calls Try.prog 35 #[.pointer (some ⟨r, 0, none⟩), .int .i64 id, .int .i64 x] w fun e w' => e = .returned (.int .i64 14) ∧ w = w' := by
  have hRt := right_ref h hl id
  rw [show rightD D id = false by unfold rightD; rw [hr]; rfl] at hRt
  have HRt := Lib.hid hRt
  clear h hRt hr
  go_enter Try.func35, Try.ntmps35
  go_wp2_with fail
  refine HRt.out.mono ?_
  rintro e w9 ⟨rfl, rfl⟩
  go_wp2
  go_ret
  exact ⟨rfl, rfl⟩
theorem append_ref {w : World} {τ : Tags} {r : Nat} {D : Doc Int} (h : Ref w τ r D) (hF : Fine D) (id x : Int) :
    Calls Try.prog 35 #[.pointer (some ⟨r, 0, none⟩), .int .i64 id, .int .i64 x] w fun e w' => e = .returned (.int .i64 (appendD D id x).1) ∧ ∃ τ', Ref w' τ' r (appendD D id x).2 ∧ Step Tag.theirs τ τ' w w' := by
  cases hr : rowAt D id with
  | none =>
    have he : appendD D id x = (14, D) := by unfold appendD; rw [hr]
    rw [he]
    refine (append_no h hF.low.1 id x hr).mono ?_
    rintro e w' ⟨rfl, rfl⟩
    exact ⟨rfl, τ, h, Step.refl _ _ _⟩
  | some q =>
    obtain ⟨L, P⟩ := q
    obtain ⟨k, rfl, hk⟩ := rowAt_yes hr
    have hap : appendD D (k : Int) x = match roomD D L P with
      | none => (16, D)
      | some P1 => (0, putRow D k (some (L ++ [x], P1))) := by unfold appendD; rw [hr]; rfl
    rw [hap]
    clear hap hr
    by_cases hA : 0 < L.length % D.size ∧ cnt D.rows (lastP P) = 1
    · rw [roomD_same hA.1 hA.2]
      exact append_room h hF.low k L P hk hA.1 hA.2 (hF.pos hk hA.1) hF.s0 hF.s1 x
    · have hw : 0 < L.length % D.size → 1 < cnt D.rows (lastP P) ∧ 0 < P.length := fun h0 => by
        have hp := hF.pos hk h0
        have h1 := one_le (lastP P) D.rows k _ hk
        have h2 : 0 < P.count (lastP P) := List.count_pos_iff.2 (List.mem_of_getElem? (lastP_at hp))
        simp only [one] at h1
        have h3 : cnt D.rows (lastP P) ≠ 1 := fun e => hA ⟨h0, e⟩
        exact ⟨by omega, hp⟩
      have hc : cnt D.rows (lastP P) ≤ 262144 := by
        have h1 := cntZ_low hF.low (lastP P : Int) D.rows.length
        rw [List.take_length, cntZ_nat] at h1
        have := hF.low.1
        omega
      rw [roomD_more hA]
      cases hf : freeAt D with
      | none =>
        refine (append_full h hF.low hF.p1 k L P hk hf _ rfl hc hw hF.s0 hF.s1 x).mono ?_
        rintro e w' ⟨rfl, rfl⟩
        exact ⟨rfl, τ, h, Step.refl _ _ _⟩
      | some a =>
        have ha : a < 256 := Nat.lt_of_lt_of_le (freeAt_lt hf) hF.p1
        by_cases h0 : 0 < L.length % D.size
        · rw [if_pos h0]
          exact append_half h hF.low hF.p1 k L P hk a hf ha _ rfl hc (hw h0).1 h0 (hw h0).2 hF.s0 hF.s1 x
        · rw [if_neg h0]
          exact append_next h hF.low hF.p1 k L P hk a hf ha (by omega) hF.s0 hF.s1 x
end Go.Proofs.Ytcfhchdkohjbfaa.Kv
