import Derived.Test.YtmolkbmdfkeniaaDoorWa
import Derived.Test.YtmolkbmdfkeniaaDoorEl
namespace Go.Proofs.YtmolkbmdfkeniaaDoor.Dr
set_option maxRecDepth 100000
open Go.ChangeShapes Go.WideShapes Go.ChangeAt Go.RowKit Go.Proofs.YtmolkbmdfkeniaaDoor.Tn

/-! ### a call, as DrawSame does it -/
def doD (num : Int → Int) (c ask n : Int) (l : List Int) : Int × Nat × Int :=
  if ask = 0 then (if c = mostC then (0, 0, 17) else (num c, 1, 0)) else if ask = 1 then belowD num c n else if ask = 2 then chooseD num c l else pickD num c l n
theorem doD_fit (num : Int → Int) (c ask n : Int) (l : List Int) (hc : c ≤ mostC) : (doD num c ask n l).2.1 ≤ 64 ∧ c + (doD num c ask n l).2.1 ≤ mostC ∧ ((doD num c ask n l).2.2 ≠ 0 → (doD num c ask n l).1 = 0 ∧ (doD num c ask n l).2.1 = 0) := by
  unfold doD
  by_cases h0 : ask = 0
  · rw [if_pos h0]
    by_cases h : c = mostC
    · rw [if_pos h]; exact ⟨by simp, by simpa using hc, fun _ => ⟨rfl, rfl⟩⟩
    · rw [if_neg h]
      refine ⟨by simp, ?_, fun h => absurd rfl h⟩
      show c + ((1 : Nat) : Int) ≤ mostC
      omega
  rw [if_neg h0]
  by_cases h1 : ask = 1
  · rw [if_pos h1]; have := belowD_fit num c n hc; exact ⟨this.1, this.2.1, this.2.2.2⟩
  rw [if_neg h1]
  by_cases h2 : ask = 2
  · rw [if_pos h2]; have := chooseD_fit num c l hc; exact ⟨this.1, this.2.1, this.2.2.2⟩
  rw [if_neg h2]
  have := pickD_fit num c l n hc
  exact ⟨this.1, this.2.1, this.2.2.2⟩
set_option maxHeartbeats 4000000 in
theorem does_any {Pk : List Int → Prop} (T : DrawOK E8 numV St8 Pk) (w : World) (g : Nat) (s : List Int) (c ask n : Int) (sp : Option Addr) (cap N : Nat) (l : List Int) (he : E8 w) (h : St8 w g s c) (hN : l.length = N) (hl : Nums w sp cap l) (ha : Apart sp g l) (hp : Pk l) (n1 : -9223372036854775808 ≤ n) (n2 : n ≤ 9223372036854775807) :
    Calls Tryd.prog 23 #[ptV g, .agg #[.int .i64 ask, .int .i64 n, .slice sp N cap]] w fun e w' => e = .returned (two (doD (numV s) c ask n l).1 (doD (numV s) c ask n l).2.2) ∧ St8 w' g s (c + (doD (numV s) c ask n l).2.1) ∧ w.grownBy w' (some g) := by
  have hNm : N ≤ 9223372036854775807 := by rw [← hN]; exact hl.len
  have HB0 : Hid (Below w.heap.size w (w.alloc (.cells #[.int .i64 ask, .int .i64 n, .slice sp N cap] 48))) := Lib.hid ((Below.refl _ _).alloc (Nat.le_refl _) _)
  have HE0 := Lib.hid (he.below HB0.out)
  have HS0 := Lib.hid (h.later HB0.out)
  have HL0 := Lib.hid (hl.below HB0.out)
  have hrow : (w.alloc (.cells #[.int .i64 ask, .int .i64 n, .slice sp N cap] 48)).heap[w.heap.size]? = some (.cells #[.int .i64 ask, .int .i64 n, .slice sp N cap] 48 (0, 0)) := heap_alloc_new _ _
  have q0 : (w.alloc (.cells #[.int .i64 ask, .int .i64 n, .slice sp N cap] 48)).cell? ⟨w.heap.size, 0, none⟩ = some (.int .i64 ask) := by rw [cell_of_row _ _ _ _ _ _ hrow]; rfl
  have q1 : (w.alloc (.cells #[.int .i64 ask, .int .i64 n, .slice sp N cap] 48)).cell? ⟨w.heap.size, 1, none⟩ = some (.int .i64 n) := by rw [cell_of_row _ _ _ _ _ _ hrow]; rfl
  have q2 : (w.alloc (.cells #[.int .i64 ask, .int .i64 n, .slice sp N cap] 48)).cell? ⟨w.heap.size, 2, none⟩ = some (.slice sp N cap) := by rw [cell_of_row _ _ _ _ _ _ hrow]; rfl
  clear hrow
  unfold ptV doD
  by_cases h0 : ask = 0
  · rw [if_pos h0]
    have HC := Lib.hid (T.next _ g s c HE0.out HS0.out)
    have hR : (two (if c = mostC then 0 else numV s c) (if c = mostC then 17 else 0)) = two (if c = mostC then ((0, 0, 17) : Int × Nat × Int) else (numV s c, 1, 0)).1 (if c = mostC then ((0, 0, 17) : Int × Nat × Int) else (numV s c, 1, 0)).2.2 ∧ (if c = mostC then c else c + 1) = c + ((if c = mostC then ((0, 0, 17) : Int × Nat × Int) else (numV s c, 1, 0)).2.1 : Int) := by
      by_cases hm : c = mostC
      · simp [hm]
      · simp [hm]
    rw [hR.1, hR.2] at HC
    obtain ⟨R, hRR⟩ : ∃ R : Int × Nat × Int, (if c = mostC then ((0, 0, 17) : Int × Nat × Int) else (numV s c, 1, 0)) = R := ⟨_, rfl⟩
    rw [hRR] at HC ⊢
    clear hRR hR
    subst h0
    clear he h hN hl ha hp T
    go_enter Tryd.func23, Tryd.ntmps23
    go_wp2_with fail
    refine (HC.out).mono ?_
    rintro e w2 ⟨rfl, hs2, hg2⟩
    have HS2 := Lib.hid hs2
    have HG2 := Lib.hid (grown_trans (grown_of HB0.out) hg2)
    clear hs2 hg2
    unfold two
    go_wp2
    go_ret2
    exact ⟨rfl, HS2.out, HG2.out⟩
  rw [if_neg h0]
  have e0 : (ask == 0) = false := by simpa using h0
  by_cases h1 : ask = 1
  · rw [if_pos h1]
    have HC := Lib.hid (T.below _ g s c n HE0.out HS0.out n1 n2)
    obtain ⟨R, hRR⟩ : ∃ R, belowD (numV s) c n = R := ⟨_, rfl⟩
    rw [hRR] at HC ⊢
    clear hRR
    subst h1
    clear he h hN hl ha hp T
    go_enter Tryd.func23, Tryd.ntmps23
    go_wp2_with fail
    refine (HC.out).mono ?_
    rintro e w2 ⟨rfl, hs2, hg2⟩
    have HS2 := Lib.hid hs2
    have HG2 := Lib.hid (grown_trans (grown_of HB0.out) hg2)
    clear hs2 hg2
    unfold two
    go_wp2
    go_ret2
    exact ⟨rfl, HS2.out, HG2.out⟩
  rw [if_neg h1]
  have e1 : (ask == 1) = false := by simpa using h1
  by_cases h2 : ask = 2
  · rw [if_pos h2]
    have HC := T.choose _ g s c sp cap l HE0.out HS0.out HL0.out ha
    rw [hN] at HC
    have HC := Lib.hid HC
    obtain ⟨R, hRR⟩ : ∃ R, chooseD (numV s) c l = R := ⟨_, rfl⟩
    rw [hRR] at HC ⊢
    clear hRR
    subst h2
    clear he h hN hl ha hp T
    go_enter Tryd.func23, Tryd.ntmps23
    go_wp2_with fail
    refine (HC.out).mono ?_
    rintro e w2 ⟨rfl, hs2, hg2⟩
    have HS2 := Lib.hid hs2
    have HG2 := Lib.hid (grown_trans (grown_of HB0.out) hg2)
    clear hs2 hg2
    unfold two
    go_wp2
    go_ret2
    exact ⟨rfl, HS2.out, HG2.out⟩
  rw [if_neg h2]
  have e2 : (ask == 2) = false := by simpa using h2
  have HC := T.pick _ g s c sp cap l n HE0.out HS0.out HL0.out hp n1 n2
  rw [hN] at HC
  have HC := Lib.hid HC
  obtain ⟨R, hRR⟩ : ∃ R, pickD (numV s) c l n = R := ⟨_, rfl⟩
  rw [hRR] at HC ⊢
  clear hRR h0 h1 h2
  clear he h hN hl ha hp T
  go_enter Tryd.func23, Tryd.ntmps23
  go_wp2_with fail
  refine (HC.out).mono ?_
  rintro e w2 ⟨rfl, hs2, hg2⟩
  have HS2 := Lib.hid hs2
  have HG2 := Lib.hid (grown_trans (grown_of HB0.out) hg2)
  clear hs2 hg2
  unfold two
  go_wp2
  go_ret2
  exact ⟨rfl, HS2.out, HG2.out⟩
end Go.Proofs.YtmolkbmdfkeniaaDoor.Dr
