import Derived.Test.YtalmnmdileagbaaDoorFb
namespace Go.Proofs.YtalmnmdileagbaaDoor.Fx
open Go.ChangeShapes Go.WideShapes Go.ChangeAt Go.RowKit

set_option maxRecDepth 100000 in
set_option maxHeartbeats 4000000 in
theorem lit_any (w : World) (g : Nat) (n r : Int) (hc : w.cell? ⟨g, 0, none⟩ = some (.int .i64 n)) (hn0 : 0 ≤ n) (hn1 : n ≤ 2147483647) (hr0 : 0 ≤ r) (hr1 : r ≤ 16777216) (B : Bool) (hB : decide (n * 65536 < r * r) = B) :
    Calls Tryd.prog 31 #[.int .i64 r, .pointer (some ⟨g, 0, none⟩)] w fun e w' => e = .returned (.bool B) ∧ w = w' := by
  have m0 : 0 ≤ r * r := Int.mul_nonneg hr0 hr0
  have m1 : r * r ≤ 16777216 * 16777216 := Int.mul_le_mul hr1 hr1 hr0 (by omega)
  go_enter Tryd.func31, Tryd.ntmps31
  go_wp2
  go_ret
  exact ⟨rfl, rfl⟩
def Found (n : Int) (w : World) (e : Ending) (w' : World) : Prop := ∃ s : Int, e = .returned (.int .i64 s) ∧ IsRoot (n * 65536) (s - 1) ∧ w = w'
set_option maxRecDepth 100000 in
set_option maxHeartbeats 4000000 in
theorem search_any (w : World) (g : Nat) (n : Int) (hc : w.cell? ⟨g, 0, none⟩ = some (.int .i64 n)) (hn0 : 0 ≤ n) (hn1 : n ≤ 2147483647) :
    Calls Tryd.prog 30 #[.int .i64 16777216, .func (.func 31) #[] #[.pointer (some ⟨g, 0, none⟩)]] w (Found n w) := by
  have HC := Lib.hid hc
  clear hc
  go_enter Tryd.func30, Tryd.ntmps30
  go_wp2
  go_loop [5, 6] (fun lo hi => ∃ x y : Int, 0 ≤ x ∧ x ≤ y ∧ y ≤ 16777216 ∧ lo = .int .i64 x ∧ hi = .int .i64 y ∧ (x = 0 ∨ (x - 1) * (x - 1) ≤ n * 65536) ∧ n * 65536 < y * y) (fun lo hi => (intOf hi - intOf lo).toNat)
  case atStart => exact ⟨0, 16777216, by omega, by omega, by omega, rfl, rfl, Or.inl rfl, by omega⟩
  case round =>
    obtain ⟨x, y, h0, hxy, hy, rfl, rfl, hx, hm⟩ := hrel
    have HX := Lib.hid hx
    have HM := Lib.hid hm
    clear hx hm
    by_cases hlt : x < y
    · have hdt : decide (x < y) = true := by simpa using hlt
      obtain ⟨z, hz⟩ : ∃ z, (x + y) / 2 = z := ⟨_, rfl⟩
      have z0 : x ≤ z := by omega
      have z1 : z < y := by omega
      go_wp2_with fail
      clear hz
      by_cases hb : n * 65536 < z * z
      · have HB := Lib.hid hb
        refine (lit_any w g n z HC.out hn0 hn1 (by omega) (by omega) true (by simpa using hb)).mono ?_
        rintro e w' ⟨rfl, rfl⟩
        clear hb
        go_wp2
        go_round
        case rel => exact ⟨x, z, by omega, by omega, by omega, rfl, rfl, HX.out, HB.out⟩
        case measure => simp [intOf]; omega
      · have HB : Hid (z + 1 = 0 ∨ (z + 1 - 1) * (z + 1 - 1) ≤ n * 65536) := Lib.hid (Or.inr (by rw [show z + 1 - 1 = z by omega]; omega))
        refine (lit_any w g n z HC.out hn0 hn1 (by omega) (by omega) false (by simpa using hb)).mono ?_
        rintro e w' ⟨rfl, rfl⟩
        clear hb
        go_wp2
        go_round
        case rel => exact ⟨z + 1, y, by omega, by omega, by omega, rfl, rfl, HB.out, HM.out⟩
        case measure => simp [intOf]; omega
    · have hdf : decide (x < y) = false := by simpa using hlt
      go_wp2
      go_ret
      refine ⟨x, rfl, ?_, rfl⟩
      obtain rfl : x = y := by omega
      have h1 := HX.out
      have h2 := HM.out
      rcases h1 with rfl | h1
      · exfalso; omega
      · have hx1 : 1 ≤ x := by
          rcases Int.lt_or_le 0 x with h | h
          · exact h
          · exfalso
            obtain rfl : x = 0 := by omega
            omega
        exact ⟨by omega, h1, by rw [show x - 1 + 1 = x by omega]; exact h2⟩

/-! #### Root -/
def rootE (n : Int) : Int := if isN n ∧ 0 ≤ n then 0 else 10
/-- what Root answers -/
def RootR (n : Int) (r : Int) : Prop := (isN n ∧ 0 ≤ n ∧ IsRoot (n * 65536) r) ∨ (¬ (isN n ∧ 0 ≤ n) ∧ r = 0)
def RootEnd (n : Int) (w : World) (e : Ending) (w' : World) : Prop := ∃ r : Int, e = .returned (.tuple #[.int .i64 r, .int .i64 (rootE n)]) ∧ RootR n r ∧ Below w.heap.size w w'
theorem row1b (w : World) (n : Int) : Row ((w.alloc (.cells #[.int .i64 n] 3)).alloc (.cells #[.int .i64 n] 3)) (w.heap.size + 1) 1 [n] := by
  refine row1 _ n (0, 0) _ ?_
  have h := heap_alloc_new (w.alloc (.cells #[.int .i64 n] 3)) (.cells #[.int .i64 n] 3)
  rw [World.size_alloc] at h
  exact h
theorem cell_b (w : World) (n : Int) : ((w.alloc (.cells #[.int .i64 n] 3)).alloc (.cells #[.int .i64 n] 3)).cell? ⟨w.heap.size, 0, none⟩ = some (.int .i64 n) := by
  rw [cell_of_row _ _ _ #[.int .i64 n] 3 (0, 0) (by rw [Below.heap_alloc _ _ _ (by simp)]; exact heap_alloc_new _ _)]
  rfl
theorem below2 (w : World) (n : Int) : Below w.heap.size w ((w.alloc (.cells #[.int .i64 n] 3)).alloc (.cells #[.int .i64 n] 3)) := ((Below.refl _ _).alloc (Nat.le_refl _) _).alloc (by simp) _
set_option maxRecDepth 100000 in
set_option maxHeartbeats 4000000 in
theorem root_end (w : World) (n : Int) : Calls Tryd.prog 19 #[.int .i64 n] w (RootEnd n w) := by
  by_cases h : isN n
  · by_cases h0 : n < 0
    · have HE : Hid (rootE n = 10) := Lib.hid (by unfold rootE; rw [if_neg (by omega)])
      have HR : Hid (RootR n 0) := Lib.hid (Or.inr ⟨by omega, rfl⟩)
      have H := Lib.hid h
      have d0 : decide (n < 0) = true := by simpa using h0
      clear h
      go_enter Tryd.func19, Tryd.ntmps19
      go_wp2_with fail
      refine (check_ok _ _ _ _ [n] (row1b w n) (all1 H.out)).mono ?_
      rintro e w' ⟨rfl, rfl⟩
      go_wp2
      go_ret2
      exact ⟨0, by rw [HE.out]; rfl, HR.out, below2 w n⟩
    · have HE : Hid (rootE n = 0) := Lib.hid (by unfold rootE; rw [if_pos ⟨h, by omega⟩])
      have H := Lib.hid h
      obtain ⟨_, n1⟩ : -2147483648 ≤ n ∧ n ≤ 2147483647 := h
      have n0 : 0 ≤ n := by omega
      have d0 : decide (n < 0) = false := by simpa using h0
      clear h0
      go_enter Tryd.func19, Tryd.ntmps19
      go_wp2_with fail
      refine (check_ok _ _ _ _ [n] (row1b w n) (all1 H.out)).mono ?_
      rintro e w' ⟨rfl, rfl⟩
      have hc := cell_b w n
      have HB := Lib.hid (below2 w n)
      go_wp2_with fail
      refine (search_any _ _ n hc n0 n1).mono ?_
      rintro e w' ⟨s, rfl, hs, rfl⟩
      have HS : Hid (RootR n (s - 1)) := Lib.hid (Or.inl ⟨H.out, n0, hs⟩)
      have s1 := hs.1
      have s2 := hs.small n1
      clear hs
      go_wp2
      go_ret2
      exact ⟨s - 1, by rw [HE.out]; rfl, HS.out, HB.out⟩
  · have HE : Hid (rootE n = 10) := Lib.hid (by unfold rootE; rw [if_neg (fun hh => h hh.1)])
    have HR : Hid (RootR n 0) := Lib.hid (Or.inr ⟨fun hh => h hh.1, rfl⟩)
    have H := Lib.hid h
    clear h
    go_enter Tryd.func19, Tryd.ntmps19
    go_wp2_with fail
    refine (check_no _ _ _ _ [n] (row1b w n) 0 (by omega) H.out).mono ?_
    rintro e w' ⟨rfl, rfl⟩
    go_wp2
    go_ret2
    exact ⟨0, by rw [HE.out]; rfl, HR.out, below2 w n⟩
end Go.Proofs.YtalmnmdileagbaaDoor.Fx
