/- Steps: cells, their sizes, rows. -/
import Derived.Test.YtdffbjjiojheoaaSe
namespace Go.Proofs.Ytdffbjjiojheoaa.St
set_option maxRecDepth 100000
open Go.ChangeShapes Go.WideShapes Go.ChangeAt Go.RowKit Go.Shelf Go.Proofs.Ytdffbjjiojheoaa.Tn Go.Proofs.Ytdffbjjiojheoaa.Wg
theorem Cells_no (w : World) (q : Pl) (hq : q.chk ≠ 0) : Calls Try.prog 15 #[.agg q.cells] w fun e w' => e = .returned (.int .i64 0) ∧ Below w.heap.size w w' := by
  have HK := Lib.hid (fun W => pchk_any W q)
  have HM := Lib.hid (PlI.made w q)
  obtain ⟨E, hE⟩ : ∃ z, q.chk = z := ⟨_, rfl⟩
  rw [hE] at HK hq
  have n1 : (E == 0) = false := by simpa using hq
  have n2 : (E != 0) = true := by simpa using hq
  clear hE hq
  go_enter Try.func15, Try.ntmps15
  go_upto_region 1 with fail
  refine Mk.genM (Q := fun w => Code.wp _ _ _ _ w) _ (PlI w q) HM.out ?_
  clear HM
  intro w5 hx
  have HI := Lib.hid hx
  clear hx
  go_wp2_with (first
    | (refine Mk.wpList_vl rfl _ (exec_pl (.tmp 1) rfl w.heap.size rfl q HI.out.row) ?_)
    | (go_at_call 11; refine (HK.out _).mono ?_; rintro e w6 ⟨rfl, hb6⟩; have HI6 := Lib.hid (HI.out.later hb6); clear hb6))
  go_ret
  exact ⟨rfl, HI6.out.below⟩
theorem Cells_yes (w : World) (s : PlN) (hs : s.B) : Calls Try.prog 15 #[.agg s.q.cells] w fun e w' => e = .returned (.int .i64 (s.cells : Int)) ∧ Below w.heap.size w w' := by
  have HK := Lib.hid (fun W => pchk_any W s.q)
  have HP := Lib.hid (fun W => cells_any W s hs)
  have HM := Lib.hid (PlI.made w s.q)
  rw [pl_ok_iff hs] at HK
  clear hs
  go_enter Try.func15, Try.ntmps15
  go_upto_region 1 with fail
  refine Mk.genM (Q := fun w => Code.wp _ _ _ _ w) _ (PlI w s.q) HM.out ?_
  clear HM
  intro w5 hx
  have HI := Lib.hid hx
  clear hx
  go_upto_region 3 with (first
    | (refine Mk.wpList_vl rfl _ (exec_pl (.tmp 1) rfl w.heap.size rfl s.q HI.out.row) ?_)
    | (go_at_call 11; refine (HK.out _).mono ?_; rintro e w6 ⟨rfl, hb6⟩; have HI6 := Lib.hid (HI.out.later hb6); clear hb6))
  go_wp2_with (first
    | (refine Mk.wpList_vl rfl _ (exec_pl (.tmp 1) rfl w.heap.size rfl s.q HI6.out.row) ?_)
    | (go_at_call 40; refine (HP.out _).mono ?_; rintro e w7 ⟨rfl, hb7⟩; have HI7 := Lib.hid (HI6.out.later hb7); clear hb7))
  go_ret
  exact ⟨rfl, HI7.out.below⟩
set_option maxHeartbeats 4000000 in
theorem rows_any (w : World) (s : PlN) (hs : s.B) (k a : Nat) (h1 : 1 ≤ k) (h2 : k ≤ 23) (ha : a ≤ 64) : Calls Try.prog 63 #[.agg s.q.cells, .int .i64 (k : Int), .int .i64 (a : Int)] w fun e w' => e = .returned (.int .i64 (s.rows k a : Int)) ∧ Below w.heap.size w w' := by
  have hp := hs.p
  have hp2 : s.p ≤ 64 := by have := hs.pm; have := hs.x; omega
  have w1 : wrap64 ((a : Int) + 1) = (a : Int) + 1 := by unfold wrap64; omega
  have w1' : IntKind.i64.wrap ((a : Int) + 1) = (a : Int) + 1 := IntWalk.i64_in _ (by omega)
  have w2 : wrap64 ((s.p : Int) - 1) = (s.p : Int) - 1 := by unfold wrap64; omega
  have w2' : IntKind.i64.wrap ((s.p : Int) - 1) = (s.p : Int) - 1 := IntWalk.i64_in _ (by omega)
  clear hs hp hp2 ha
  obtain ⟨V, D, H, L, X, I, P, M, K⟩ := s
  dsimp only at w2 w2'
  unfold PlN.q PlN.c Pl.cells
  dsimp only
  have hk : k = 1 ∨ k = 2 ∨ k = 3 ∨ k = 4 ∨ k = 5 ∨ k = 6 ∨ k = 7 ∨ k = 8 ∨ k = 9 ∨ k = 10 ∨ k = 11 ∨ k = 12 ∨ k = 13 ∨ k = 14 ∨ k = 15 ∨ k = 16 ∨ k = 17 ∨ k = 18 ∨ k = 19 ∨ k = 20 ∨ k = 21 ∨ k = 22 ∨ k = 23 := by omega
  clear h1 h2
  rcases hk with rfl | rfl | rfl | rfl | rfl | rfl | rfl | rfl | rfl | rfl | rfl | rfl | rfl | rfl | rfl | rfl | rfl | rfl | rfl | rfl | rfl | rfl | rfl
  · have e : PlN.rows ⟨V, D, H, L, X, I, P, M, K⟩ ((1 : Nat) : Int) a = 1 := by unfold PlN.rows; simp
    rw [e]
    clear e
    go_enter Try.func63, Try.ntmps63
    go_wp2
    go_ret
    exact ⟨rfl, (Below.refl _ _).alloc (Nat.le_refl _) _⟩
  · have e : PlN.rows ⟨V, D, H, L, X, I, P, M, K⟩ ((2 : Nat) : Int) a = 1 := by unfold PlN.rows; simp
    rw [e]
    clear e
    go_enter Try.func63, Try.ntmps63
    go_wp2
    go_ret
    exact ⟨rfl, (Below.refl _ _).alloc (Nat.le_refl _) _⟩
  · have e : PlN.rows ⟨V, D, H, L, X, I, P, M, K⟩ ((3 : Nat) : Int) a = D := by unfold PlN.rows; simp
    rw [e]
    clear e
    go_enter Try.func63, Try.ntmps63
    go_wp2
    go_ret
    exact ⟨rfl, (Below.refl _ _).alloc (Nat.le_refl _) _⟩
  · have e : PlN.rows ⟨V, D, H, L, X, I, P, M, K⟩ ((4 : Nat) : Int) a = D := by unfold PlN.rows; simp
    rw [e]
    clear e
    go_enter Try.func63, Try.ntmps63
    go_wp2
    go_ret
    exact ⟨rfl, (Below.refl _ _).alloc (Nat.le_refl _) _⟩
  · have e : PlN.rows ⟨V, D, H, L, X, I, P, M, K⟩ ((5 : Nat) : Int) a = D := by unfold PlN.rows; simp
    rw [e]
    clear e
    go_enter Try.func63, Try.ntmps63
    go_wp2
    go_ret
    exact ⟨rfl, (Below.refl _ _).alloc (Nat.le_refl _) _⟩
  · have e : PlN.rows ⟨V, D, H, L, X, I, P, M, K⟩ ((6 : Nat) : Int) a = 1 := by unfold PlN.rows; simp
    rw [e]
    clear e
    go_enter Try.func63, Try.ntmps63
    go_wp2
    go_ret
    exact ⟨rfl, (Below.refl _ _).alloc (Nat.le_refl _) _⟩
  · have e : PlN.rows ⟨V, D, H, L, X, I, P, M, K⟩ ((7 : Nat) : Int) a = 1 := by unfold PlN.rows; simp
    rw [e]
    clear e
    go_enter Try.func63, Try.ntmps63
    go_wp2
    go_ret
    exact ⟨rfl, (Below.refl _ _).alloc (Nat.le_refl _) _⟩
  · have e : PlN.rows ⟨V, D, H, L, X, I, P, M, K⟩ ((8 : Nat) : Int) a = 1 := by unfold PlN.rows; simp
    rw [e]
    clear e
    go_enter Try.func63, Try.ntmps63
    go_wp2
    go_ret
    exact ⟨rfl, (Below.refl _ _).alloc (Nat.le_refl _) _⟩
  · have e : PlN.rows ⟨V, D, H, L, X, I, P, M, K⟩ ((9 : Nat) : Int) a = (a + 1) := by unfold PlN.rows; simp
    rw [e]
    clear e
    go_enter Try.func63, Try.ntmps63
    go_wp2
    go_ret
    exact ⟨rfl, (Below.refl _ _).alloc (Nat.le_refl _) _⟩
  · have e : PlN.rows ⟨V, D, H, L, X, I, P, M, K⟩ ((10 : Nat) : Int) a = 1 := by unfold PlN.rows; simp
    rw [e]
    clear e
    go_enter Try.func63, Try.ntmps63
    go_wp2
    go_ret
    exact ⟨rfl, (Below.refl _ _).alloc (Nat.le_refl _) _⟩
  · have e : PlN.rows ⟨V, D, H, L, X, I, P, M, K⟩ ((11 : Nat) : Int) a = 1 := by unfold PlN.rows; simp
    rw [e]
    clear e
    go_enter Try.func63, Try.ntmps63
    go_wp2
    go_ret
    exact ⟨rfl, (Below.refl _ _).alloc (Nat.le_refl _) _⟩
  · have e : PlN.rows ⟨V, D, H, L, X, I, P, M, K⟩ ((12 : Nat) : Int) a = D := by unfold PlN.rows; simp
    rw [e]
    clear e
    go_enter Try.func63, Try.ntmps63
    go_wp2
    go_ret
    exact ⟨rfl, (Below.refl _ _).alloc (Nat.le_refl _) _⟩
  · have e : PlN.rows ⟨V, D, H, L, X, I, P, M, K⟩ ((13 : Nat) : Int) a = 1 := by unfold PlN.rows; simp
    rw [e]
    clear e
    go_enter Try.func63, Try.ntmps63
    go_wp2
    go_ret
    exact ⟨rfl, (Below.refl _ _).alloc (Nat.le_refl _) _⟩
  · have e : PlN.rows ⟨V, D, H, L, X, I, P, M, K⟩ ((14 : Nat) : Int) a = 1 := by unfold PlN.rows; simp
    rw [e]
    clear e
    go_enter Try.func63, Try.ntmps63
    go_wp2
    go_ret
    exact ⟨rfl, (Below.refl _ _).alloc (Nat.le_refl _) _⟩
  · have e : PlN.rows ⟨V, D, H, L, X, I, P, M, K⟩ ((15 : Nat) : Int) a = I := by unfold PlN.rows; simp
    rw [e]
    clear e
    go_enter Try.func63, Try.ntmps63
    go_wp2
    go_ret
    exact ⟨rfl, (Below.refl _ _).alloc (Nat.le_refl _) _⟩
  · have e : PlN.rows ⟨V, D, H, L, X, I, P, M, K⟩ ((16 : Nat) : Int) a = 1 := by unfold PlN.rows; simp
    rw [e]
    clear e
    go_enter Try.func63, Try.ntmps63
    go_wp2
    go_ret
    exact ⟨rfl, (Below.refl _ _).alloc (Nat.le_refl _) _⟩
  · have e : PlN.rows ⟨V, D, H, L, X, I, P, M, K⟩ ((17 : Nat) : Int) a = I := by unfold PlN.rows; simp
    rw [e]
    clear e
    go_enter Try.func63, Try.ntmps63
    go_wp2
    go_ret
    exact ⟨rfl, (Below.refl _ _).alloc (Nat.le_refl _) _⟩
  · have e : PlN.rows ⟨V, D, H, L, X, I, P, M, K⟩ ((18 : Nat) : Int) a = 1 := by unfold PlN.rows; simp
    rw [e]
    clear e
    go_enter Try.func63, Try.ntmps63
    go_wp2
    go_ret
    exact ⟨rfl, (Below.refl _ _).alloc (Nat.le_refl _) _⟩
  · have e : PlN.rows ⟨V, D, H, L, X, I, P, M, K⟩ ((19 : Nat) : Int) a = D := by unfold PlN.rows; simp
    rw [e]
    clear e
    go_enter Try.func63, Try.ntmps63
    go_wp2
    go_ret
    exact ⟨rfl, (Below.refl _ _).alloc (Nat.le_refl _) _⟩
  · have e : PlN.rows ⟨V, D, H, L, X, I, P, M, K⟩ ((20 : Nat) : Int) a = 1 := by unfold PlN.rows; simp
    rw [e]
    clear e
    go_enter Try.func63, Try.ntmps63
    go_wp2
    go_ret
    exact ⟨rfl, (Below.refl _ _).alloc (Nat.le_refl _) _⟩
  · have e : PlN.rows ⟨V, D, H, L, X, I, P, M, K⟩ ((21 : Nat) : Int) a = 1 := by unfold PlN.rows; simp
    rw [e]
    clear e
    go_enter Try.func63, Try.ntmps63
    go_wp2
    go_ret
    exact ⟨rfl, (Below.refl _ _).alloc (Nat.le_refl _) _⟩
  · have e : PlN.rows ⟨V, D, H, L, X, I, P, M, K⟩ ((22 : Nat) : Int) a = V := by unfold PlN.rows; simp
    rw [e]
    clear e
    go_enter Try.func63, Try.ntmps63
    go_wp2
    go_ret
    exact ⟨rfl, (Below.refl _ _).alloc (Nat.le_refl _) _⟩
  · by_cases h : (a : Int) < (P : Int) - 1
    · have d1 : decide ((a : Int) < (P : Int) - 1) = true := by simpa using h
      have e : PlN.rows ⟨V, D, H, L, X, I, P, M, K⟩ ((23 : Nat) : Int) a = 0 := by unfold PlN.rows; rw [if_neg (by omega), if_neg (by omega), if_neg (by omega), if_neg (by omega), if_pos ⟨rfl, h⟩]
      rw [e]
      clear h e
      go_enter Try.func63, Try.ntmps63
      go_wp2
      go_ret
      exact ⟨rfl, (Below.refl _ _).alloc (Nat.le_refl _) _⟩
    · have d1 : decide ((a : Int) < (P : Int) - 1) = false := by simpa using h
      have e : PlN.rows ⟨V, D, H, L, X, I, P, M, K⟩ ((23 : Nat) : Int) a = 1 := by unfold PlN.rows; rw [if_neg (by omega), if_neg (by omega), if_neg (by omega), if_neg (by omega), if_neg (fun h2 => h h2.2)]
      rw [e]
      clear h e
      go_enter Try.func63, Try.ntmps63
      go_wp2
      go_ret
      exact ⟨rfl, (Below.refl _ _).alloc (Nat.le_refl _) _⟩
end Go.Proofs.Ytdffbjjiojheoaa.St
