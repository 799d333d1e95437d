import Derived.Test.YtdmgkapclgfljaaWk
namespace Go.Proofs.Ytdmgkapclgfljaa.Wg
set_option maxRecDepth 100000
open Go.ChangeShapes Go.WideShapes Go.ChangeAt Go.RowKit Go.Shelf Go.Proofs.Ytdmgkapclgfljaa.Tn

/-! ### the document's Check of sizes -/
structure Rk (w : World) (c : Cfg) (W : World) : Prop where
  below : Below w.heap.size w W
  sz : W.heap[w.heap.size]? = some (.cells c.cells 27 (0, 0))
  mo : W.heap[w.heap.size + 1]? = some (.cells #[.int .i64 512, .int .i64 64, .int .i64 8, .int .i64 4, .int .i64 64, .int .i64 64] 26 (0, 0))
theorem Rk.made (w : World) (c : Cfg) : Rk w c ((w.alloc (.cells c.cells 27)).alloc (.cells #[.int .i64 512, .int .i64 64, .int .i64 8, .int .i64 4, .int .i64 64, .int .i64 64] 26)) := by
  refine ⟨((Below.refl _ _).alloc (Nat.le_refl _) _).alloc (by simp) _, ?_, ?_⟩
  · rw [heap_alloc_old _ _ (by simp)]
    exact heap_alloc_new _ _
  · have := heap_alloc_new (w.alloc (.cells c.cells 27)) (.cells #[.int .i64 512, .int .i64 64, .int .i64 8, .int .i64 4, .int .i64 64, .int .i64 64] 26)
    rwa [World.size_alloc] at this
theorem Rk.drew {w : World} {c : Cfg} {W : World} (h : Rk w c W) (n : Nat) : Rk w c (W.drewN n) := ⟨h.below.trans ⟨rfl, rfl, rfl, Nat.le_refl _, fun _ _ => rfl⟩, h.sz, h.mo⟩
theorem sz_cells {W : World} {b : Nat} {c : Cfg} {t : TypeId} (h : W.heap[b]? = some (.cells c.cells t (0, 0))) :
    W.cell? ⟨b, 0, none⟩ = some (.int .i64 c.v) ∧ W.cell? ⟨b, 1, none⟩ = some (.int .i64 c.d) ∧ W.cell? ⟨b, 2, none⟩ = some (.int .i64 c.h) ∧ W.cell? ⟨b, 3, none⟩ = some (.int .i64 c.l) ∧ W.cell? ⟨b, 4, none⟩ = some (.int .i64 c.x) ∧ W.cell? ⟨b, 5, none⟩ = some (.int .i64 c.i) := by
  refine ⟨?_, ?_, ?_, ?_, ?_, ?_⟩ <;> · rw [cell_of_row _ _ _ _ _ _ h]; rfl
set_option maxHeartbeats 8000000 in
theorem refChk_any (w : World) (c : Cfg) : Calls Try.prog 10 #[.agg c.cells] w fun e w' => e = .returned (.int .i64 c.chk) ∧ Below w.heap.size w w' := by
  have HB := Lib.hid (Rk.made w c)
  unfold Cfg.cells at HB ⊢
  go_enter Try.func10, Try.ntmps10
  go_upto_region 2 with fail
  refine gen_w (Q := fun w => Code.wp _ _ _ _ w) _ (Rk w c) HB.out ?_
  clear HB
  intro w1 hx
  have HX := Lib.hid hx
  clear hx
  go_wp2
  go_loopw [4] (fun iv wr => ∃ k : Nat, k ≤ 6 ∧ iv = .int .i64 k ∧ (∀ j, j < k → c.okAt j) ∧ Rk w c wr) (fun iv _ => 6 - (intOf iv).toNat)
  case atStart => exact ⟨0, by omega, rfl, fun j hj => by omega, HX.out⟩
  case round =>
    clear HX
    obtain ⟨k, hk, rfl, hok, hx⟩ := hrel
    have HOk := Lib.hid hok
    have HX := Lib.hid hx
    obtain ⟨c0, c1, c2, c3, c4, c5⟩ := sz_cells hx.sz
    have m0 : wr.cell? ⟨w.heap.size + 1, 0, none⟩ = some (.int .i64 512) := by rw [cell_of_row _ _ _ _ _ _ hx.mo]; rfl
    have m1 : wr.cell? ⟨w.heap.size + 1, 1, none⟩ = some (.int .i64 64) := by rw [cell_of_row _ _ _ _ _ _ hx.mo]; rfl
    have m2 : wr.cell? ⟨w.heap.size + 1, 2, none⟩ = some (.int .i64 8) := by rw [cell_of_row _ _ _ _ _ _ hx.mo]; rfl
    have m3 : wr.cell? ⟨w.heap.size + 1, 3, none⟩ = some (.int .i64 4) := by rw [cell_of_row _ _ _ _ _ _ hx.mo]; rfl
    have m4 : wr.cell? ⟨w.heap.size + 1, 4, none⟩ = some (.int .i64 64) := by rw [cell_of_row _ _ _ _ _ _ hx.mo]; rfl
    have m5 : wr.cell? ⟨w.heap.size + 1, 5, none⟩ = some (.int .i64 64) := by rw [cell_of_row _ _ _ _ _ _ hx.mo]; rfl
    clear hok hx
    rcases k with _ | _ | _ | _ | _ | _ | k
    · clear hk
      have ek : ((0 : Nat) : Int) = 0 := rfl
      rw [ek]
      clear ek
      by_cases h1 : c.v < 1
      · have d1 : decide (c.v < 1) = true := by simpa using h1
        have HE : Hid (c.chk = 10) := Lib.hid (Cfg.bad_of (k := 0) (by omega) (by simp only [Cfg.okAt]; omega))
        clear h1
        go_wp2
        go_quiet (fail)
        go_wp2
        go_ret
        exact ⟨by rw [HE.out]; rfl, (HX.out.drew _).below⟩
      · have d1 : decide (c.v < 1) = false := by simpa using h1
        by_cases h2 : 512 < c.v
        · have d2 : decide (512 < c.v) = true := by simpa using h2
          have HE : Hid (c.chk = 10) := Lib.hid (Cfg.bad_of (k := 0) (by omega) (by simp only [Cfg.okAt]; omega))
          clear h1 h2
          go_wp2
          go_quiet (fail)
          go_wp2
          go_ret
          exact ⟨by rw [HE.out]; rfl, (HX.out.drew _).below⟩
        · have d2 : decide (512 < c.v) = false := by simpa using h2
          have HO : Hid (c.okAt 0) := Lib.hid (by simp only [Cfg.okAt]; omega)
          clear h1 h2
          go_wp2
          go_quiet (fail)
          go_wp2
          go_roundw
          case rel => exact ⟨1, by omega, by go_num, fun j hj => by (rcases Nat.lt_or_ge j 0 with h | h; exact HOk.out j (by omega); obtain rfl : j = 0 := (by omega); exact HO.out), HX.out.drew _⟩
          case measure => simp [intOf]
    · clear hk
      simp only [Nat.zero_add]
      have ek : ((1 : Nat) : Int) = 1 := rfl
      rw [ek]
      clear ek
      by_cases h1 : c.d < 1
      · have d1 : decide (c.d < 1) = true := by simpa using h1
        have HE : Hid (c.chk = 10) := Lib.hid (Cfg.bad_of (k := 1) (by omega) (by simp only [Cfg.okAt]; omega))
        clear h1
        go_wp2
        go_quiet (fail)
        go_wp2
        go_ret
        exact ⟨by rw [HE.out]; rfl, (HX.out.drew _).below⟩
      · have d1 : decide (c.d < 1) = false := by simpa using h1
        by_cases h2 : 64 < c.d
        · have d2 : decide (64 < c.d) = true := by simpa using h2
          have HE : Hid (c.chk = 10) := Lib.hid (Cfg.bad_of (k := 1) (by omega) (by simp only [Cfg.okAt]; omega))
          clear h1 h2
          go_wp2
          go_quiet (fail)
          go_wp2
          go_ret
          exact ⟨by rw [HE.out]; rfl, (HX.out.drew _).below⟩
        · have d2 : decide (64 < c.d) = false := by simpa using h2
          by_cases h3 : c.d < 2
          · have d3 : decide (c.d < 2) = true := by simpa using h3
            have HE : Hid (c.chk = 10) := Lib.hid (Cfg.bad_of (k := 1) (by omega) (by simp only [Cfg.okAt]; omega))
            clear h1 h2 h3
            go_wp2
            go_quiet (fail)
            go_wp2
            go_ret
            exact ⟨by rw [HE.out]; rfl, (HX.out.drew _).below⟩
          · have d3 : decide (c.d < 2) = false := by simpa using h3
            have HO : Hid (c.okAt 1) := Lib.hid (by simp only [Cfg.okAt]; omega)
            clear h1 h2 h3
            go_wp2
            go_quiet (fail)
            go_wp2
            go_roundw
            case rel => exact ⟨2, by omega, by go_num, fun j hj => by (rcases Nat.lt_or_ge j 1 with h | h; exact HOk.out j (by omega); obtain rfl : j = 1 := (by omega); exact HO.out), HX.out.drew _⟩
            case measure => simp [intOf]
    · clear hk
      simp only [Nat.reduceAdd, Nat.zero_add]
      have ek : ((2 : Nat) : Int) = 2 := rfl
      rw [ek]
      clear ek
      by_cases h1 : c.h < 1
      · have d1 : decide (c.h < 1) = true := by simpa using h1
        have HE : Hid (c.chk = 10) := Lib.hid (Cfg.bad_of (k := 2) (by omega) (by simp only [Cfg.okAt]; omega))
        clear h1
        go_wp2
        go_quiet (fail)
        go_wp2
        go_ret
        exact ⟨by rw [HE.out]; rfl, (HX.out.drew _).below⟩
      · have d1 : decide (c.h < 1) = false := by simpa using h1
        by_cases h2 : 8 < c.h
        · have d2 : decide (8 < c.h) = true := by simpa using h2
          have HE : Hid (c.chk = 10) := Lib.hid (Cfg.bad_of (k := 2) (by omega) (by simp only [Cfg.okAt]; omega))
          clear h1 h2
          go_wp2
          go_quiet (fail)
          go_wp2
          go_ret
          exact ⟨by rw [HE.out]; rfl, (HX.out.drew _).below⟩
        · have d2 : decide (8 < c.h) = false := by simpa using h2
          have HO : Hid (c.okAt 2) := Lib.hid (by simp only [Cfg.okAt]; omega)
          clear h1 h2
          go_wp2
          go_quiet (fail)
          go_wp2
          go_roundw
          case rel => exact ⟨3, by omega, by go_num, fun j hj => by (rcases Nat.lt_or_ge j 2 with h | h; exact HOk.out j (by omega); obtain rfl : j = 2 := (by omega); exact HO.out), HX.out.drew _⟩
          case measure => simp [intOf]
    · clear hk
      simp only [Nat.reduceAdd, Nat.zero_add]
      have ek : ((3 : Nat) : Int) = 3 := rfl
      rw [ek]
      clear ek
      by_cases h1 : c.l < 1
      · have d1 : decide (c.l < 1) = true := by simpa using h1
        have HE : Hid (c.chk = 10) := Lib.hid (Cfg.bad_of (k := 3) (by omega) (by simp only [Cfg.okAt]; omega))
        clear h1
        go_wp2
        go_quiet (fail)
        go_wp2
        go_ret
        exact ⟨by rw [HE.out]; rfl, (HX.out.drew _).below⟩
      · have d1 : decide (c.l < 1) = false := by simpa using h1
        by_cases h2 : 4 < c.l
        · have d2 : decide (4 < c.l) = true := by simpa using h2
          have HE : Hid (c.chk = 10) := Lib.hid (Cfg.bad_of (k := 3) (by omega) (by simp only [Cfg.okAt]; omega))
          clear h1 h2
          go_wp2
          go_quiet (fail)
          go_wp2
          go_ret
          exact ⟨by rw [HE.out]; rfl, (HX.out.drew _).below⟩
        · have d2 : decide (4 < c.l) = false := by simpa using h2
          have HO : Hid (c.okAt 3) := Lib.hid (by simp only [Cfg.okAt]; omega)
          clear h1 h2
          go_wp2
          go_quiet (fail)
          go_wp2
          go_roundw
          case rel => exact ⟨4, by omega, by go_num, fun j hj => by (rcases Nat.lt_or_ge j 3 with h | h; exact HOk.out j (by omega); obtain rfl : j = 3 := (by omega); exact HO.out), HX.out.drew _⟩
          case measure => simp [intOf]
    · clear hk
      simp only [Nat.reduceAdd, Nat.zero_add]
      have ek : ((4 : Nat) : Int) = 4 := rfl
      rw [ek]
      clear ek
      by_cases h1 : c.x < 1
      · have d1 : decide (c.x < 1) = true := by simpa using h1
        have HE : Hid (c.chk = 10) := Lib.hid (Cfg.bad_of (k := 4) (by omega) (by simp only [Cfg.okAt]; omega))
        clear h1
        go_wp2
        go_quiet (fail)
        go_wp2
        go_ret
        exact ⟨by rw [HE.out]; rfl, (HX.out.drew _).below⟩
      · have d1 : decide (c.x < 1) = false := by simpa using h1
        by_cases h2 : 64 < c.x
        · have d2 : decide (64 < c.x) = true := by simpa using h2
          have HE : Hid (c.chk = 10) := Lib.hid (Cfg.bad_of (k := 4) (by omega) (by simp only [Cfg.okAt]; omega))
          clear h1 h2
          go_wp2
          go_quiet (fail)
          go_wp2
          go_ret
          exact ⟨by rw [HE.out]; rfl, (HX.out.drew _).below⟩
        · have d2 : decide (64 < c.x) = false := by simpa using h2
          have HO : Hid (c.okAt 4) := Lib.hid (by simp only [Cfg.okAt]; omega)
          clear h1 h2
          go_wp2
          go_quiet (fail)
          go_wp2
          go_roundw
          case rel => exact ⟨5, by omega, by go_num, fun j hj => by (rcases Nat.lt_or_ge j 4 with h | h; exact HOk.out j (by omega); obtain rfl : j = 4 := (by omega); exact HO.out), HX.out.drew _⟩
          case measure => simp [intOf]
    · clear hk
      simp only [Nat.reduceAdd, Nat.zero_add]
      have ek : ((5 : Nat) : Int) = 5 := rfl
      rw [ek]
      clear ek
      by_cases h1 : c.i < 1
      · have d1 : decide (c.i < 1) = true := by simpa using h1
        have HE : Hid (c.chk = 10) := Lib.hid (Cfg.bad_of (k := 5) (by omega) (by simp only [Cfg.okAt]; omega))
        clear h1
        go_wp2
        go_quiet (fail)
        go_wp2
        go_ret
        exact ⟨by rw [HE.out]; rfl, (HX.out.drew _).below⟩
      · have d1 : decide (c.i < 1) = false := by simpa using h1
        by_cases h2 : 64 < c.i
        · have d2 : decide (64 < c.i) = true := by simpa using h2
          have HE : Hid (c.chk = 10) := Lib.hid (Cfg.bad_of (k := 5) (by omega) (by simp only [Cfg.okAt]; omega))
          clear h1 h2
          go_wp2
          go_quiet (fail)
          go_wp2
          go_ret
          exact ⟨by rw [HE.out]; rfl, (HX.out.drew _).below⟩
        · have d2 : decide (64 < c.i) = false := by simpa using h2
          have HO : Hid (c.okAt 5) := Lib.hid (by simp only [Cfg.okAt]; omega)
          clear h1 h2
          go_wp2
          go_quiet (fail)
          go_wp2
          go_roundw
          case rel => exact ⟨6, by omega, by go_num, fun j hj => by (rcases Nat.lt_or_ge j 5 with h | h; exact HOk.out j (by omega); obtain rfl : j = 5 := (by omega); exact HO.out), HX.out.drew _⟩
          case measure => simp [intOf]
    · obtain rfl : k = 0 := by omega
      simp only [Nat.reduceAdd, Nat.zero_add]
      have ek : ((6 : Nat) : Int) = 6 := rfl
      rw [ek]
      clear ek hk m0 m1 m2 m3 m4 m5
      obtain ⟨hO, hE⟩ := Cfg.ok_all (c := c) (fun j hj => HOk.out j (by omega))
      have o1 := hO.d
      have o2 := hO.h
      have HE := Lib.hid hE
      have w1 : IntKind.i64.wrap (2 * c.h) = 2 * c.h := IntWalk.i64_in _ (by omega)
      have hz : (2 * c.h == 0) = false := by simp; omega
      have hz2 : (2 * c.h = 0) = False := by simp; omega
      have hz3 : c.h ≠ 0 := by omega
      have ht : c.d.tmod (2 * c.h) = c.d % (2 * c.h) := Int.tmod_eq_emod_of_nonneg (by omega)
      have hp := Int.emod_nonneg c.d (show 2 * c.h ≠ 0 by omega)
      have hq := Int.emod_lt_of_pos c.d (show 0 < 2 * c.h by omega)
      have w2 : IntKind.i64.wrap (c.d.tmod (2 * c.h)) = c.d.tmod (2 * c.h) := IntWalk.i64_in _ (by rw [ht]; omega)
      obtain ⟨R, hR⟩ : ∃ R, c.d.tmod (2 * c.h) = R := ⟨_, rfl⟩
      rw [hR] at HE w2
      clear hO hE ht hp hq o1 o2
      by_cases h0 : R = 0
      · subst h0
        have HE2 : Hid (c.chk = 0) := Lib.hid (by rw [HE.out]; rfl)
        clear HE
        go_wp2
        go_ret
        exact ⟨by rw [HE2.out]; rfl, HX.out.below⟩
      · have h1 : (R == 0) = false := by simpa using h0
        have h2 : (R != 0) = true := by simpa using h0
        have HE2 : Hid (c.chk = 13) := Lib.hid (by rw [HE.out, if_pos h0])
        clear HE h0
        go_wp2
        go_ret
        exact ⟨by rw [HE2.out]; rfl, HX.out.below⟩
end Go.Proofs.Ytdmgkapclgfljaa.Wg
