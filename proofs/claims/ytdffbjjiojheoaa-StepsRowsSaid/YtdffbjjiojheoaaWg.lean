import Derived.Test.YtdffbjjiojheoaaWf
namespace Go.Proofs.Ytdffbjjiojheoaa.Wg
set_option maxRecDepth 100000
open Go.ChangeShapes Go.WideShapes Go.ChangeAt Go.RowKit Go.Shelf Go.Proofs.Ytdffbjjiojheoaa.Tn

/-! ### sizes: Check -/
/-- a size that may be, by its place -/
def Cfg.okAt (c : Cfg) : Nat → Prop
  | 0 => 1 ≤ c.v ∧ c.v ≤ 512
  | 1 => 2 ≤ c.d ∧ c.d ≤ 64
  | 2 => 1 ≤ c.h ∧ c.h ≤ 8
  | 3 => 1 ≤ c.l ∧ c.l ≤ 4
  | 4 => 1 ≤ c.x ∧ c.x ≤ 64
  | 5 => 1 ≤ c.i ∧ c.i ≤ 64
  | _ => True
theorem Cfg.bad_of {c : Cfg} {k : Nat} (hk : k < 6) (h : ¬ c.okAt k) : c.chk = 10 := by
  have hb : c.bad := by
    unfold Cfg.bad
    rcases k with _ | _ | _ | _ | _ | _ | k <;> simp only [Cfg.okAt] at h <;> omega
  unfold Cfg.chk
  rw [if_pos hb]
theorem Cfg.ok_all {c : Cfg} (h : ∀ k, k < 6 → c.okAt k) : c.Ok ∧ c.chk = if c.d.tmod (2 * c.h) ≠ 0 then 13 else 0 := by
  have h0 := h 0 (by omega); have h1 := h 1 (by omega); have h2 := h 2 (by omega); have h3 := h 3 (by omega); have h4 := h 4 (by omega); have h5 := h 5 (by omega)
  simp only [Cfg.okAt] at h0 h1 h2 h3 h4 h5
  refine ⟨⟨h0, h1, h2, h3, h4, h5⟩, ?_⟩
  unfold Cfg.chk
  rw [if_neg]
  unfold Cfg.bad
  omega
theorem wpList_index {P : Program} {ops : Array Oper} {rest : List Oper} {o : Oper} {a : Act} {w : World} {Q : Exit → Act → World → Prop} (hgd : o.guard = none) (t : TypeId) (x y : Operand) (_ho : o.op = .index t x y) (v : Value)
    (h : (execOp a.eval o).run P w = .ok (.value v) w) (k : wpList P ops Q rest (a.put o.dst v) w) : wpList P ops Q (o :: rest) a w := by
  refine wpList_plain hgd fun K hK => ?_
  unfold Oper.wp
  rw [h]
  exact hK _ _ k
/-- what stands while sizes are gone through -/
structure Ck (w : World) (c : Cfg) (W : World) : Prop where
  below : Below w.heap.size w W
  cf : W.heap[w.heap.size]? = some (.cells c.cells 31 (0, 0))
theorem Ck.made (w : World) (c : Cfg) : Ck w c (w.alloc (.cells c.cells 31)) := ⟨(Below.refl _ _).alloc (Nat.le_refl _) _, heap_alloc_new _ _⟩
theorem Ck.later {w : World} {c : Cfg} {W W' : World} (h : Ck w c W) (hb : Below W.heap.size W W') : Ck w c W' :=
  ⟨h.below.trans (hb.mono h.below.size), (hb.block _ (Array.getElem?_eq_some_iff.1 h.cf).1).trans h.cf⟩
set_option maxHeartbeats 8000000 in
theorem chk_any (w : World) (c : Cfg) : Calls Try.prog 37 #[.agg c.cells] w fun e w' => e = .returned (.int .i64 c.chk) ∧ Below w.heap.size w w' := by
  have HB := Lib.hid (Ck.made w c)
  unfold Cfg.cells at HB ⊢
  go_enter Try.func37, Try.ntmps37
  go_upto_region 1 with fail
  refine gen_w (Q := fun w => Code.wp _ _ _ _ w) _ (Ck w c) HB.out ?_
  clear HB
  intro w1 hx
  have HX := Lib.hid hx
  obtain ⟨c0, c1, c2, c3, c4, c5⟩ := cfg_cells hx.cf
  clear hx
  go_wp2
  go_loopw [24] (fun iv wr => ∃ k : Nat, k ≤ 6 ∧ iv = .int .i64 k ∧ (∀ j, j < k → c.okAt j) ∧ Ck w c wr) (fun iv _ => 6 - (intOf iv).toNat)
  case atStart => exact ⟨0, by omega, rfl, fun j hj => by omega, HX.out⟩
  case round =>
    clear HX
    obtain ⟨k, hk, rfl, hok, hx⟩ := hrel
    have HOk := Lib.hid hok
    have HX := Lib.hid hx
    clear hok hx
    rcases k with _ | _ | _ | _ | _ | _ | k
    · clear hk
      have ek : ((0 : Nat) : Int) = 0 := rfl
      rw [ek]
      clear ek
      by_cases h1 : c.v < 1
      · have d1 : decide (c.v < 1) = true := by simpa using h1
        have HE : Hid (c.chk = 10) := Lib.hid (Cfg.bad_of (k := 0) (by omega) (by simp only [Cfg.okAt]; omega))
        clear h1
        go_wp2_with (refine wpList_index rfl 121 (.tmp 23) (.tmp 24) rfl (.agg #[.int .i64 c.v, .int .i64 1, .int .i64 512]) (by kernel_rfl) ?_)
        go_ret
        exact ⟨by rw [HE.out]; rfl, HX.out.below.alloc HX.out.below.size _⟩
      · have d1 : decide (c.v < 1) = false := by simpa using h1
        by_cases h2 : 512 < c.v
        · have d2 : decide (512 < c.v) = true := by simpa using h2
          have HE : Hid (c.chk = 10) := Lib.hid (Cfg.bad_of (k := 0) (by omega) (by simp only [Cfg.okAt]; omega))
          clear h1 h2
          go_wp2_with (refine wpList_index rfl 121 (.tmp 23) (.tmp 24) rfl (.agg #[.int .i64 c.v, .int .i64 1, .int .i64 512]) (by kernel_rfl) ?_)
          go_ret
          exact ⟨by rw [HE.out]; rfl, HX.out.below.alloc HX.out.below.size _⟩
        · have d2 : decide (512 < c.v) = false := by simpa using h2
          have HO : Hid (c.okAt 0) := Lib.hid (by simp only [Cfg.okAt]; omega)
          clear h1 h2
          go_wp2_with (refine wpList_index rfl 121 (.tmp 23) (.tmp 24) rfl (.agg #[.int .i64 c.v, .int .i64 1, .int .i64 512]) (by kernel_rfl) ?_)
          go_roundw
          case rel => exact ⟨1, by omega, by go_num, fun j hj => by (rcases Nat.lt_or_ge j 0 with h | h; exact HOk.out j (by omega); obtain rfl : j = 0 := (by omega); exact HO.out), HX.out.later ((Below.refl _ _).alloc (Nat.le_refl _) _)⟩
          case measure => simp [intOf]
    · clear hk
      simp only [Nat.zero_add]
      have ek : ((1 : Nat) : Int) = 1 := rfl
      rw [ek]
      clear ek
      by_cases h1 : c.d < 2
      · have d1 : decide (c.d < 2) = true := by simpa using h1
        have HE : Hid (c.chk = 10) := Lib.hid (Cfg.bad_of (k := 1) (by omega) (by simp only [Cfg.okAt]; omega))
        clear h1
        go_wp2_with (refine wpList_index rfl 121 (.tmp 23) (.tmp 24) rfl (.agg #[.int .i64 c.d, .int .i64 2, .int .i64 64]) (by kernel_rfl) ?_)
        go_ret
        exact ⟨by rw [HE.out]; rfl, HX.out.below.alloc HX.out.below.size _⟩
      · have d1 : decide (c.d < 2) = false := by simpa using h1
        by_cases h2 : 64 < c.d
        · have d2 : decide (64 < c.d) = true := by simpa using h2
          have HE : Hid (c.chk = 10) := Lib.hid (Cfg.bad_of (k := 1) (by omega) (by simp only [Cfg.okAt]; omega))
          clear h1 h2
          go_wp2_with (refine wpList_index rfl 121 (.tmp 23) (.tmp 24) rfl (.agg #[.int .i64 c.d, .int .i64 2, .int .i64 64]) (by kernel_rfl) ?_)
          go_ret
          exact ⟨by rw [HE.out]; rfl, HX.out.below.alloc HX.out.below.size _⟩
        · have d2 : decide (64 < c.d) = false := by simpa using h2
          have HO : Hid (c.okAt 1) := Lib.hid (by simp only [Cfg.okAt]; omega)
          clear h1 h2
          go_wp2_with (refine wpList_index rfl 121 (.tmp 23) (.tmp 24) rfl (.agg #[.int .i64 c.d, .int .i64 2, .int .i64 64]) (by kernel_rfl) ?_)
          go_roundw
          case rel => exact ⟨2, by omega, by go_num, fun j hj => by (rcases Nat.lt_or_ge j 1 with h | h; exact HOk.out j (by omega); obtain rfl : j = 1 := (by omega); exact HO.out), HX.out.later ((Below.refl _ _).alloc (Nat.le_refl _) _)⟩
          case measure => simp [intOf]
    · clear hk
      simp only [Nat.reduceAdd, Nat.zero_add]
      have ek : ((2 : Nat) : Int) = 2 := rfl
      rw [ek]
      clear ek
      by_cases h1 : c.h < 1
      · have d1 : decide (c.h < 1) = true := by simpa using h1
        have HE : Hid (c.chk = 10) := Lib.hid (Cfg.bad_of (k := 2) (by omega) (by simp only [Cfg.okAt]; omega))
        clear h1
        go_wp2_with (refine wpList_index rfl 121 (.tmp 23) (.tmp 24) rfl (.agg #[.int .i64 c.h, .int .i64 1, .int .i64 8]) (by kernel_rfl) ?_)
        go_ret
        exact ⟨by rw [HE.out]; rfl, HX.out.below.alloc HX.out.below.size _⟩
      · have d1 : decide (c.h < 1) = false := by simpa using h1
        by_cases h2 : 8 < c.h
        · have d2 : decide (8 < c.h) = true := by simpa using h2
          have HE : Hid (c.chk = 10) := Lib.hid (Cfg.bad_of (k := 2) (by omega) (by simp only [Cfg.okAt]; omega))
          clear h1 h2
          go_wp2_with (refine wpList_index rfl 121 (.tmp 23) (.tmp 24) rfl (.agg #[.int .i64 c.h, .int .i64 1, .int .i64 8]) (by kernel_rfl) ?_)
          go_ret
          exact ⟨by rw [HE.out]; rfl, HX.out.below.alloc HX.out.below.size _⟩
        · have d2 : decide (8 < c.h) = false := by simpa using h2
          have HO : Hid (c.okAt 2) := Lib.hid (by simp only [Cfg.okAt]; omega)
          clear h1 h2
          go_wp2_with (refine wpList_index rfl 121 (.tmp 23) (.tmp 24) rfl (.agg #[.int .i64 c.h, .int .i64 1, .int .i64 8]) (by kernel_rfl) ?_)
          go_roundw
          case rel => exact ⟨3, by omega, by go_num, fun j hj => by (rcases Nat.lt_or_ge j 2 with h | h; exact HOk.out j (by omega); obtain rfl : j = 2 := (by omega); exact HO.out), HX.out.later ((Below.refl _ _).alloc (Nat.le_refl _) _)⟩
          case measure => simp [intOf]
    · clear hk
      simp only [Nat.reduceAdd, Nat.zero_add]
      have ek : ((3 : Nat) : Int) = 3 := rfl
      rw [ek]
      clear ek
      by_cases h1 : c.l < 1
      · have d1 : decide (c.l < 1) = true := by simpa using h1
        have HE : Hid (c.chk = 10) := Lib.hid (Cfg.bad_of (k := 3) (by omega) (by simp only [Cfg.okAt]; omega))
        clear h1
        go_wp2_with (refine wpList_index rfl 121 (.tmp 23) (.tmp 24) rfl (.agg #[.int .i64 c.l, .int .i64 1, .int .i64 4]) (by kernel_rfl) ?_)
        go_ret
        exact ⟨by rw [HE.out]; rfl, HX.out.below.alloc HX.out.below.size _⟩
      · have d1 : decide (c.l < 1) = false := by simpa using h1
        by_cases h2 : 4 < c.l
        · have d2 : decide (4 < c.l) = true := by simpa using h2
          have HE : Hid (c.chk = 10) := Lib.hid (Cfg.bad_of (k := 3) (by omega) (by simp only [Cfg.okAt]; omega))
          clear h1 h2
          go_wp2_with (refine wpList_index rfl 121 (.tmp 23) (.tmp 24) rfl (.agg #[.int .i64 c.l, .int .i64 1, .int .i64 4]) (by kernel_rfl) ?_)
          go_ret
          exact ⟨by rw [HE.out]; rfl, HX.out.below.alloc HX.out.below.size _⟩
        · have d2 : decide (4 < c.l) = false := by simpa using h2
          have HO : Hid (c.okAt 3) := Lib.hid (by simp only [Cfg.okAt]; omega)
          clear h1 h2
          go_wp2_with (refine wpList_index rfl 121 (.tmp 23) (.tmp 24) rfl (.agg #[.int .i64 c.l, .int .i64 1, .int .i64 4]) (by kernel_rfl) ?_)
          go_roundw
          case rel => exact ⟨4, by omega, by go_num, fun j hj => by (rcases Nat.lt_or_ge j 3 with h | h; exact HOk.out j (by omega); obtain rfl : j = 3 := (by omega); exact HO.out), HX.out.later ((Below.refl _ _).alloc (Nat.le_refl _) _)⟩
          case measure => simp [intOf]
    · clear hk
      simp only [Nat.reduceAdd, Nat.zero_add]
      have ek : ((4 : Nat) : Int) = 4 := rfl
      rw [ek]
      clear ek
      by_cases h1 : c.x < 1
      · have d1 : decide (c.x < 1) = true := by simpa using h1
        have HE : Hid (c.chk = 10) := Lib.hid (Cfg.bad_of (k := 4) (by omega) (by simp only [Cfg.okAt]; omega))
        clear h1
        go_wp2_with (refine wpList_index rfl 121 (.tmp 23) (.tmp 24) rfl (.agg #[.int .i64 c.x, .int .i64 1, .int .i64 64]) (by kernel_rfl) ?_)
        go_ret
        exact ⟨by rw [HE.out]; rfl, HX.out.below.alloc HX.out.below.size _⟩
      · have d1 : decide (c.x < 1) = false := by simpa using h1
        by_cases h2 : 64 < c.x
        · have d2 : decide (64 < c.x) = true := by simpa using h2
          have HE : Hid (c.chk = 10) := Lib.hid (Cfg.bad_of (k := 4) (by omega) (by simp only [Cfg.okAt]; omega))
          clear h1 h2
          go_wp2_with (refine wpList_index rfl 121 (.tmp 23) (.tmp 24) rfl (.agg #[.int .i64 c.x, .int .i64 1, .int .i64 64]) (by kernel_rfl) ?_)
          go_ret
          exact ⟨by rw [HE.out]; rfl, HX.out.below.alloc HX.out.below.size _⟩
        · have d2 : decide (64 < c.x) = false := by simpa using h2
          have HO : Hid (c.okAt 4) := Lib.hid (by simp only [Cfg.okAt]; omega)
          clear h1 h2
          go_wp2_with (refine wpList_index rfl 121 (.tmp 23) (.tmp 24) rfl (.agg #[.int .i64 c.x, .int .i64 1, .int .i64 64]) (by kernel_rfl) ?_)
          go_roundw
          case rel => exact ⟨5, by omega, by go_num, fun j hj => by (rcases Nat.lt_or_ge j 4 with h | h; exact HOk.out j (by omega); obtain rfl : j = 4 := (by omega); exact HO.out), HX.out.later ((Below.refl _ _).alloc (Nat.le_refl _) _)⟩
          case measure => simp [intOf]
    · clear hk
      simp only [Nat.reduceAdd, Nat.zero_add]
      have ek : ((5 : Nat) : Int) = 5 := rfl
      rw [ek]
      clear ek
      by_cases h1 : c.i < 1
      · have d1 : decide (c.i < 1) = true := by simpa using h1
        have HE : Hid (c.chk = 10) := Lib.hid (Cfg.bad_of (k := 5) (by omega) (by simp only [Cfg.okAt]; omega))
        clear h1
        go_wp2_with (refine wpList_index rfl 121 (.tmp 23) (.tmp 24) rfl (.agg #[.int .i64 c.i, .int .i64 1, .int .i64 64]) (by kernel_rfl) ?_)
        go_ret
        exact ⟨by rw [HE.out]; rfl, HX.out.below.alloc HX.out.below.size _⟩
      · have d1 : decide (c.i < 1) = false := by simpa using h1
        by_cases h2 : 64 < c.i
        · have d2 : decide (64 < c.i) = true := by simpa using h2
          have HE : Hid (c.chk = 10) := Lib.hid (Cfg.bad_of (k := 5) (by omega) (by simp only [Cfg.okAt]; omega))
          clear h1 h2
          go_wp2_with (refine wpList_index rfl 121 (.tmp 23) (.tmp 24) rfl (.agg #[.int .i64 c.i, .int .i64 1, .int .i64 64]) (by kernel_rfl) ?_)
          go_ret
          exact ⟨by rw [HE.out]; rfl, HX.out.below.alloc HX.out.below.size _⟩
        · have d2 : decide (64 < c.i) = false := by simpa using h2
          have HO : Hid (c.okAt 5) := Lib.hid (by simp only [Cfg.okAt]; omega)
          clear h1 h2
          go_wp2_with (refine wpList_index rfl 121 (.tmp 23) (.tmp 24) rfl (.agg #[.int .i64 c.i, .int .i64 1, .int .i64 64]) (by kernel_rfl) ?_)
          go_roundw
          case rel => exact ⟨6, by omega, by go_num, fun j hj => by (rcases Nat.lt_or_ge j 5 with h | h; exact HOk.out j (by omega); obtain rfl : j = 5 := (by omega); exact HO.out), HX.out.later ((Below.refl _ _).alloc (Nat.le_refl _) _)⟩
          case measure => simp [intOf]
    · obtain rfl : k = 0 := by omega
      try simp only [Nat.reduceAdd, Nat.zero_add]
      have ek : ((6 : Nat) : Int) = 6 := rfl
      rw [ek]
      clear ek hk
      obtain ⟨hO, hE⟩ := Cfg.ok_all (c := c) (fun j hj => HOk.out j (by omega))
      have o1 := hO.d
      have o2 := hO.h
      have HE := Lib.hid hE
      obtain ⟨_, c1, c2, _, _, _⟩ := cfg_cells HX.out.cf
      have w1 : IntKind.i64.wrap (2 * c.h) = 2 * c.h := IntWalk.i64_in _ (by omega)
      have hz : (2 * c.h == 0) = false := by simp; omega
      have hz2 : (2 * c.h = 0) = False := by simp; omega
      have hz3 : c.h ≠ 0 := by omega
      have ht : c.d.tmod (2 * c.h) = c.d % (2 * c.h) := Int.tmod_eq_emod_of_nonneg (by omega)
      have hp := Int.emod_nonneg c.d (show 2 * c.h ≠ 0 by omega)
      have hq := Int.emod_lt_of_pos c.d (show 0 < 2 * c.h by omega)
      have w2 : IntKind.i64.wrap (c.d.tmod (2 * c.h)) = c.d.tmod (2 * c.h) := IntWalk.i64_in _ (by rw [ht]; omega)
      obtain ⟨R, hR⟩ : ∃ R, c.d.tmod (2 * c.h) = R := ⟨_, rfl⟩
      rw [hR] at HE w2
      clear hO hE ht hp hq o1 o2
      by_cases h0 : R = 0
      · subst h0
        have HE2 : Hid (c.chk = 0) := Lib.hid (by rw [HE.out]; rfl)
        clear HE
        go_wp2
        go_ret
        exact ⟨by rw [HE2.out]; rfl, HX.out.below⟩
      · have h1 : (R == 0) = false := by simpa using h0
        have h2 : (R != 0) = true := by simpa using h0
        have HE2 : Hid (c.chk = 13) := Lib.hid (by rw [HE.out, if_pos h0])
        clear HE h0
        go_wp2
        go_ret
        exact ⟨by rw [HE2.out]; rfl, HX.out.below⟩
end Go.Proofs.Ytdffbjjiojheoaa.Wg
