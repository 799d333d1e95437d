/- Pools of rows in pages: the walk of KvPlays. -/
import Derived.Test.YtcfhchdkohjbfaaRs
import Derived.Test.YtcfhchdkohjbfaaGw
namespace Go.Proofs.Ytcfhchdkohjbfaa.Kv
set_option maxRecDepth 100000
open Go.ChangeShapes Go.WideShapes Go.ChangeAt Go.RowKit Go.Proofs.Ytcfhchdkohjbfaa.Tn
/-- the document's pool in a new block, without rows -/
theorem ref_box {w : World} {τ : Tags} {g n s : Nat} (h : Pool I.kind w τ g (⟨s, n, []⟩ : Doc Int)) (x y : Int) (hx : x = n) (hy : y = s) : ∃ τ', Pool I.kind (w.alloc (.cells #[.slice none 0 0, .int .i64 x, .int .i64 y] 32)) τ' g (⟨s, n, []⟩ : Doc Int) ∧ Ref (w.alloc (.cells #[.slice none 0 0, .int .i64 x, .int .i64 y] 32)) τ' w.heap.size ⟨s, n, []⟩ ∧ Step (fun _ => true) τ τ' w (w.alloc (.cells #[.slice none 0 0, .int .i64 x, .int .i64 y] 32)) := by
  obtain ⟨τ', h1, h2, h3, h4⟩ := fresh_box h x y
  refine ⟨τ', h1, ⟨⟨.slice none 0 0, 0, fun _ => .slice none 0 0, fun _ => none, fun _ => .slice none 0 0, fun _ => none⟩, ?_, h3, Or.inl ⟨rfl, rfl⟩, fun id L P hr => by simp at hr, h1.fits⟩, h2⟩
  unfold Fresh at h4
  subst hx hy
  exact h4
theorem things_few {w : World} {τ : Tags} {g : Nat} {D : Doc Int} {s n : Nat} (h : Pool I.kind w τ g D) (h1 : D.size = s) (h2 : D.pages = n) (hs : s ≤ 8) (hn : n ≤ 12) (z : Int) : (thingsD D z).length ≤ 2000 := by
  have h3 := (h.short h1 h2 z).1
  have h4 : n * s ≤ 12 * 8 := Nat.mul_le_mul hn hs
  omega
set_option maxHeartbeats 8000000 in
theorem plays_walk (w : World) (x y : Int) (sp : Option Addr) (cp : Nat) (os : List OpV) (ho : Ops w sp os) :
    Calls Try.prog 3 #[.agg #[.int .i64 x, .int .i64 y], .slice sp os.length cp] w fun e w' => e = .returned (.bool true) ∧ Below w.heap.size w w' := by
  obtain ⟨N, hN⟩ : ∃ N, os.length = N := ⟨_, rfl⟩
  have hNm : N ≤ 9223372036854775807 := by have := ho.len; unfold maxLen at this; omega
  have HBx := Lib.hid (By.new w x y)
  have HOs := Lib.hid ho
  have HN := Lib.hid hN
  rw [hN]
  clear ho hN
  by_cases hA : 12 < x ∧ x ≤ 256
  · have a1 : decide (12 < x) = true := by simp; omega
    have a2 : decide (x ≤ 256) = true := by simp; omega
    go_enter Try.func3, Try.ntmps3
    go_upto_region 1 with fail
    refine I.gen_w (Q := fun w => Code.wp _ _ _ _ w) _ (fun W => By w x y W) HBx.out ?_
    clear HBx
    rintro w2 k1
    have X2 := Lib.hid k1
    obtain ⟨q0, q1⟩ := k1.cells
    clear k1
    go_wp2_with fail
    refine (awake_any _).mono ?_
    rintro e w3 ⟨rfl, k3⟩
    have X3 := Lib.hid (X2.out.later k3)
    clear k3
    go_wp2
    go_ret
    exact ⟨rfl, X3.out.below⟩
  · by_cases hB : 8 < y ∧ y ≤ 64
    · have b1 : decide (8 < y) = true := by simp; omega
      have b2 : decide (y ≤ 64) = true := by simp; omega
      by_cases hC : 12 < x
      · have a1 : decide (12 < x) = true := by simp; omega
        have a2 : decide (x ≤ 256) = false := by simp; omega
        go_enter Try.func3, Try.ntmps3
        go_upto_region 1 with fail
        refine I.gen_w (Q := fun w => Code.wp _ _ _ _ w) _ (fun W => By w x y W) HBx.out ?_
        clear HBx
        rintro w2 k1
        have X2 := Lib.hid k1
        obtain ⟨q0, q1⟩ := k1.cells
        clear k1
        go_wp2_with fail
        refine (awake_any _).mono ?_
        rintro e w3 ⟨rfl, k3⟩
        have X3 := Lib.hid (X2.out.later k3)
        clear k3
        go_wp2
        go_ret
        exact ⟨rfl, X3.out.below⟩
      · have a1 : decide (12 < x) = false := by simp; omega
        go_enter Try.func3, Try.ntmps3
        go_upto_region 1 with fail
        refine I.gen_w (Q := fun w => Code.wp _ _ _ _ w) _ (fun W => By w x y W) HBx.out ?_
        clear HBx
        rintro w2 k1
        have X2 := Lib.hid k1
        obtain ⟨q0, q1⟩ := k1.cells
        clear k1
        go_wp2_with fail
        refine (awake_any _).mono ?_
        rintro e w3 ⟨rfl, k3⟩
        have X3 := Lib.hid (X2.out.later k3)
        clear k3
        go_wp2
        go_ret
        exact ⟨rfl, X3.out.below⟩
    · by_cases hC : 12 < x
      · have a1 : decide (12 < x) = true := by simp; omega
        have a2 : decide (x ≤ 256) = false := by simp; omega
        have x1 : decide (x < 1) = false := by simp; omega
        have x2 : decide (256 < x) = true := by simp; omega
        by_cases hD : 8 < y
        · have b1 : decide (8 < y) = true := by simp; omega
          have b2 : decide (y ≤ 64) = false := by simp; omega
          go_enter Try.func3, Try.ntmps3
          go_upto_region 1 with fail
          refine I.gen_w (Q := fun w => Code.wp _ _ _ _ w) _ (fun W => By w x y W) HBx.out ?_
          clear HBx
          rintro w2 k1
          have X2 := Lib.hid k1
          obtain ⟨q0, q1⟩ := k1.cells
          clear k1
          have hNw := Lib.hid (I.new_bad w2 x y (fun h => by omega))
          go_wp2_with fail
          refine hNw.out.mono ?_
          rintro e w9 ⟨rfl, rfl⟩
          go_wp2_with fail
          refine (awake_any _).mono ?_
          rintro e w3 ⟨rfl, k3⟩
          have X3 := Lib.hid (X2.out.later k3)
          clear k3
          go_wp2
          go_ret
          exact ⟨rfl, X3.out.below⟩
        · have b1 : decide (8 < y) = false := by simp; omega
          go_enter Try.func3, Try.ntmps3
          go_upto_region 1 with fail
          refine I.gen_w (Q := fun w => Code.wp _ _ _ _ w) _ (fun W => By w x y W) HBx.out ?_
          clear HBx
          rintro w2 k1
          have X2 := Lib.hid k1
          obtain ⟨q0, q1⟩ := k1.cells
          clear k1
          have hNw := Lib.hid (I.new_bad w2 x y (fun h => by omega))
          go_wp2_with fail
          refine hNw.out.mono ?_
          rintro e w9 ⟨rfl, rfl⟩
          go_wp2_with fail
          refine (awake_any _).mono ?_
          rintro e w3 ⟨rfl, k3⟩
          have X3 := Lib.hid (X2.out.later k3)
          clear k3
          go_wp2
          go_ret
          exact ⟨rfl, X3.out.below⟩
      · have a1 : decide (12 < x) = false := by simp; omega
        by_cases hE : x < 1
        · have x1 : decide (x < 1) = true := by simp; omega
          by_cases hD : 8 < y
          · have b1 : decide (8 < y) = true := by simp; omega
            have b2 : decide (y ≤ 64) = false := by simp; omega
            go_enter Try.func3, Try.ntmps3
            go_upto_region 1 with fail
            refine I.gen_w (Q := fun w => Code.wp _ _ _ _ w) _ (fun W => By w x y W) HBx.out ?_
            clear HBx
            rintro w2 k1
            have X2 := Lib.hid k1
            obtain ⟨q0, q1⟩ := k1.cells
            clear k1
            have hNw := Lib.hid (I.new_bad w2 x y (fun h => by omega))
            go_wp2_with fail
            refine hNw.out.mono ?_
            rintro e w9 ⟨rfl, rfl⟩
            go_wp2_with fail
            refine (awake_any _).mono ?_
            rintro e w3 ⟨rfl, k3⟩
            have X3 := Lib.hid (X2.out.later k3)
            clear k3
            go_wp2
            go_ret
            exact ⟨rfl, X3.out.below⟩
          · have b1 : decide (8 < y) = false := by simp; omega
            go_enter Try.func3, Try.ntmps3
            go_upto_region 1 with fail
            refine I.gen_w (Q := fun w => Code.wp _ _ _ _ w) _ (fun W => By w x y W) HBx.out ?_
            clear HBx
            rintro w2 k1
            have X2 := Lib.hid k1
            obtain ⟨q0, q1⟩ := k1.cells
            clear k1
            have hNw := Lib.hid (I.new_bad w2 x y (fun h => by omega))
            go_wp2_with fail
            refine hNw.out.mono ?_
            rintro e w9 ⟨rfl, rfl⟩
            go_wp2_with fail
            refine (awake_any _).mono ?_
            rintro e w3 ⟨rfl, k3⟩
            have X3 := Lib.hid (X2.out.later k3)
            clear k3
            go_wp2
            go_ret
            exact ⟨rfl, X3.out.below⟩
        · have x1 : decide (x < 1) = false := by simp; omega
          have x2 : decide (256 < x) = false := by simp; omega
          by_cases hD : 8 < y
          · have b1 : decide (8 < y) = true := by simp; omega
            have b2 : decide (y ≤ 64) = false := by simp; omega
            have y1 : decide (y < 1) = false := by simp; omega
            have y2 : decide (64 < y) = true := by simp; omega
            go_enter Try.func3, Try.ntmps3
            go_upto_region 1 with fail
            refine I.gen_w (Q := fun w => Code.wp _ _ _ _ w) _ (fun W => By w x y W) HBx.out ?_
            clear HBx
            rintro w2 k1
            have X2 := Lib.hid k1
            obtain ⟨q0, q1⟩ := k1.cells
            clear k1
            have hNw := Lib.hid (I.new_bad w2 x y (fun h => by omega))
            go_wp2_with fail
            refine hNw.out.mono ?_
            rintro e w9 ⟨rfl, rfl⟩
            go_wp2_with fail
            refine (awake_any _).mono ?_
            rintro e w3 ⟨rfl, k3⟩
            have X3 := Lib.hid (X2.out.later k3)
            clear k3
            go_wp2
            go_ret
            exact ⟨rfl, X3.out.below⟩
          · have b1 : decide (8 < y) = false := by simp; omega
            by_cases hG : y < 1
            · have y1 : decide (y < 1) = true := by simp; omega
              go_enter Try.func3, Try.ntmps3
              go_upto_region 1 with fail
              refine I.gen_w (Q := fun w => Code.wp _ _ _ _ w) _ (fun W => By w x y W) HBx.out ?_
              clear HBx
              rintro w2 k1
              have X2 := Lib.hid k1
              obtain ⟨q0, q1⟩ := k1.cells
              clear k1
              have hNw := Lib.hid (I.new_bad w2 x y (fun h => by omega))
              go_wp2_with fail
              refine hNw.out.mono ?_
              rintro e w9 ⟨rfl, rfl⟩
              go_wp2_with fail
              refine (awake_any _).mono ?_
              rintro e w3 ⟨rfl, k3⟩
              have X3 := Lib.hid (X2.out.later k3)
              clear k3
              go_wp2
              go_ret
              exact ⟨rfl, X3.out.below⟩
            · have y1 : decide (y < 1) = false := by simp; omega
              have y2 : decide (64 < y) = false := by simp; omega
              obtain ⟨n, s, hxn, hys, hn1, hn2, hs1, hs2⟩ : ∃ n s : Nat, x = n ∧ y = s ∧ 1 ≤ n ∧ n ≤ 12 ∧ 1 ≤ s ∧ s ≤ 8 := ⟨x.toNat, y.toNat, by omega, by omega, by omega, by omega, by omega, by omega⟩
              have HXn := Lib.hid hxn
              have HYs := Lib.hid hys
              have hNw := fun w2 => I.new_any w2 bare (bare_fits w2) n s hn1 (by omega) hs1 (by omega)
              rw [← hxn, ← hys] at hNw
              have HNw := Lib.hid hNw
              clear hxn hys hNw hA hB hC hD hE hG
              go_enter Try.func3, Try.ntmps3
              go_upto_region 1 with fail
              refine I.gen_w (Q := fun w => Code.wp _ _ _ _ w) _ (fun W => By w x y W) HBx.out ?_
              clear HBx
              rintro w2 k1
              have X2 := Lib.hid k1
              obtain ⟨q0, q1⟩ := k1.cells
              clear k1
              go_wp2_with fail
              refine (HNw.out _).mono ?_
              rintro e w3 ⟨g, τ3, rfl, k3, k4⟩
              have P3 : Hid (Pool I.kind w3 τ3 g (⟨s, n, []⟩ : Doc Int)) := Lib.hid k3
              have S3 := Lib.hid k4.all
              have X3 := Lib.hid (X2.out.later k4.all.bare)
              clear k3 k4 HNw q0 q1
              obtain ⟨q0, q1⟩ := X3.out.cells
              by_cases h50 : 50 < N
              · have n1 : decide (50 < N) = true := by simpa using h50
                have n2 : decide ((50 : Int) < (N : Int)) = true := by simp; omega
                clear h50
                go_wp2_with fail
                refine (awake_any _).mono ?_
                rintro e w4 ⟨rfl, k3⟩
                have X4 := Lib.hid (X3.out.later k3)
                clear k3
                go_wp2
                go_ret
                exact ⟨rfl, X4.out.below⟩
              · have n1 : decide (50 < N) = false := by simpa using h50
                have n2 : decide ((50 : Int) < (N : Int)) = false := by simp; omega
                have HN50 : Hid (N ≤ 50) := Lib.hid (by omega)
                clear h50
                go_wp2
                go_loopw [8] (fun iv wr => ∃ (i : Nat) (D : Doc Int) (τ : Tags), i ≤ N ∧ iv = .int .i64 i ∧ Pool I.kind wr τ g D ∧ Ref wr τ w3.heap.size D ∧ D.size = s ∧ D.pages = n ∧ D.rows.length ≤ i ∧ Step (fun _ => true) bare τ w2 wr) (fun iv _ => N - (intOf iv).toNat)
                case atStart =>
                  obtain ⟨τ4, k1, k2, k3⟩ := ref_box P3.out x y HXn.out HYs.out
                  exact ⟨0, _, τ4, by omega, rfl, k1, k2, rfl, rfl, Nat.le_refl _, S3.out.trans k3⟩
                case round =>
                  clear P3 S3 X3
                  obtain ⟨i, D, τ, hi, rfl, k1, k0, k2, k3, k4, k5⟩ := hrel
                  have P := Lib.hid k1
                  have R := Lib.hid k0
                  have Ds := Lib.hid k2
                  have Dp := Lib.hid k3
                  have Dl := Lib.hid k4
                  have S := Lib.hid k5
                  have X := Lib.hid (X2.out.later k5.bare)
                  clear k1 k0 k2 k3 k4 k5 q0 q1
                  by_cases hlt : i < N
                  · have e1 : decide (i < N) = true := by simpa using hlt
                    have e2 : decide ((i : Int) < (N : Int)) = true := by simp; omega
                    obtain ⟨c, o, hsp, hrg⟩ := HOs.out.range i (by rw [HN.out]; exact hlt)
                    obtain ⟨op, hop⟩ : ∃ op, os[i]'(by rw [HN.out]; exact hlt) = op := ⟨_, rfl⟩
                    rw [hop] at hrg
                    obtain ⟨u0, u1, u2⟩ := op_cells (rangeAt_below hrg X.out.below)
                    subst hsp
                    clear hop hrg
                    have b1 : (0 : Int) ≤ (i : Int) := by omega
                    have b2 : (i : Int) < (N : Int) := by omega
                    have hD := does_ref P.out R.out (by have := Dl.out; have := HN50.out; omega) op.ask op.id op.n
                    have hsh := opD_shape D op.ask op.id op.n
                    rw [Ds.out, Dp.out] at hsh
                    obtain ⟨D', hD'⟩ : ∃ D', opD D op.ask op.id op.n = D' := ⟨_, rfl⟩
                    rw [hD'] at hD hsh
                    have HDo := Lib.hid hD
                    have HSh := Lib.hid hsh
                    clear hD hsh hD'
                    go_wp2_with fail
                    refine HDo.out.mono ?_
                    rintro e w5 ⟨τ5, rfl, k1, k2, k3⟩
                    have P5 := Lib.hid k1
                    have R5 := Lib.hid k2
                    have S5 := Lib.hid (S.out.trans k3.all)
                    clear k1 k2 k3 u0 u1 u2 HDo
                    have HSa := Lib.hid (same_ref P5.out R5.out P5.out.fine.low (fun z => things_few P5.out HSh.out.1 HSh.out.2.1 hs2 hn2 z))
                    go_wp2_with fail
                    refine HSa.out.mono ?_
                    rintro e w6 ⟨rfl, k1⟩
                    have P6 := Lib.hid (P5.out.below k1)
                    have R6 := Lib.hid (R5.out.below k1)
                    have S6 := Lib.hid (S5.out.trans (Step.below (M := fun _ => true) (τ := τ5) k1))
                    clear k1 HSa
                    go_wp2
                    go_roundw
                    case rel => exact ⟨i + 1, D', τ5, by omega, by go_num, P6.out, R6.out, HSh.out.1, HSh.out.2.1, by have := HSh.out.2.2; have := Dl.out; omega, S6.out⟩
                    case measure => simp [intOf]; omega
                  · obtain rfl : i = N := by omega
                    have e1 : decide (i < i) = false := by simp
                    have e2 : decide ((i : Int) < (i : Int)) = false := by simp
                    go_wp2_with fail
                    refine (awake_any _).mono ?_
                    rintro e w4 ⟨rfl, k3⟩
                    have X4 := Lib.hid (X.out.later k3)
                    clear k3
                    go_wp2
                    go_ret
                    exact ⟨rfl, X4.out.below⟩
end Go.Proofs.Ytcfhchdkohjbfaa.Kv
