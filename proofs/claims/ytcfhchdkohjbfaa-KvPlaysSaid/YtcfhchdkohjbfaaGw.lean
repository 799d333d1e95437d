/- Pools of rows in pages: the walk of KvGoes. -/
import Derived.Test.YtcfhchdkohjbfaaLf
import Derived.Test.YtcfhchdkohjbfaaEo
namespace Go.Proofs.Ytcfhchdkohjbfaa.Kv
set_option maxRecDepth 100000
open Go.ChangeShapes Go.WideShapes Go.ChangeAt Go.RowKit Go.Proofs.Ytcfhchdkohjbfaa.Tn
theorem size_twoG : (Try.prog.info? 22).map (·.size) = some 2 := by kernel_rfl
theorem load_twoG {W : World} {g : Nat} {x y : Int} (h : W.heap[g]? = some (.cells #[.int .i64 x, .int .i64 y] 22 (0, 0))) : (loadVar 22 ⟨g, 0, none⟩).run Try.prog W = .ok (.agg #[.int .i64 x, .int .i64 y]) W :=
  run_loadVar_row W g 22 22 _ _ _ h Try.underlying22 rfl size_twoG
/-- what the law's box holds -/
structure By (w : World) (x y : Int) (W : World) : Prop where
  below : Below w.heap.size w W
  b0 : W.heap[w.heap.size]? = some (.cells #[.int .i64 x, .int .i64 y] 22 (0, 0))
theorem By.later {w W W' : World} {x y : Int} (h : By w x y W) (hb : Below W.heap.size W W') : By w x y W' :=
  ⟨h.below.trans (hb.mono h.below.size), (hb.block _ (Array.getElem?_eq_some_iff.1 h.b0).1).trans h.b0⟩
theorem By.cells {w W : World} {x y : Int} (h : By w x y W) : W.cell? ⟨w.heap.size, 0, none⟩ = some (.int .i64 x) ∧ W.cell? ⟨w.heap.size, 1, none⟩ = some (.int .i64 y) := by
  refine ⟨?_, ?_⟩ <;> (rw [cell_of_row _ _ _ _ _ _ h.b0]; rfl)
theorem By.new (w : World) (x y : Int) : By w x y (w.alloc (.cells #[.int .i64 x, .int .i64 y] 22)) := ⟨(Below.refl _ _).alloc (Nat.le_refl _) _, alloc_new _ _⟩
theorem op_cells {W : World} {c o i : Nat} {x : OpV} (h : W.rangeAt c (o + 3 * i) x.cells) : W.cell? ⟨c, o + i * 3, none⟩ = some (.int .i64 x.ask) ∧ W.cell? ⟨c, o + i * 3 + 1, none⟩ = some (.int .i64 x.id) ∧ W.cell? ⟨c, o + i * 3 + 2, none⟩ = some (.int .i64 x.n) := by
  rw [Nat.mul_comm i 3]
  exact ⟨h 0 _ rfl, h 1 _ rfl, h 2 _ rfl⟩
/-- the document's pool in a new block -/
theorem fresh_box {w : World} {τ : Tags} {g : Nat} {D : Doc Int} (h : Pool I.kind w τ g D) (p s : Int) : ∃ τ', Pool I.kind (w.alloc (.cells #[.slice none 0 0, .int .i64 p, .int .i64 s] 32)) τ' g D ∧ Step (fun _ => true) τ τ' w (w.alloc (.cells #[.slice none 0 0, .int .i64 p, .int .i64 s] 32)) ∧ τ' w.heap.size = some .rpool ∧ Fresh (w.alloc (.cells #[.slice none 0 0, .int .i64 p, .int .i64 s] 32)) w.heap.size p s := by
  obtain ⟨O, hO⟩ : ∃ O, (Obj.cells #[.slice none 0 0, .int .i64 p, .int .i64 s] 32 (0, 0)) = O := ⟨_, rfl⟩
  rw [hO]
  have hs : (w.alloc O).heap.size = w.heap.size + 1 := by simp
  have hst : Step (fun _ => false) τ (fun q => if q = w.heap.size then some .rpool else τ q) w (w.alloc O) :=
    ⟨rfl, rfl, rfl, by omega, fun c hc => by rw [if_neg (by omega)], fun c hc _ => alloc_old _ _ _ hc⟩
  refine ⟨_, h.step hst (fun _ _ => rfl) (fun c t hc => ?_), hst.all, by rw [if_pos rfl], ?_⟩
  · split at hc
    · omega
    · have := h.fits c t hc; omega
  · show (w.alloc O).heap[w.heap.size]? = _
    rw [hO]; exact alloc_new _ _
set_option maxHeartbeats 8000000 in
theorem goes_walk (w : World) (x y : Int) (sp : Option Addr) (cp : Nat) (os : List OpV) (ho : Ops w sp os) :
    Calls Try.prog 5 #[.agg #[.int .i64 x, .int .i64 y], .slice sp os.length cp] w fun e w' => e = .returned (.bool true) ∧ Below w.heap.size w w' := by
  obtain ⟨N, hN⟩ : ∃ N, os.length = N := ⟨_, rfl⟩
  have hNm : N ≤ 9223372036854775807 := by have := ho.len; unfold maxLen at this; omega
  have HBx := Lib.hid (By.new w x y)
  have HOs := Lib.hid ho
  have HN := Lib.hid hN
  rw [hN]
  clear ho hN
  by_cases hr : rightB x y = true
  · have HRt := Lib.hid hr
    clear hr
    by_cases h1 : 50 < N
    · have d1 : decide (50 < N) = true := by simpa using h1
      have d1i : decide ((50 : Int) < (N : Int)) = true := by simp; omega
      clear h1
      go_enter Try.func5, Try.ntmps5
      go_upto_region 1 with fail
      refine I.gen_w (Q := fun w => Code.wp _ _ _ _ w) _ (fun W => By w x y W) HBx.out ?_
      clear HBx
      rintro w1 k1
      have X1 := Lib.hid k1
      obtain ⟨q0, q1⟩ := k1.cells
      clear k1
      go_wp2_with fail
      refine (right_any w1 x y).mono ?_
      rintro e w2 ⟨rfl, k2⟩
      have X2 := Lib.hid (X1.out.later k2)
      clear k2 X1 q0 q1
      rw [HRt.out]
      go_wp2_with fail
      refine (awake_any _).mono ?_
      rintro e w3 ⟨rfl, k3⟩
      have X3 := Lib.hid (X2.out.later k3)
      clear k3
      go_wp2
      go_ret
      exact ⟨rfl, X3.out.below⟩
    · have d1 : decide (50 < N) = false := by simpa using h1
      have d1i : decide ((50 : Int) < (N : Int)) = false := by simp; omega
      have hN50 : N ≤ 50 := by omega
      obtain ⟨n, s, hxn, hys, hn1, hn2, hs1, hs2⟩ : ∃ n s : Nat, x = n ∧ y = s ∧ 1 ≤ n ∧ n ≤ 12 ∧ 1 ≤ s ∧ s ≤ 8 := by
        have hr := HRt.out
        unfold rightB at hr
        simp at hr
        exact ⟨x.toNat, y.toNat, by omega, by omega, by omega, by omega, by omega, by omega⟩
      have HXn := Lib.hid hxn
      have HYs := Lib.hid hys
      clear hxn hys h1
      go_enter Try.func5, Try.ntmps5
      go_upto_region 1 with fail
      refine I.gen_w (Q := fun w => Code.wp _ _ _ _ w) _ (fun W => By w x y W) HBx.out ?_
      clear HBx
      rintro w1 k1
      have X1 := Lib.hid k1
      obtain ⟨q0, q1⟩ := k1.cells
      clear k1
      go_wp2_with fail
      refine (right_any w1 x y).mono ?_
      rintro e w2 ⟨rfl, k2⟩
      have X2 := Lib.hid (X1.out.later k2)
      clear k2 X1 q0 q1
      rw [HRt.out]
      have hNw := I.new_any w2 bare (bare_fits w2) n s hn1 (by omega) hs1 (by omega)
      rw [← HXn.out, ← HYs.out] at hNw
      have HNw := Lib.hid hNw
      clear hNw
      obtain ⟨q0, q1⟩ := X2.out.cells
      go_wp2_with fail
      refine HNw.out.mono ?_
      rintro e w3 ⟨g, τ3, rfl, k3, k4⟩
      have P3 : Hid (Pool I.kind w3 τ3 g (⟨s, n, []⟩ : Doc Int)) := Lib.hid k3
      have S3 := Lib.hid k4.all
      clear k3 k4 HNw q0 q1
      go_wp2
      go_loopw [7] (fun iv wr => ∃ (i : Nat) (D : Doc Int) (τ : Tags), i ≤ N ∧ iv = .int .i64 i ∧ Pool I.kind wr τ g D ∧ D.size = s ∧ D.pages = n ∧ D.rows.length ≤ i ∧ Step (fun _ => true) bare τ w2 wr) (fun iv _ => N - (intOf iv).toNat)
      case atStart => exact ⟨0, _, τ3, by omega, rfl, P3.out, rfl, rfl, Nat.le_refl _, S3.out⟩
      case round =>
        clear P3 S3
        obtain ⟨i, D, τ, hi, rfl, k1, k2, k3, k4, k5⟩ := hrel
        have P := Lib.hid k1
        have Ds := Lib.hid k2
        have Dp := Lib.hid k3
        have Dl := Lib.hid k4
        have S := Lib.hid k5
        have X := Lib.hid (X2.out.later k5.bare)
        clear k1 k2 k3 k4 k5
        obtain ⟨q0, q1⟩ := X.out.cells
        by_cases hlt : i < N
        · have e1 : decide (i < N) = true := by simpa using hlt
          have e2 : decide ((i : Int) < (N : Int)) = true := by simp; omega
          obtain ⟨c, o, hsp, hrg⟩ := HOs.out.range i (by rw [HN.out]; exact hlt)
          obtain ⟨op, hop⟩ : ∃ op, os[i]'(by rw [HN.out]; exact hlt) = op := ⟨_, rfl⟩
          rw [hop] at hrg
          obtain ⟨u0, u1, u2⟩ := op_cells (rangeAt_below hrg X.out.below)
          have HRg := Lib.hid hrg
          subst hsp
          clear hop hrg
          have b1 : (0 : Int) ≤ (i : Int) := by omega
          have b2 : (i : Int) < (N : Int) := by omega
          obtain ⟨τb, hPb, hSb, hTb, hFb⟩ := fresh_box P.out x y
          have hdr : Below (wr.alloc (.cells #[.slice none 0 0, .int .i64 x, .int .i64 y] 32)).heap.size (wr.alloc (.cells #[.slice none 0 0, .int .i64 x, .int .i64 y] 32)) (wr.alloc (.cells #[.slice none 0 0, .int .i64 x, .int .i64 y] 32)).drew := ⟨rfl, rfl, rfl, Nat.le_refl _, fun _ _ => rfl⟩
          have HDo := Lib.hid (does_fresh (w := (wr.alloc (.cells #[.slice none 0 0, .int .i64 x, .int .i64 y] 32)).drew) (hPb.below hdr) hFb hTb op.ask op.id op.n)
          have HSb := Lib.hid ((S.out.trans hSb).trans (Step.below (M := fun _ => true) (τ := τb) hdr))
          clear hPb hSb hTb hFb hdr
          go_upto_region 9 with fail
          go_region_held3 (fun W => W.cell? ⟨w.heap.size, 0, none⟩ = some (.int .i64 x) ∧ W.cell? ⟨w.heap.size, 1, none⟩ = some (.int .i64 y) ∧ W.cell? ⟨c, o + i * 3, none⟩ = some (.int .i64 op.ask) ∧ W.cell? ⟨c, o + i * 3 + 1, none⟩ = some (.int .i64 op.id) ∧ W.cell? ⟨c, o + i * 3 + 2, none⟩ = some (.int .i64 op.n)) (first | go_keep | exact HK.out)
            ((go_at_call 10; refine HDo.out.mono ?_; rintro e w5 ⟨b, τ5, rfl, k1, k2⟩; have P5 := Lib.hid k1; have S5 := Lib.hid (HSb.out.trans k2.all); have X5 := Lib.hid (X2.out.later S5.out.bare); have HK := Lib.hid (And.intro X5.out.cells.1 (And.intro X5.out.cells.2 (op_cells (rangeAt_below HRg.out X5.out.below)))); clear k1 k2))
          clear q0 q1 u0 u1 u2 HDo HSb HK b1 b2
          have hsh := opD_shape D op.ask op.id op.n
          rw [Ds.out, Dp.out] at hsh
          have HSh := Lib.hid hsh
          clear hsh
          go_wp2
          go_roundw
          case rel => exact ⟨i + 1, _, τ5, by omega, by go_num, P5.out, HSh.out.1, HSh.out.2.1, by have := HSh.out.2.2; have := Dl.out; omega, S5.out⟩
          case measure => simp [intOf]; omega
        · obtain rfl : i = N := by omega
          have e1 : decide (i < i) = false := by simp
          have e2 : decide ((i : Int) < (i : Int)) = false := by simp
          clear q0 q1
          go_wp2
          go_loopw [8] (fun jv wr => ∃ (j : Nat) (D : Doc Int) (τ : Tags), j ≤ 60 ∧ jv = .int .i64 j ∧ Pool I.kind wr τ g D ∧ D.size = s ∧ D.pages = n ∧ D.rows.length ≤ 50 ∧ Shut D.rows j ∧ Step (fun _ => true) bare τ w2 wr) (fun jv _ => 60 - (intOf jv).toNat)
          case atStart => exact ⟨0, D, τ, by omega, rfl, P.out, Ds.out, Dp.out, by have := Dl.out; omega, fun k q hk => by omega, S.out⟩
          case round =>
            clear P Ds Dp Dl S X
            obtain ⟨j, D, τ, hj, rfl, k1, k2, k3, k4, k5, k6⟩ := hrel
            have P := Lib.hid k1
            have Ds := Lib.hid k2
            have Dp := Lib.hid k3
            have Dl := Lib.hid k4
            have Sh := Lib.hid k5
            have S := Lib.hid k6
            have X := Lib.hid (X2.out.later k6.bare)
            clear k1 k2 k3 k4 k5 k6
            by_cases hlt : j < 60
            · have e3 : decide (j < 60) = true := by simpa using hlt
              have e4 : decide ((j : Int) < 60) = true := by simp; omega
              have HC := Lib.hid (I.closeD_any P.out (j : Int))
              have hsh := closeD_shape D (j : Int)
              rw [Ds.out, Dp.out] at hsh
              have HSh := Lib.hid hsh
              have Sh' := Lib.hid (shut_step Sh.out)
              obtain ⟨D', hD'⟩ : ∃ D', (closeD D (j : Int)).2 = D' := ⟨_, rfl⟩
              obtain ⟨ec, hec⟩ : ∃ ec, (closeD D (j : Int)).1 = ec := ⟨_, rfl⟩
              rw [hD'] at HC HSh Sh'
              rw [hec] at HC
              clear hsh hD' hec
              go_wp2_with fail
              refine HC.out.mono ?_
              rintro e w5 ⟨rfl, τ5, k1, k2⟩
              have P5 := Lib.hid k1
              have S5 := Lib.hid (S.out.trans k2.all)
              clear k1 k2
              go_wp2
              go_roundw
              case rel => exact ⟨j + 1, D', τ5, by omega, by go_num, P5.out, HSh.out.1, HSh.out.2.1, by have := HSh.out.2.2; have := Dl.out; omega, Sh'.out, S5.out⟩
              case measure => simp [intOf]; omega
            · obtain rfl : j = 60 := by omega
              have hall := shut_all Sh.out (by have := Dl.out; omega)
              have HFr := Lib.hid (I.freeD_any (P.out.below (w' := wr.drew) ⟨rfl, rfl, rfl, Nat.le_refl _, fun _ _ => rfl⟩))
              have HFv : Hid (I.freeN D D.pages = n) := Lib.hid (by rw [freeN_all _ (fun k _ => cnt_shut _ k hall)]; exact Dp.out)
              have HAll := Lib.hid hall
              clear hall
              obtain ⟨q0, q1⟩ := X.out.cells
              have hne : ((n : Int) != x) = false := by rw [HXn.out]; simp
              go_upto_region 14 with fail
              go_region_held3 (fun W => W.cell? ⟨w.heap.size, 0, none⟩ = some (.int .i64 x)) (first | go_keep | exact HK.out)
                ((go_at_call 18; refine HFr.out.mono ?_; rw [HFv.out]; rintro e w6 ⟨rfl, k1⟩; have S6 := Lib.hid (S.out.trans (Step.trans (w' := wr.drew) (Step.below ⟨rfl, rfl, rfl, Nat.le_refl _, fun _ _ => rfl⟩) (Step.below (M := fun _ => true) (τ := τ) k1))); have P6 := Lib.hid ((P.out.below (w' := wr.drew) ⟨rfl, rfl, rfl, Nat.le_refl _, fun _ _ => rfl⟩).below k1); have X6 := Lib.hid (X2.out.later S6.out.bare); have HK := Lib.hid X6.out.cells.1; clear k1))
              clear q0 q1 HFr HK hne
              obtain ⟨hop, hfill⟩ := fill_open Ds.out Dp.out hs1 HAll.out Dl.out
              obtain ⟨base, hbase⟩ : ∃ base, D.rows = base := ⟨_, rfl⟩
              have hDl := Dl.out
              rw [hbase] at hop hfill hDl
              have HO := Lib.hid (I.openD_any P6.out)
              rw [hop] at HO
              obtain ⟨r, hr⟩ : ∃ r, base.length = r := ⟨_, rfl⟩
              rw [hr] at HO hDl
              have HRl := Lib.hid hr
              have HFi := Lib.hid hfill
              clear hop hfill hbase hr
              go_wp2_with fail
              refine HO.out.mono ?_
              rintro e w7 ⟨rfl, τ7, k1, k2⟩
              have P7 := Lib.hid k1
              have S7 := Lib.hid (S6.out.trans k2.all)
              clear k1 k2 HO
              obtain ⟨T, hT⟩ : ∃ T, n * s = T := ⟨_, rfl⟩
              have hTb : T ≤ 96 := by rw [← hT]; exact Nat.le_trans (Nat.mul_le_mul hn2 hs2) (by decide)
              have hmul : IntKind.i64.wrap ((n : Int) * (s : Int)) = (T : Int) := by
                rw [← Int.natCast_mul, hT]
                exact IntWalk.i64_in _ (by omega)
              have HTt := Lib.hid hT
              clear hT
              go_wp2
              go_loopw [11] (fun jv wr => ∃ (j : Nat) (D : Doc Int) (τ : Tags), j ≤ T ∧ jv = .int .i64 j ∧ Pool I.kind wr τ g D ∧ Fill D s n base j ∧ Step (fun _ => true) bare τ w2 wr) (fun jv _ => T - (intOf jv).toNat)
              case atStart => exact ⟨0, _, τ7, by omega, rfl, P7.out, HFi.out, S7.out⟩
              case round =>
                clear P P6 P7 S S6 S7 X X6 Sh Ds Dp Dl HAll HFi HFv
                obtain ⟨j, D, τ, hj, rfl, k1, k2, k3⟩ := hrel
                have P := Lib.hid k1
                have Fi := Lib.hid k2
                have S := Lib.hid k3
                have X := Lib.hid (X2.out.later k3.bare)
                clear k1 k2 k3
                obtain ⟨q0, q1⟩ := X.out.cells
                rw [HXn.out] at q0
                rw [HYs.out] at q1
                by_cases hlt : j < T
                · have e3 : decide (j < T) = true := by simpa using hlt
                  have e4 : decide ((j : Int) < (T : Int)) = true := by simp; omega
                  have hA := I.append_any P.out (r : Int) (j : Int)
                  obtain ⟨ec, hec⟩ : ∃ ec, (appendD D (r : Int) (j : Int)).1 = ec := ⟨_, rfl⟩
                  obtain ⟨D', hD'⟩ : ∃ D', (appendD D (r : Int) (j : Int)).2 = D' := ⟨_, rfl⟩
                  rw [hec, hD'] at hA
                  have HA := Lib.hid hA
                  have HEc := Lib.hid hec
                  have HD' := Lib.hid hD'
                  clear hA hec hD'
                  have HLt := Lib.hid hlt
                  go_wp2_with fail
                  refine HA.out.mono ?_
                  rintro e w8 ⟨rfl, τ8, k1, k2⟩
                  obtain ⟨D9, he, hf⟩ := fill_step Fi.out hs1 (by rw [HTt.out]; exact HLt.out) (by rw [HRl.out]; omega) (fun D9 e9 => by rw [HRl.out, HD'.out] at e9; subst e9; exact k1)
                  rw [HRl.out] at he
                  have hec : ec = 0 := by rw [← HEc.out, he]
                  have hD9 : D' = D9 := by rw [← HD'.out, he]
                  subst hec
                  subst hD9
                  have P8 := Lib.hid k1
                  have S8 := Lib.hid (S.out.trans k2.all)
                  have F8 := Lib.hid hf
                  clear k1 k2 he hf q0 q1
                  go_wp2
                  go_roundw
                  case rel => exact ⟨j + 1, D', τ8, by omega, by go_num, P8.out, F8.out, S8.out⟩
                  case measure => simp [intOf]; omega
                · obtain rfl : j = T := by omega
                  have e3 : decide (j < j) = false := by simp
                  have e4 : decide ((j : Int) < (j : Int)) = false := by simp
                  obtain ⟨Pp, _, hrow⟩ := fill_at Fi.out
                  have hfull := fill_full (D := D) (s := s) (n := n) (base := base) (by rw [HTt.out]; exact Fi.out) hs1
                  rw [HRl.out] at hrow hfull
                  have HW := Lib.hid (lawRow P.out (r : Int) (numsTo j) (by rw [hrow]; rfl) (by rw [numsTo_length]; omega))
                  have HFu := Lib.hid hfull
                  clear hrow hfull
                  go_wp2_with fail
                  refine HW.out.mono ?_
                  rintro e w9 ⟨sx, cx, bx, rfl, k1, k2, k3⟩
                  rw [numsTo_length] at k1 ⊢
                  obtain ⟨τ9, m1, m2, m3⟩ := Mr.new (k := 0) (xs := numsTo j) P.out.fits k3 k1 k2
                  have M9 := Lib.hid m1
                  have P9 := Lib.hid (P.out.step m2 (isK_mine 0) m3)
                  have S9 := Lib.hid (S.out.trans m2.all)
                  have X9 := Lib.hid (X2.out.later S9.out.bare)
                  clear k1 k2 k3 m1 m2 m3 q0 q1 HW
                  obtain ⟨q0, q1⟩ := X9.out.cells
                  rw [HXn.out] at q0
                  rw [HYs.out] at q1
                  have hFr := I.freeD_any P9.out
                  rw [HFu.out.1] at hFr
                  have HFr := Lib.hid hFr
                  clear hFr
                  have ejj : ((j : Int) != (j : Int)) = false := by simp
                  go_wp2_with fail
                  refine HFr.out.mono ?_
                  rintro e w10 ⟨rfl, k1⟩
                  have P10 := Lib.hid (P9.out.below k1)
                  have M10 := Lib.hid (M9.out.below k1)
                  have S10 := Lib.hid (S9.out.trans (Step.below (M := fun _ => true) (τ := τ9) k1))
                  clear k1 q0 q1 HFr
                  have hA := I.append_any P10.out (r : Int) 0
                  rw [HFu.out.2 0] at hA
                  have HA := Lib.hid hA
                  clear hA
                  go_wp2_with fail
                  refine HA.out.mono ?_
                  rintro e w11 ⟨rfl, τ11, k1, k2⟩
                  have M11 := Lib.hid (M10.out.step k2 (isK_mine' 0))
                  have S11 := Lib.hid (S10.out.trans k2.all)
                  clear k1 k2 HA
                  go_wp2
                  obtain ⟨sx', cx', hv, hnm⟩ := M11.out.slice
                  rw [numsTo_length] at hv
                  injection hv with v1 v2 v3
                  subst v1
                  subst v3
                  clear v2
                  have HNm := Lib.hid hnm
                  clear hnm
                  go_loopw [14] (fun jv wr => ∃ k m : Nat, k ≤ j ∧ jv = .int .i64 k ∧ wr = w11.drewN m) (fun jv _ => j - (intOf jv).toNat)
                  case atStart => exact ⟨0, 0, by omega, rfl, rfl⟩
                  case round =>
                    obtain ⟨k, m, hk, rfl, rfl⟩ := hrel
                    by_cases hlt : k < j
                    · have e5 : decide (k < j) = true := by simpa using hlt
                      have e6 : decide ((k : Int) < (j : Int)) = true := by simp; omega
                      obtain ⟨d, o, rfl, hc⟩ := HNm.out.at_ k (by rw [numsTo_length]; exact hlt)
                      have hget : (numsTo j).getD k 0 = (k : Int) := by
                        unfold numsTo
                        rw [List.getD_eq_getElem?_getD, List.getElem?_map, List.getElem?_range hlt]; rfl
                      rw [hget] at hc
                      have hc' : (w11.drewN m).cell? ⟨d, o + k, none⟩ = some (.int .i64 (k : Int)) := hc
                      have ekk : ((k : Int) != (k : Int)) = false := by simp
                      clear hc hget
                      go_wp2
                      try go_quiet (fail)
                      try go_wp2
                      go_roundw
                      case rel => exact ⟨k + 1, _, by omega, by go_num, rfl⟩
                      case measure => simp [intOf]; omega
                    · obtain rfl : k = j := by omega
                      have X12 := Lib.hid ((X2.out.later S11.out.bare).later (set_drewN w11 m))
                      go_wp2_with fail
                      refine (awake_any _).mono ?_
                      rintro e w13 ⟨rfl, k3⟩
                      have X13 := Lib.hid (X12.out.later k3)
                      clear k3
                      go_wp2
                      go_ret
                      exact ⟨rfl, X13.out.below⟩
  · have HRt : Hid (rightB x y = false) := Lib.hid (by simpa using hr)
    clear hr
    go_enter Try.func5, Try.ntmps5
    go_upto_region 1 with fail
    refine I.gen_w (Q := fun w => Code.wp _ _ _ _ w) _ (fun W => By w x y W) HBx.out ?_
    clear HBx
    rintro w1 k1
    have X1 := Lib.hid k1
    obtain ⟨q0, q1⟩ := k1.cells
    clear k1
    go_wp2_with fail
    refine (right_any w1 x y).mono ?_
    rintro e w2 ⟨rfl, k2⟩
    have X2 := Lib.hid (X1.out.later k2)
    clear k2 X1 q0 q1
    rw [HRt.out]
    go_wp2_with fail
    refine (awake_any _).mono ?_
    rintro e w3 ⟨rfl, k3⟩
    have X3 := Lib.hid (X2.out.later k3)
    clear k3
    go_wp2
    go_ret
    exact ⟨rfl, X3.out.below⟩
end Go.Proofs.Ytcfhchdkohjbfaa.Kv
