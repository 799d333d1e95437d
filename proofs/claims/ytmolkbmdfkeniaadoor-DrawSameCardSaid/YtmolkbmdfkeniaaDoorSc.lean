import Derived.Test.YtmolkbmdfkeniaaDoorSb
import Derived.IntWalk
-- from Sl
namespace Go.Proofs.YtmolkbmdfkeniaaDoor
open Go.ChangeShapes Go.WideShapes Go.ChangeAt Go.RowKit
set_option maxRecDepth 100000
set_option maxRecDepth 100000 in
set_option maxHeartbeats 8000000 in
theorem block_any (w : World) (s : St) (hs : StW s) (c o cap : Nat) (b : List Int) (hl : b.length = 64) (hb : Lies w c o b) (hr : rng b) (_hcap : 64 ≤ cap) :
    Calls Tryd.prog 42 #[.agg (rowN s.list), .slice (some ⟨c, o, none⟩) 64 cap] w fun e w' => e = .returned (.agg (rowN (s.turn b).list)) ∧ Below w.heap.size w w' := by
  have HS : Hid (StW s) := Lib.hid hs
  have HL := Lib.hid hl
  have HB : Hid (Lies w c o b) := Lib.hid hb
  have HR : Hid (rng b) := Lib.hid hr
  have hcl : c < w.heap.size := block_lt_of_cell (hb 0 (by omega))
  clear hs hl hb hr
  have hz60 := zero60
  have hz48 := zero48
  go_enter Tryd.func42, Tryd.ntmps42
  go_upto_region 2 with fail
  clear hz60 hz48
  refine gen_world (Q := fun w => Code.wp _ _ _ _ w) _ (Bl w s []) ⟨(((Below.refl _ _).alloc (Nat.le_refl _) _).alloc (by simp) _).alloc (by simp; omega) _, (alloc3 w _ _ _).1, (alloc3 w _ _ _).2.1, (alloc3 w _ _ _).2.2⟩ ?_
  intro w1 hb1
  go_wp2
  go_loopw [6] (fun i wr => ∃ t : Nat, t ≤ 16 ∧ i = .int .i64 t ∧ Bl w s (first b t) wr) (fun i _ => 16 - (intOf i).toNat)
  case atStart => exact ⟨0, by omega, rfl, hb1⟩
  case round =>
    clear hb1
    obtain ⟨t, ht, rfl, hbl⟩ := hrel
    by_cases hlt : t < 16
    · have hdt : decide ((t : Int) < 16) = true := by simp; omega
      have HFl := Lib.hid (first_length b t)
      have hc : ∀ i, i < 4 → wr.drew.cell? ⟨c, o + (4 * t + i), none⟩ = some (.int .u8 (b.getD (4 * t + i) 0)) := fun i hi => (hbl.drew.below.cell hcl).trans (HB.out (4 * t + i) (by rw [HL.out]; omega))
      have c0 := hc 0 (by omega)
      have c1 := hc 1 (by omega)
      have c2 := hc 2 (by omega)
      have c3 := hc 3 (by omega)
      rw [Nat.add_zero] at c0
      have b0 := rng_get HR.out (4 * t) (by rw [HL.out]; omega)
      have b1 := rng_get HR.out (4 * t + 1) (by rw [HL.out]; omega)
      have b2 := rng_get HR.out (4 * t + 2) (by rw [HL.out]; omega)
      have b3 := rng_get HR.out (4 * t + 3) (by rw [HL.out]; omega)
      have hw := word_sum _ _ _ _ b0 b1 b2 b3
      have hsn : first b (t + 1) = first b t ++ [word (b.getD (4 * t) 0) (b.getD (4 * t + 1) 0) (b.getD (4 * t + 2) 0) (b.getD (4 * t + 3) 0)] := rfl
      rw [hw] at hsn
      clear hw hc
      obtain ⟨x0, hx0⟩ : ∃ x, b.getD (4 * t) 0 = x := ⟨_, rfl⟩
      obtain ⟨x1, hx1⟩ : ∃ x, b.getD (4 * t + 1) 0 = x := ⟨_, rfl⟩
      obtain ⟨x2, hx2⟩ : ∃ x, b.getD (4 * t + 2) 0 = x := ⟨_, rfl⟩
      obtain ⟨x3, hx3⟩ : ∃ x, b.getD (4 * t + 3) 0 = x := ⟨_, rfl⟩
      rw [hx0] at c0 b0 hsn
      rw [hx1] at c1 b1 hsn
      rw [hx2] at c2 b2 hsn
      rw [hx3] at c3 b3 hsn
      have HSn := Lib.hid hsn
      clear hx0 hx1 hx2 hx3 hsn
      have HBl := Lib.hid hbl.drew
      have d1 := hbl.drew.some (by rw [HFl.out]; omega) t (by omega)
      have f1 := hbl.drew.free t
      clear hbl
      have q0 : IntKind.i64.wrap x0 = x0 := IntWalk.i64_in _ (by omega)
      have q1 : IntKind.i64.wrap x1 = x1 := IntWalk.i64_in _ (by omega)
      have q2 : IntKind.i64.wrap x2 = x2 := IntWalk.i64_in _ (by omega)
      have q3 : IntKind.i64.wrap x3 = x3 := IntWalk.i64_in _ (by omega)
      have p0 : IntKind.i64.wrap (x0 * 16777216) = x0 * 16777216 := IntWalk.i64_in _ (by omega)
      have p1 : IntKind.i64.wrap (x1 * 65536) = x1 * 65536 := IntWalk.i64_in _ (by omega)
      have p2 : IntKind.i64.wrap (x2 * 256) = x2 * 256 := IntWalk.i64_in _ (by omega)
      have s1 : IntKind.i64.wrap (x0 * 16777216 + x1 * 65536) = x0 * 16777216 + x1 * 65536 := IntWalk.i64_in _ (by omega)
      have s2 : IntKind.i64.wrap (x0 * 16777216 + x1 * 65536 + x2 * 256) = x0 * 16777216 + x1 * 65536 + x2 * 256 := IntWalk.i64_in _ (by omega)
      have s3 : IntKind.i64.wrap (x0 * 16777216 + x1 * 65536 + x2 * 256 + x3) = x0 * 16777216 + x1 * 65536 + x2 * 256 + x3 := IntWalk.i64_in _ (by omega)
      have t0 : IntKind.i64.wrap (4 * (t : Int)) = 4 * (t : Int) := IntWalk.i64_in _ (by omega)
      have t1 : IntKind.i64.wrap (4 * (t : Int) + 1) = 4 * (t : Int) + 1 := IntWalk.i64_in _ (by omega)
      have t2 : IntKind.i64.wrap (4 * (t : Int) + 2) = 4 * (t : Int) + 2 := IntWalk.i64_in _ (by omega)
      have t3 : IntKind.i64.wrap (4 * (t : Int) + 3) = 4 * (t : Int) + 3 := IntWalk.i64_in _ (by omega)
      have z0 : 0 ≤ 4 * (t : Int) := by omega
      have z1 : 0 ≤ 4 * (t : Int) + 1 := by omega
      have z2 : 0 ≤ 4 * (t : Int) + 2 := by omega
      have z3 : 0 ≤ 4 * (t : Int) + 3 := by omega
      have y0 : 4 * (t : Int) < 64 := by omega
      have y1 : 4 * (t : Int) + 1 < 64 := by omega
      have y2 : 4 * (t : Int) + 2 < 64 := by omega
      have y3 : 4 * (t : Int) + 3 < 64 := by omega
      have y4 : (t : Int) < 64 := by omega
      have n0 : (4 * (t : Int)).toNat = 4 * t := by omega
      have n1 : (4 * (t : Int) + 1).toNat = 4 * t + 1 := by omega
      have n2 : (4 * (t : Int) + 2).toNat = 4 * t + 2 := by omega
      have n3 : (4 * (t : Int) + 3).toNat = 4 * t + 3 := by omega
      go_upto_region 5 with fail
      go_still_tail 35, (by kernel_rfl)
      change wpList _ _ _ _ _ wr.drew
      clear c0 c1 c2 c3 q0 q1 q2 q3 p0 p1 p2 s1 s2 s3 t0 t1 t2 t3 z0 z1 z2 z3 y0 y1 y2 y3 y4 n0 n1 n2 n3
      generalize wr.drew = w2 at HBl d1 f1 ⊢
      go_wp2
      clear d1 f1
      go_roundw
      case rel => exact ⟨t + 1, by omega, by go_num, by rw [HSn.out]; exact HBl.out.put (by rw [HFl.out]; omega) t HFl.out _⟩
      case measure => simp [intOf]; omega
    · obtain rfl : t = 16 := by omega
      clear ht hlt
      rw [show ((16 : Nat) : Int) = 16 from rfl]
      have hdf : decide ((16 : Int) < 16) = false := by decide
      go_wp2
      clear hdf
      go_loopw [7] (fun i wr => ∃ k n : Nat, k = n + 16 ∧ n ≤ 48 ∧ i = .int .i64 k ∧ Bl w s (ext (first b 16) n) wr) (fun i _ => 64 - (intOf i).toNat)
      case atStart => exact ⟨16, 0, by omega, by omega, rfl, hbl⟩
      case round =>
        clear hbl
        obtain ⟨k, n, hkn, hn48, rfl, hbl⟩ := hrel
        have hk1 : n + 16 ≤ k := by omega
        have hk2 : k ≤ n + 16 := by omega
        clear hkn
        by_cases hlt : k < 64
        · have hdt : decide ((k : Int) < 64) = true := by simp; omega
          have HPl := Lib.hid (ext_length (first b 16) n)
          rw [first_length] at HPl
          have hal : allW (ext (first b 16) n) := ext_in _ (first_in b HR.out 16 (by rw [HL.out]; omega)) n
          have HSn : Hid (ext (first b 16) (n + 1) = ext (first b 16) n ++ [next (ext (first b 16) n) n]) := Lib.hid rfl
          obtain ⟨p, hp⟩ : ∃ p, ext (first b 16) n = p := ⟨_, rfl⟩
          rw [hp] at HPl hal HSn hbl
          clear hp
          have W14 := allW_get hal (n + 14) (by rw [HPl.out]; omega)
          have W9 := allW_get hal (n + 9) (by rw [HPl.out]; omega)
          have W1 := allW_get hal (n + 1) (by rw [HPl.out]; omega)
          have W0 := allW_get hal n (by rw [HPl.out]; omega)
          have hp64 : p.length ≤ 64 := by rw [HPl.out]; omega
          have k14 : ∀ W, Bl w s p W → W.cell? ⟨w.heap.size + 2, n + 14, none⟩ = some (.int .i64 (p.getD (n + 14) 0)) := fun W h => h.cell hp64 _ (by rw [HPl.out]; omega)
          have k9 : ∀ W, Bl w s p W → W.cell? ⟨w.heap.size + 2, n + 9, none⟩ = some (.int .i64 (p.getD (n + 9) 0)) := fun W h => h.cell hp64 _ (by rw [HPl.out]; omega)
          have k1 : ∀ W, Bl w s p W → W.cell? ⟨w.heap.size + 2, n + 1, none⟩ = some (.int .i64 (p.getD (n + 1) 0)) := fun W h => h.cell hp64 _ (by rw [HPl.out]; omega)
          have k0 : ∀ W, Bl w s p W → W.cell? ⟨w.heap.size + 2, n, none⟩ = some (.int .i64 (p.getD n 0)) := fun W h => h.cell hp64 _ (by rw [HPl.out]; omega)
          have hnx : next p n = (sig1 (p.getD (n + 14) 0) + p.getD (n + 9) 0 + sig0 (p.getD (n + 1) 0) + p.getD n 0) % 4294967296 := rfl
          rw [hnx] at HSn
          clear hnx hal
          obtain ⟨x14, h14⟩ : ∃ x, p.getD (n + 14) 0 = x := ⟨_, rfl⟩
          obtain ⟨x9, h9⟩ : ∃ x, p.getD (n + 9) 0 = x := ⟨_, rfl⟩
          obtain ⟨x1, h1⟩ : ∃ x, p.getD (n + 1) 0 = x := ⟨_, rfl⟩
          obtain ⟨x0, h0⟩ : ∃ x, p.getD n 0 = x := ⟨_, rfl⟩
          rw [h14] at W14 k14 HSn
          rw [h9] at W9 k9 HSn
          rw [h1] at W1 k1 HSn
          rw [h0] at W0 k0 HSn
          clear h14 h9 h1 h0
          have Y1 := thr_in x14 17 19 10 true W14 (by omega) (by omega) (by omega)
          have Y0 := thr_in x1 7 18 3 true W1 (by omega) (by omega) (by omega)
          have C1 : ∀ W, Bl w s p W → Calls Tryd.prog 55 #[.int .i64 x14, .agg #[.int .i64 17, .int .i64 19, .int .i64 10], .bool true] W fun e W' => e = .returned (.int .i64 (thr x14 17 19 10 true)) ∧ Bl w s p W' := fun W h => (three_any x14 17 19 10 true W14.1 W14.2 (by omega) (by omega) (by omega) W).mono (fun e W' h' => ⟨h'.1, h.next h'.2⟩)
          have C0 : ∀ W, Bl w s p W → Calls Tryd.prog 55 #[.int .i64 x1, .agg #[.int .i64 7, .int .i64 18, .int .i64 3], .bool true] W fun e W' => e = .returned (.int .i64 (thr x1 7 18 3 true)) ∧ Bl w s p W' := fun W h => (three_any x1 7 18 3 true W1.1 W1.2 (by omega) (by omega) (by omega) W).mono (fun e W' h' => ⟨h'.1, h.next h'.2⟩)
          rw [thr_sig1] at Y1 C1
          rw [thr_sig0] at Y0 C0
          obtain ⟨S1, hS1⟩ : ∃ x, sig1 x14 = x := ⟨_, rfl⟩
          obtain ⟨S0, hS0⟩ : ∃ x, sig0 x1 = x := ⟨_, rfl⟩
          rw [hS1] at Y1 C1 HSn
          rw [hS0] at Y0 C0 HSn
          clear hS1 hS0
          obtain ⟨y11, y12⟩ := Y1
          obtain ⟨y01, y02⟩ := Y0
          obtain ⟨w91, w92⟩ := W9
          obtain ⟨w01, w02⟩ := W0
          clear W14 W1
          obtain ⟨Z, hZ⟩ : ∃ z, (S1 + x9 + S0 + x0) % 4294967296 = z := ⟨_, rfl⟩
          rw [hZ] at HSn
          have HZ2 := Lib.hid hZ
          have K14 := Lib.hid k14
          have K9 := Lib.hid k9
          have K1 := Lib.hid k1
          have K0 := Lib.hid k0
          have CC1 := Lib.hid C1
          have CC0 := Lib.hid C0
          have HBl := Lib.hid hbl
          clear k14 k9 k1 k0 C1 C0 hZ hbl
          go_upto_region 9 with fail
          refine wp_region_quiet_tailR (C := fun W => Bl w s p W) 26 (by kernel_rfl) (by kernel_rfl) HBl.out.drew ?_
          simp only [List.take_succ_cons, List.take_zero, List.drop_succ_cons, List.drop_zero]
          refine q_val _ rfl (fun _ _ => rfl) ?_
          simp only [Act.put, List.setIfInBounds_toArray, List.set_cons_succ, List.set_cons_zero]
          refine q_val _ rfl (fun _ _ => rfl) ?_
          simp only [Act.put, List.setIfInBounds_toArray, List.set_cons_succ, List.set_cons_zero]
          refine q_val (.int .i64 ((n + 14 : Nat) : Int)) rfl (fun W hW => exec_bin .sub (.tmp 60) (.const (.int .i64 2)) rfl rfl (k : Int) 2 ((n + 14 : Nat) : Int) rfl rfl (run_sub _ _ _ (by omega) (by omega) (by omega))) ?_
          simp only [Act.put, List.setIfInBounds_toArray, List.set_cons_succ, List.set_cons_zero]
          refine q_val (.pointer (some ⟨w.heap.size + 2, n + 14, none⟩)) rfl (fun W hW => exec_idx 93 3 64 Tryd.underlying93 size3 (.tmp 5) (.tmp 61) rfl (w.heap.size + 2) (n + 14) rfl rfl (by omega)) ?_
          simp only [Act.put, List.setIfInBounds_toArray, List.set_cons_succ, List.set_cons_zero]
          refine q_val (.int .i64 x14) rfl (fun W hW => exec_load_int (.tmp 62) rfl (w.heap.size + 2) (n + 14) x14 rfl (K14.out W hW)) ?_
          simp only [Act.put, List.setIfInBounds_toArray, List.set_cons_succ, List.set_cons_zero]
          refine q_val (.agg #[.int .i64 17, .int .i64 19, .int .i64 10]) rfl (fun W hW => exec_built 95 _ rfl _ (by kernel_rfl)) ?_
          simp only [Act.put, List.setIfInBounds_toArray, List.set_cons_succ, List.set_cons_zero]
          refine q_call 55 #[.int .i64 x14, .agg #[.int .i64 17, .int .i64 19, .int .i64 10], .bool true] (.int .i64 S1) rfl (fun _ _ => exec_call3 55 (.tmp 63) (.tmp 64) (.const (.bool true)) #[3, 95, 4] _ _ _ rfl rfl rfl rfl (cf28 _ _)) (fun W hW => CC1.out W hW) ?_
          simp only [Act.put, List.setIfInBounds_toArray, List.set_cons_succ, List.set_cons_zero]
          refine q_val _ rfl (fun _ _ => rfl) ?_
          simp only [Act.put, List.setIfInBounds_toArray, List.set_cons_succ, List.set_cons_zero]
          refine q_val (.int .i64 ((n + 9 : Nat) : Int)) rfl (fun W hW => exec_bin .sub (.tmp 66) (.const (.int .i64 7)) rfl rfl (k : Int) 7 ((n + 9 : Nat) : Int) rfl rfl (run_sub _ _ _ (by omega) (by omega) (by omega))) ?_
          simp only [Act.put, List.setIfInBounds_toArray, List.set_cons_succ, List.set_cons_zero]
          refine q_val (.pointer (some ⟨w.heap.size + 2, n + 9, none⟩)) rfl (fun W hW => exec_idx 93 3 64 Tryd.underlying93 size3 (.tmp 5) (.tmp 67) rfl (w.heap.size + 2) (n + 9) rfl rfl (by omega)) ?_
          simp only [Act.put, List.setIfInBounds_toArray, List.set_cons_succ, List.set_cons_zero]
          refine q_val (.int .i64 x9) rfl (fun W hW => exec_load_int (.tmp 68) rfl (w.heap.size + 2) (n + 9) x9 rfl (K9.out W hW)) ?_
          simp only [Act.put, List.setIfInBounds_toArray, List.set_cons_succ, List.set_cons_zero]
          refine q_val (.int .i64 (S1 + x9)) rfl (fun W hW => exec_bin .add (.tmp 65) (.tmp 69) rfl rfl (S1) x9 _ rfl rfl (run_add _ _ _ rfl (by omega) (by omega))) ?_
          simp only [Act.put, List.setIfInBounds_toArray, List.set_cons_succ, List.set_cons_zero]
          refine q_val _ rfl (fun _ _ => rfl) ?_
          simp only [Act.put, List.setIfInBounds_toArray, List.set_cons_succ, List.set_cons_zero]
          refine q_val (.int .i64 ((n + 1 : Nat) : Int)) rfl (fun W hW => exec_bin .sub (.tmp 71) (.const (.int .i64 15)) rfl rfl (k : Int) 15 ((n + 1 : Nat) : Int) rfl rfl (run_sub _ _ _ (by omega) (by omega) (by omega))) ?_
          simp only [Act.put, List.setIfInBounds_toArray, List.set_cons_succ, List.set_cons_zero]
          refine q_val (.pointer (some ⟨w.heap.size + 2, n + 1, none⟩)) rfl (fun W hW => exec_idx 93 3 64 Tryd.underlying93 size3 (.tmp 5) (.tmp 72) rfl (w.heap.size + 2) (n + 1) rfl rfl (by omega)) ?_
          simp only [Act.put, List.setIfInBounds_toArray, List.set_cons_succ, List.set_cons_zero]
          refine q_val (.int .i64 x1) rfl (fun W hW => exec_load_int (.tmp 73) rfl (w.heap.size + 2) (n + 1) x1 rfl (K1.out W hW)) ?_
          simp only [Act.put, List.setIfInBounds_toArray, List.set_cons_succ, List.set_cons_zero]
          refine q_val (.agg #[.int .i64 7, .int .i64 18, .int .i64 3]) rfl (fun W hW => exec_built 95 _ rfl _ (by kernel_rfl)) ?_
          simp only [Act.put, List.setIfInBounds_toArray, List.set_cons_succ, List.set_cons_zero]
          refine q_call 55 #[.int .i64 x1, .agg #[.int .i64 7, .int .i64 18, .int .i64 3], .bool true] (.int .i64 S0) rfl (fun _ _ => exec_call3 55 (.tmp 74) (.tmp 75) (.const (.bool true)) #[3, 95, 4] _ _ _ rfl rfl rfl rfl (cf28 _ _)) (fun W hW => CC0.out W hW) ?_
          simp only [Act.put, List.setIfInBounds_toArray, List.set_cons_succ, List.set_cons_zero]
          refine q_val (.int .i64 (S1 + x9 + S0)) rfl (fun W hW => exec_bin .add (.tmp 70) (.tmp 76) rfl rfl (S1 + x9) S0 _ rfl rfl (run_add _ _ _ rfl (by omega) (by omega))) ?_
          simp only [Act.put, List.setIfInBounds_toArray, List.set_cons_succ, List.set_cons_zero]
          refine q_val _ rfl (fun _ _ => rfl) ?_
          simp only [Act.put, List.setIfInBounds_toArray, List.set_cons_succ, List.set_cons_zero]
          refine q_val (.int .i64 ((n : Nat) : Int)) rfl (fun W hW => exec_bin .sub (.tmp 78) (.const (.int .i64 16)) rfl rfl (k : Int) 16 ((n : Nat) : Int) rfl rfl (run_sub _ _ _ (by omega) (by omega) (by omega))) ?_
          simp only [Act.put, List.setIfInBounds_toArray, List.set_cons_succ, List.set_cons_zero]
          refine q_val (.pointer (some ⟨w.heap.size + 2, n, none⟩)) rfl (fun W hW => exec_idx 93 3 64 Tryd.underlying93 size3 (.tmp 5) (.tmp 79) rfl (w.heap.size + 2) (n) rfl rfl (by omega)) ?_
          simp only [Act.put, List.setIfInBounds_toArray, List.set_cons_succ, List.set_cons_zero]
          refine q_val (.int .i64 x0) rfl (fun W hW => exec_load_int (.tmp 80) rfl (w.heap.size + 2) (n) x0 rfl (K0.out W hW)) ?_
          simp only [Act.put, List.setIfInBounds_toArray, List.set_cons_succ, List.set_cons_zero]
          refine q_val (.int .i64 (S1 + x9 + S0 + x0)) rfl (fun W hW => exec_bin .add (.tmp 77) (.tmp 81) rfl rfl (S1 + x9 + S0) x0 _ rfl rfl (run_add _ _ _ rfl (by omega) (by omega))) ?_
          simp only [Act.put, List.setIfInBounds_toArray, List.set_cons_succ, List.set_cons_zero]
          refine q_val (.int .i64 Z) rfl (fun W hW => exec_bin .rem (.tmp 82) (.const (.int .i64 4294967296)) rfl rfl (S1 + x9 + S0 + x0) 4294967296 Z rfl rfl (run_rem _ _ _ HZ2.out (by omega) (by omega) (by omega))) ?_
          simp only [Act.put, List.setIfInBounds_toArray, List.set_cons_succ, List.set_cons_zero]
          refine q_val (.pointer (some ⟨w.heap.size + 2, k, none⟩)) rfl (fun W hW => exec_idx 93 3 64 Tryd.underlying93 size3 (.tmp 5) (.tmp 59) rfl (w.heap.size + 2) k rfl rfl (by omega)) ?_
          simp only [Act.put, List.setIfInBounds_toArray, List.set_cons_succ, List.set_cons_zero]

          refine wpQuiet_nil ?_
          intro w2 h2
          have HPk := Lib.hid (show p.length = k by rw [HPl.out]; omega)
          have d1 := h2.some hp64 k (by omega)
          have f1 := h2.free k
          have HB2 := Lib.hid (h2.put (by rw [HPk.out]; exact hlt) k HPk.out Z)
          clear h2
          go_wp2
          clear d1 f1
          go_roundw
          case rel => exact ⟨k + 1, n + 1, by omega, by omega, by go_num, by rw [HSn.out]; exact HB2.out⟩
          case measure => simp [intOf]; omega
        · obtain rfl : k = 64 := by omega
          obtain rfl : n = 48 := by omega
          clear hk1 hk2 hn48 hlt
          rw [show ((64 : Nat) : Int) = 64 from rfl]
          have hdf : decide ((64 : Int) < 64) = false := by decide
          change Bl w s (words b) wr at hbl
          have HWl := Lib.hid (words_length b)
          have HWa : Hid (allW (words b)) := Lib.hid (ext_in _ (first_in b HR.out 16 (by rw [HL.out]; omega)) 48)
          have HTu : Hid (s.turn b = s.plus (s.rounds (words b) 64)) := Lib.hid rfl
          obtain ⟨ws, hws⟩ : ∃ x, words b = x := ⟨_, rfl⟩
          rw [hws] at hbl HWl HWa HTu
          have HBl := Lib.hid hbl
          have hz60 := zero60
          have hz48 := zero48
          have HZ := Lib.hid kcZ
          have HY := Lib.hid kcY
          have HX := Lib.hid (rowN_one kc)
          have HZs := Lib.hid (show (Tryd.prog.info? 75).map (·.size) = some (rowN s.list).size by rw [rowN_size]; exact size48)
          have HYs := Lib.hid (show (rowN (zs 8)).size = (rowN s.list).size by rw [rowN_size, rowN_size]; rfl)
          have HXs := Lib.hid (rowN_one s.list)
          obtain ⟨sl, hsl⟩ : ∃ x, s.list = x := ⟨_, rfl⟩
          have HSl := Lib.hid hsl
          rw [hsl] at HZs HYs HXs
          clear hws hbl hsl
          go_wp2_with fail
          refine (constants_any wr).mono ?_
          rintro e w2 ⟨rfl, hb2⟩
          have HB2 := Lib.hid (HBl.out.next hb2)
          clear hb2 HBl hdf
          go_upto_region 11 with (refine wpList_store_row rfl 93 (.tmp 8) (.tmp 85) rfl w2.heap.size (rowN kc) rfl rfl 93 _ (heap_alloc_new _ _) HZ.out HY.out HX.out ?_)
          refine gen_world (Q := fun w => Code.wp _ _ _ _ w) _ (fun W => Bl w s ws W ∧ W.heap[w2.heap.size]? = some (.cells (rowN kc) 93 (0, 0))) ⟨HB2.out.next (below_setRow ((Below.refl _ _).alloc (Nat.le_refl _) _) (Nat.le_refl _) _), setRow_heap _ _ _ _ _ _ (heap_alloc_new _ _)⟩ ?_
          rintro w3 ⟨h3, hk3⟩
          have hgk : w.heap.size + 2 < w2.heap.size := lt_of_row HB2.out.row
          have hgx : w2.heap.size < w3.heap.size := lt_of_row hk3
          obtain ⟨gk, hgkd⟩ : ∃ g, w2.heap.size = g := ⟨_, rfl⟩
          rw [hgkd] at hk3 hgk hgx ⊢
          have H3 := Lib.hid h3
          have HK3 := Lib.hid hk3
          have HBox := Lib.hid h3.box
          rw [HSl.out] at HBox
          clear h3 hk3 hgkd HB2
          go_upto_region 12 with (first
            | (refine wpList_load_row rfl 75 (.tmp 2) rfl w.heap.size rfl 75 (rowN sl) (0, 0) _ HBox.out Tryd.underlying75 rfl HZs.out ?_)
            | (refine wpList_store_row rfl 75 (.tmp 9) (.tmp 86) rfl w3.heap.size (rowN sl) rfl rfl 75 _ (heap_alloc_new _ _) HZs.out HYs.out HXs.out ?_))
          refine gen_world (Q := fun w => Code.wp _ _ _ _ w) _ (Bx w s ws gk w3.heap.size sl) ?_ ?_
          · have hb : Below w3.heap.size w3 ((w3.alloc (.cells (rowN (zs 8)) 75)).setRow w3.heap.size (rowN sl)) := below_setRow ((Below.refl _ _).alloc (Nat.le_refl _) _) (Nat.le_refl _) _
            exact ⟨H3.out.next hb, hgk, hgx, (hb.block _ hgx).trans HK3.out, setRow_heap _ _ _ _ _ _ (heap_alloc_new _ _)⟩
          generalize w3.heap.size = gx at hgx ⊢
          intro w4 hbx
          clear H3 HK3 HBox hz60 hz48 HZ HY HX w2 w3
          rw [← HSl.out] at hbx
          go_wp2
          go_loopw [10] (fun i wr => ∃ t : Nat, t ≤ 64 ∧ i = .int .i64 t ∧ Bx w s ws gk gx (s.rounds ws t).list wr) (fun i _ => 64 - (intOf i).toNat)
          case atStart => exact ⟨0, by omega, rfl, hbx⟩
          case round =>
            clear hbx
            obtain ⟨t, ht, rfl, hbx⟩ := hrel
            by_cases hlt : t < 64
            · have hdt : decide ((t : Int) < 64) = true := by simp; omega
              have hxw := rounds_in s ws HS.out t
              have HSt : Hid (s.rounds ws (t + 1) = (s.rounds ws t).step (kc.getD t 0) (ws.getD t 0)) := Lib.hid rfl
              have hkw := allW_get kc_in t (by show t < 64; exact hlt)
              have hww := allW_get HWa.out t (by rw [HWl.out]; exact hlt)
              have kK : ∀ l W, Bx w s ws gk gx l W → W.cell? ⟨gk, t, none⟩ = some (.int .i64 (kc.getD t 0)) := fun l W h => h.kcell t hlt
              have kW : ∀ l W, Bx w s ws gk gx l W → W.cell? ⟨w.heap.size + 2, t, none⟩ = some (.int .i64 (ws.getD t 0)) := fun l W h => h.bl.cell (by rw [HWl.out]; exact Nat.le_refl _) t (by rw [HWl.out]; exact hlt)
              obtain ⟨kt, hkt⟩ : ∃ x, kc.getD t 0 = x := ⟨_, rfl⟩
              obtain ⟨wt, hwt⟩ : ∃ x, ws.getD t 0 = x := ⟨_, rfl⟩
              rw [hkt] at HSt hkw kK
              rw [hwt] at HSt hww kW
              clear hkt hwt
              obtain ⟨⟨xa, xb, xc, xd, xe, xf, xg, xh⟩, hx⟩ : ∃ x, s.rounds ws t = x := ⟨_, rfl⟩
              rw [hx] at hxw HSt hbx
              clear hx
              have Wa : W32 xa := hxw _ (by simp [St.list])
              have Wb : W32 xb := hxw _ (by simp [St.list])
              have Wc : W32 xc := hxw _ (by simp [St.list])
              have Wd : W32 xd := hxw _ (by simp [St.list])
              have We : W32 xe := hxw _ (by simp [St.list])
              have Wf : W32 xf := hxw _ (by simp [St.list])
              have Wg : W32 xg := hxw _ (by simp [St.list])
              have Wh : W32 xh := hxw _ (by simp [St.list])
              change Bx w s ws gk gx [xa, xb, xc, xd, xe, xf, xg, xh] wr at hbx
              have hch := choice64 xe xf xg We Wf Wg
              have hmj := majority64 xa xb xc Wa Wb Wc
              have Wch := choice_in xe xf xg We Wf Wg
              have Wmj := majority_in xa xb xc Wa Wb Wc
              have HLate := Lib.hid (fun p q hp hq => step_late ⟨xa, xb, xc, xd, xe, xf, xg, xh⟩ kt wt p q hp hq)
              have Wb1 := thr_in xe 6 11 25 false We (by omega) (by omega) (by omega)
              have Wb0 := thr_in xa 2 13 22 false Wa (by omega) (by omega) (by omega)
              have C1 : ∀ W, Bx w s ws gk gx [xa, xb, xc, xd, xe, xf, xg, xh] W → Calls Tryd.prog 55 #[.int .i64 xe, .agg #[.int .i64 6, .int .i64 11, .int .i64 25], .bool false] W fun e W' => e = .returned (.int .i64 (thr xe 6 11 25 false)) ∧ Bx w s ws gk gx [xa, xb, xc, xd, xe, xf, xg, xh] W' := fun W h => (three_any xe 6 11 25 false We.1 We.2 (by omega) (by omega) (by omega) W).mono (fun e W' h' => ⟨h'.1, h.next h'.2⟩)
              have C0 : ∀ W, Bx w s ws gk gx [xa, xb, xc, xd, xe, xf, xg, xh] W → Calls Tryd.prog 55 #[.int .i64 xa, .agg #[.int .i64 2, .int .i64 13, .int .i64 22], .bool false] W fun e W' => e = .returned (.int .i64 (thr xa 2 13 22 false)) ∧ Bx w s ws gk gx [xa, xb, xc, xd, xe, xf, xg, xh] W' := fun W h => (three_any xa 2 13 22 false Wa.1 Wa.2 (by omega) (by omega) (by omega) W).mono (fun e W' h' => ⟨h'.1, h.next h'.2⟩)
              rw [thr_bsig1] at Wb1 C1
              rw [thr_bsig0] at Wb0 C0
              simp only at HLate
              obtain ⟨CH, hCH⟩ : ∃ x, choice xe xf xg = x := ⟨_, rfl⟩
              obtain ⟨MJ, hMJ⟩ : ∃ x, majority xa xb xc = x := ⟨_, rfl⟩
              obtain ⟨B1, hB1⟩ : ∃ x, bsig1 xe = x := ⟨_, rfl⟩
              obtain ⟨B0, hB0⟩ : ∃ x, bsig0 xa = x := ⟨_, rfl⟩
              rw [hCH] at hch Wch HLate
              rw [hMJ] at hmj Wmj HLate
              rw [hB1] at Wb1 C1 HLate
              rw [hB0] at Wb0 C0 HLate
              clear hCH hMJ hB1 hB0 hxw
              obtain ⟨wa1, wa2⟩ := Wa
              obtain ⟨wd1, wd2⟩ := Wd
              obtain ⟨we1, we2⟩ := We
              obtain ⟨wh1, wh2⟩ := Wh
              obtain ⟨wk1, wk2⟩ := hkw
              obtain ⟨ww1, ww2⟩ := hww
              obtain ⟨wc1, wc2⟩ := Wch
              obtain ⟨wm1, wm2⟩ := Wmj
              obtain ⟨v11, v12⟩ := Wb1
              obtain ⟨v01, v02⟩ := Wb0
              clear Wb Wc Wf Wg
              have CC1 := Lib.hid C1
              have CC0 := Lib.hid C0
              have KK := Lib.hid kK
              have KW := Lib.hid kW
              have HBx := Lib.hid hbx
              clear C1 C0 kK kW
              have q0 : wr.cell? ⟨gx, 0, none⟩ = some (.int .i64 xa) := hbx.cell 0 (by show _ < 8; omega)
              have q1 : wr.cell? ⟨gx, 1, none⟩ = some (.int .i64 xb) := hbx.cell 1 (by show _ < 8; omega)
              have q2 : wr.cell? ⟨gx, 2, none⟩ = some (.int .i64 xc) := hbx.cell 2 (by show _ < 8; omega)
              have q3 : wr.cell? ⟨gx, 3, none⟩ = some (.int .i64 xd) := hbx.cell 3 (by show _ < 8; omega)
              have q4 : wr.cell? ⟨gx, 4, none⟩ = some (.int .i64 xe) := hbx.cell 4 (by show _ < 8; omega)
              have q5 : wr.cell? ⟨gx, 5, none⟩ = some (.int .i64 xf) := hbx.cell 5 (by show _ < 8; omega)
              have q6 : wr.cell? ⟨gx, 6, none⟩ = some (.int .i64 xg) := hbx.cell 6 (by show _ < 8; omega)
              have q7 : wr.cell? ⟨gx, 7, none⟩ = some (.int .i64 xh) := hbx.cell 7 (by show _ < 8; omega)

              clear hbx
              go_upto_region 17 with fail
              clear hch hmj q0 q1 q2 q3 q4 q5 q6 q7
              refine wp_region_quiet (C := fun W => Bx w s ws gk gx [xa, xb, xc, xd, xe, xf, xg, xh] W) (by kernel_rfl) (by kernel_rfl) HBx.out.drew ?_
              refine q_val (.pointer (some ⟨gx, 7, none⟩)) rfl (fun W hW => exec_idx 75 3 8 Tryd.underlying75 size3 (.tmp 9) (.const (.int .i64 7)) rfl gx 7 rfl rfl (by omega)) ?_
              simp only [Act.put, List.setIfInBounds_toArray, List.set_cons_succ, List.set_cons_zero]
              refine q_val (.int .i64 xh) rfl (fun W hW => exec_load_int (.tmp 120) rfl gx 7 xh rfl (hW.cell 7 (by show _ < 8; omega))) ?_
              simp only [Act.put, List.setIfInBounds_toArray, List.set_cons_succ, List.set_cons_zero]
              refine q_val (.pointer (some ⟨gx, 4, none⟩)) rfl (fun W hW => exec_idx 75 3 8 Tryd.underlying75 size3 (.tmp 9) (.const (.int .i64 4)) rfl gx 4 rfl rfl (by omega)) ?_
              simp only [Act.put, List.setIfInBounds_toArray, List.set_cons_succ, List.set_cons_zero]
              refine q_val (.int .i64 xe) rfl (fun W hW => exec_load_int (.tmp 122) rfl gx 4 xe rfl (hW.cell 4 (by show _ < 8; omega))) ?_
              simp only [Act.put, List.setIfInBounds_toArray, List.set_cons_succ, List.set_cons_zero]
              refine q_val (.agg #[.int .i64 6, .int .i64 11, .int .i64 25]) rfl (fun W hW => exec_built 95 _ rfl _ (by kernel_rfl)) ?_
              simp only [Act.put, List.setIfInBounds_toArray, List.set_cons_succ, List.set_cons_zero]
              refine q_call 55 #[.int .i64 xe, .agg #[.int .i64 6, .int .i64 11, .int .i64 25], .bool false] (.int .i64 B1) rfl (fun _ _ => exec_call3 55 (.tmp 123) (.tmp 124) (.const (.bool false)) #[3, 95, 4] _ _ _ rfl rfl rfl rfl (cf28 _ _)) (fun W hW => CC1.out W hW) ?_
              simp only [Act.put, List.setIfInBounds_toArray, List.set_cons_succ, List.set_cons_zero]
              refine q_val (.int .i64 (xh + B1)) rfl (fun W hW => exec_bin .add (.tmp 121) (.tmp 125) rfl rfl (xh) B1 _ rfl rfl (run_add _ _ _ rfl (by omega) (by omega))) ?_
              simp only [Act.put, List.setIfInBounds_toArray, List.set_cons_succ, List.set_cons_zero]
              refine q_val _ rfl (fun _ _ => rfl) ?_
              simp only [Act.put, List.setIfInBounds_toArray, List.set_cons_succ, List.set_cons_zero]
              refine q_val (.int .i64 (xh + B1 + CH)) rfl (fun W hW => exec_bin .add (.tmp 126) (.tmp 127) rfl rfl (xh + B1) CH _ rfl rfl (run_add _ _ _ rfl (by omega) (by omega))) ?_
              simp only [Act.put, List.setIfInBounds_toArray, List.set_cons_succ, List.set_cons_zero]
              refine q_val _ rfl (fun _ _ => rfl) ?_
              simp only [Act.put, List.setIfInBounds_toArray, List.set_cons_succ, List.set_cons_zero]
              refine q_val (.pointer (some ⟨gk, t, none⟩)) rfl (fun W hW => exec_idx 93 3 64 Tryd.underlying93 size3 (.tmp 8) (.tmp 129) rfl gk t rfl rfl hlt) ?_
              simp only [Act.put, List.setIfInBounds_toArray, List.set_cons_succ, List.set_cons_zero]
              refine q_val (.int .i64 kt) rfl (fun W hW => exec_load_int (.tmp 130) rfl gk t kt rfl (KK.out _ W hW)) ?_
              simp only [Act.put, List.setIfInBounds_toArray, List.set_cons_succ, List.set_cons_zero]
              refine q_val (.int .i64 (xh + B1 + CH + kt)) rfl (fun W hW => exec_bin .add (.tmp 128) (.tmp 131) rfl rfl (xh + B1 + CH) kt _ rfl rfl (run_add _ _ _ rfl (by omega) (by omega))) ?_
              simp only [Act.put, List.setIfInBounds_toArray, List.set_cons_succ, List.set_cons_zero]
              refine q_val _ rfl (fun _ _ => rfl) ?_
              simp only [Act.put, List.setIfInBounds_toArray, List.set_cons_succ, List.set_cons_zero]
              refine q_val (.pointer (some ⟨w.heap.size + 2, t, none⟩)) rfl (fun W hW => exec_idx 93 3 64 Tryd.underlying93 size3 (.tmp 5) (.tmp 133) rfl (w.heap.size + 2) t rfl rfl hlt) ?_
              simp only [Act.put, List.setIfInBounds_toArray, List.set_cons_succ, List.set_cons_zero]
              refine q_val (.int .i64 wt) rfl (fun W hW => exec_load_int (.tmp 134) rfl (w.heap.size + 2) t wt rfl (KW.out _ W hW)) ?_
              simp only [Act.put, List.setIfInBounds_toArray, List.set_cons_succ, List.set_cons_zero]
              refine q_val (.int .i64 (xh + B1 + CH + kt + wt)) rfl (fun W hW => exec_bin .add (.tmp 132) (.tmp 135) rfl rfl (xh + B1 + CH + kt) wt _ rfl rfl (run_add _ _ _ rfl (by omega) (by omega))) ?_
              simp only [Act.put, List.setIfInBounds_toArray, List.set_cons_succ, List.set_cons_zero]
              refine q_val _ rfl (fun _ _ => rfl) ?_
              simp only [Act.put, List.setIfInBounds_toArray, List.set_cons_succ, List.set_cons_zero]

              refine wpQuiet_nil ?_
              intro w5 h5
              obtain ⟨Pp, hPp⟩ : ∃ p, xh + B1 + CH + kt + wt = p := ⟨_, rfl⟩
              have hP1 : 0 ≤ Pp := by omega
              have hP2 : Pp ≤ 30000000000 := by omega
              rw [hPp]
              have HPp := Lib.hid hPp
              clear hPp
              have q0 : w5.cell? ⟨gx, 0, none⟩ = some (.int .i64 xa) := h5.cell 0 (by show _ < 8; omega)
              have HB5 := Lib.hid h5
              clear h5
              go_wp2_with (refine wpList_built rfl 95 _ rfl #[.int .i64 2, .int .i64 13, .int .i64 22] (by kernel_rfl) ?_)
              refine (CC0.out w5 HB5.out).mono ?_
              rintro e w6 ⟨rfl, h6⟩
              clear q0 HB5
              have q0 : w6.cell? ⟨gx, 0, none⟩ = some (.int .i64 xa) := h6.cell 0 (by show _ < 8; omega)
              have q1 : w6.cell? ⟨gx, 1, none⟩ = some (.int .i64 xb) := h6.cell 1 (by show _ < 8; omega)
              have q2 : w6.cell? ⟨gx, 2, none⟩ = some (.int .i64 xc) := h6.cell 2 (by show _ < 8; omega)
              have q3 : w6.cell? ⟨gx, 3, none⟩ = some (.int .i64 xd) := h6.cell 3 (by show _ < 8; omega)
              have q4 : w6.cell? ⟨gx, 4, none⟩ = some (.int .i64 xe) := h6.cell 4 (by show _ < 8; omega)
              have q5 : w6.cell? ⟨gx, 5, none⟩ = some (.int .i64 xf) := h6.cell 5 (by show _ < 8; omega)
              have q6 : w6.cell? ⟨gx, 6, none⟩ = some (.int .i64 xg) := h6.cell 6 (by show _ < 8; omega)
              have q7 : w6.cell? ⟨gx, 7, none⟩ = some (.int .i64 xh) := h6.cell 7 (by show _ < 8; omega)

              have HB6 := Lib.hid h6
              clear h6
              obtain ⟨Qq, hQq⟩ : ∃ q, B0 + MJ = q := ⟨_, rfl⟩
              have hQ1 : 0 ≤ Qq := by omega
              have hQ2 : Qq ≤ 10000000000 := by omega
              have HQq := Lib.hid hQq
              have HLt := Lib.hid (HLate.out Pp Qq HPp.out.symm hQq.symm)
              go_upto_region 19 with fail
              clear hQq
              obtain ⟨N1, hN1⟩ : ∃ x, (Pp + Qq) % 4294967296 = x := ⟨_, rfl⟩
              obtain ⟨N2, hN2⟩ : ∃ x, (xd + Pp) % 4294967296 = x := ⟨_, rfl⟩
              rw [hN1, hN2] at HLt
              have HZn := Lib.hid (show (Tryd.prog.info? 75).map (·.size) = some (rowN [N1, xa, xb, xc, N2, xe, xf, xg]).size by rw [rowN_size]; exact size48)
              have HYn := Lib.hid (show (rowN [xa, xb, xc, xd, xe, xf, xg, xh]).size = (rowN [N1, xa, xb, xc, N2, xe, xf, xg]).size by rw [rowN_size, rowN_size]; rfl)
              have HXn := Lib.hid (rowN_one [N1, xa, xb, xc, N2, xe, xf, xg])
              have HSt6 := Lib.hid HB6.out.st
              go_wp2_with (first
                | (refine wpList_build48 rfl (.tmp 146) (.tmp 148) (.tmp 150) (.tmp 152) (.tmp 157) (.tmp 159) (.tmp 161) (.tmp 163) rfl N1 xa xb xc N2 xe xf xg rfl rfl rfl rfl rfl rfl rfl rfl ?_)
                | (refine wpList_store_row rfl 75 (.tmp 9) (.tmp 164) rfl gx (rowN [N1, xa, xb, xc, N2, xe, xf, xg]) rfl rfl 75 _ HSt6.out HZn.out HYn.out HXn.out ?_))
              clear q0 q1 q2 q3 q4 q5 q6 q7 hN1 hN2
              go_roundw
              case rel => exact ⟨t + 1, by omega, by go_num, by rw [HSt.out, HLt.out]; exact HB6.out.store _⟩
              case measure => simp [intOf]; omega

            · obtain rfl : t = 64 := by omega
              clear ht hlt
              rw [show ((64 : Nat) : Int) = 64 from rfl]
              have hdf : decide ((64 : Int) < 64) = false := by decide
              obtain ⟨x, hx⟩ : ∃ x, s.rounds ws 64 = x := ⟨_, rfl⟩
              have XI : Hid (allW x.list) := Lib.hid (by rw [← hx]; exact rounds_in s ws HS.out 64)
              rw [hx] at hbx HTu
              clear hx
              have HXl := Lib.hid (show x.list.length = 8 from rfl)
              have HFin := Lib.hid (mix_swap x s)
              go_wp2
              clear hdf
              go_loopw [15] (fun i wr => ∃ k : Nat, k ≤ 8 ∧ i = .int .i64 k ∧ Bx w s ws gk gx (mix x.list s.list k) wr) (fun i _ => 8 - (intOf i).toNat)
              case atStart => exact ⟨0, by omega, rfl, hbx⟩
              case round =>
                clear hbx
                obtain ⟨k, hk, rfl, hbx⟩ := hrel
                by_cases hlt : k < 8
                · have hdt : decide ((k : Int) < 8) = true := by simp; omega
                  have HMl := Lib.hid (mix_length x.list s.list k)
                  have HMn : Hid (mix x.list s.list (k + 1) = (mix x.list s.list k).set k ((x.list.getD k 0 + s.list.getD k 0) % 4294967296)) := Lib.hid rfl
                  have hd := hbx.drew
                  have c1 := hd.cell k (by rw [HMl.out, HXl.out]; exact hlt)
                  rw [mix_get x.list s.list k k (Nat.le_refl _)] at c1
                  have c2 : wr.drew.cell? ⟨w.heap.size, k, none⟩ = some (.int .i64 (s.list.getD k 0)) := by rw [cell_of_row _ _ _ _ _ _ hd.bl.box, rowN_get _ _ hlt]
                  have X1 := allW_get (l := x.list) XI.out k hlt
                  have S1 := allW_get HS.out k hlt
                  have f1 := hd.free k
                  obtain ⟨u, hu⟩ : ∃ u, x.list.getD k 0 = u := ⟨_, rfl⟩
                  obtain ⟨v, hv⟩ : ∃ v, s.list.getD k 0 = v := ⟨_, rfl⟩
                  rw [hu] at c1 X1 HMn
                  rw [hv] at c2 S1 HMn
                  clear hu hv
                  obtain ⟨x11, x12⟩ := X1
                  obtain ⟨s11, s12⟩ := S1
                  have HBx := Lib.hid hd
                  clear hd hbx
                  have e1 : IntKind.i64.wrap (u + v) = u + v := IntWalk.i64_in _ (by omega)
                  have e2 : (u + v).tmod 4294967296 = (u + v) % 4294967296 := Int.tmod_eq_emod_of_nonneg (by omega)
                  have y4 : (k : Int) < 8 := by omega
                  go_upto_region 23 with fail
                  go_still_tail 10, (by kernel_rfl)
                  change wpList _ _ _ _ _ wr.drew
                  clear e1 y4 c2
                  generalize wr.drew = w7 at HBx c1 f1 ⊢
                  go_wp2
                  clear c1 f1
                  go_roundw
                  case rel => exact ⟨k + 1, by omega, by go_num, by rw [HMn.out]; exact HBx.out.put k _⟩
                  case measure => simp [intOf]; omega
                · obtain rfl : k = 8 := by omega
                  clear hk hlt
                  rw [show ((8 : Nat) : Int) = 8 from rfl]
                  have hdf : decide ((8 : Int) < 8) = false := by decide
                  rw [HFin.out, ← HTu.out] at hbx
                  obtain ⟨D, hD⟩ : ∃ D, (s.turn b).list = D := ⟨_, rfl⟩
                  have HDl := Lib.hid (show D.length = 8 by rw [← hD]; rfl)
                  rw [hD] at hbx
                  have HD := Lib.hid hD
                  have HZd := Lib.hid (show (Tryd.prog.info? 75).map (·.size) = some (rowN D).size by rw [rowN_size, HDl.out]; exact size48)
                  have HYd := Lib.hid (show (rowN (zs 8)).size = (rowN D).size by rw [rowN_size, rowN_size, HDl.out]; rfl)
                  have HXd := Lib.hid (rowN_one D)
                  have HRd := Lib.hid hbx.st
                  have HQd := Lib.hid hbx.bl.res
                  have HBd := Lib.hid hbx.bl.below
                  clear hD hbx
                  go_wp2_with (first
                    | (refine wpList_load_row rfl 75 (.tmp 9) rfl gx rfl 75 (rowN D) (0, 0) _ HRd.out Tryd.underlying75 rfl HZd.out ?_)
                    | (refine wpList_store_row rfl 75 (.tmp 4) (.tmp 179) rfl (w.heap.size + 1) (rowN D) rfl rfl 75 _ HQd.out HZd.out HYd.out HXd.out ?_))
                  exact bodyPost_ret (v := .agg (rowN D)) (results_cell_row Tryd.results42 _ _ (w.heap.size + 1) 75 (rowN D) (0, 0) _ rfl (setRow_heap _ _ _ _ _ _ HQd.out) Tryd.underlying75 rfl HZd.out) rfl ⟨by rw [HD.out], below_setRow HBd.out (by omega) _⟩
end Go.Proofs.YtmolkbmdfkeniaaDoor
