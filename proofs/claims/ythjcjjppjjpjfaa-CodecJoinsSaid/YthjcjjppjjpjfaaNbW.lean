import Derived.Test.YthjcjjppjjpjfaaRn
import Derived.Test.YthjcjjppjjpjfaaRi
import Derived.Test.YthjcjjppjjpjfaaCu
namespace Go.Proofs.Ythjcjjppjjpjfaa
open Go.ChangeShapes Go.WideShapes Go.ChangeAt Go.RowKit

/-- b[k:h] -/
theorem run_mid (sp : Option Addr) (m cap k h : Nat) (hk : k ≤ h) (hh : h ≤ cap) (w : World) : (Instr.slice 23 (.slice sp m cap) (some (.int .i64 (k : Int))) (some (.int .i64 (h : Int))) none).run Try.prog w = .ok (.slice (cutA sp cap k) (h - k) (cap - k)) w := by
  cases hq : Try.prog.info? 5 with
  | none => have := size5; simp [hq] at this
  | some i =>
    have hi : i.size = 1 := by have := size5; simpa [hq] using this
    simp only [Instr.slice, run_underlying Try.underlying23, Instr.sliceBounds, Instr.sliceBound, asIntOf, sizeOf, typeInfo, Sem.run_bind, Result.andThen_ok, Sem.run_pure, Sem.run_ite]
    simp [hq, hi, hk, hh, cutA]
set_option maxRecDepth 100000 in
set_option maxHeartbeats 8000000 in
theorem numbers_walk (w : World) (E B : Option Addr) (M K F D : Nat) (ms b : List Int) (hM : ms.length = M) (hK : b.length = K) (hm : Nums w E F ms) (hb : Bytes w B D b)
    (hr : ∀ x ∈ ms, -9223372036854775808 ≤ x ∧ x ≤ 9223372036854775807) :
    Calls Try.prog 4 #[.slice E M F, .slice B K D] w fun e w' => e = .returned (.bool true) ∧ Below w.heap.size w w' := by
  have hMm : M ≤ 9223372036854775807 := by rw [← hM]; have := Sl.len hm; simpa using this
  have hKm : K ≤ 9223372036854775807 := by rw [← hK]; exact hb.len
  have hKD : K ≤ D := by rw [← hK]; exact hb.le
  have HM := Lib.hid hM
  have HK := Lib.hid hK
  have HMs : Hid (Nums w E F ms) := Lib.hid hm
  have HB := Lib.hid hb
  have HR := Lib.hid hr
  clear hM hK hm hb hr
  by_cases hM60 : M ≤ 60
  · have hd1 : decide ((60 : Int) < (M : Int)) = false := by simp; omega
    by_cases hK3 : K ≤ 300
    · have hd2 : decide ((300 : Int) < (K : Int)) = false := by simp; omega
      obtain ⟨M8, hM8⟩ : ∃ x, 8 * M = x := ⟨_, rfl⟩
      have HNl := Lib.hid (show (nums ms).length = M8 by rw [nums_length, HM.out, hM8])
      have HM8 := Lib.hid hM8
      clear hM8
      go_enter Try.func4, Try.ntmps4
      go_wp2_with fail
      refine (numbers_any w E F M ms HM.out HMs.out (by omega)).mono ?_
      rintro e w1 ⟨s1, c1, rfl, hb1, hw1⟩
      rw [HM8.out]
      have HW1 := Lib.hid hw1
      have HB1 := Lib.hid hb1
      clear hb1 hw1
      go_wp2_with fail
      refine (ref_numbers w1 E F M ms HM.out (Sl.below HMs.out (Nat.le_refl _) HW1.out) HR.out (by omega)).mono ?_
      rintro e w2 ⟨s2, c2, rfl, hb2, hw2⟩
      rw [HM8.out]
      have HW2 := Lib.hid (HW1.out.trans (hw2.mono HW1.out.size))
      have HB12 := Lib.hid (HB1.out.below hw2)
      have HB2 := Lib.hid hb2
      clear hb2 hw2 HW1 HB1
      go_wp2_with fail
      refine (bytes_any w2 s1 s2 M8 M8 c1 c2 (nums ms) (nums ms) HNl.out HNl.out HB12.out HB2.out).mono ?_
      rintro e w3 ht
      obtain ⟨rfl, hb3⟩ := ht.below
      rw [decide_eq_true rfl]
      have HW3 := Lib.hid (HW2.out.trans (hb3.mono HW2.out.size))
      have HB3 := Lib.hid (HB.out.below HW3.out)
      clear ht hb3 HW2 HB12 HB2
      by_cases h8 : K % 8 = 0
      · have hd3 : (((K : Int) % 8) != 0) = false := by rw [bne_eq_false_iff_eq]; omega
        have HQ8 := Lib.hid (show K = 8 * (K / 8) by omega)
        have hdv : (K : Int) / 8 = ((K / 8 : Nat) : Int) := by omega
        have hq8 : K / 8 ≤ 100 := by omega
        have HIl := Lib.hid (ints_length b (K / 8))
        obtain ⟨r, hr⟩ : ∃ r, K / 8 = r := ⟨_, rfl⟩
        rw [hr] at HQ8 hq8 HIl hdv
        have hrK : 8 * r ≤ K := by omega
        clear hr h8
        have hne : ((r : Int) != (r : Int)) = false := by simp
        go_wp2_with fail
        refine (ints_ok w3 B K D r b HK.out HQ8.out HB3.out (by omega)).mono ?_
        rintro e w4 ⟨g4, rfl, hn4, hw4⟩
        have HW4 := Lib.hid (HW3.out.trans (hw4.mono HW3.out.size))
        have HB4 := Lib.hid (HB3.out.below hw4)
        have HN4 : Hid (Nums w4 (some ⟨g4, 0, none⟩) r (ints b r)) := Lib.hid hn4
        clear hn4 hw4 HW3 HB3
        go_wp2
        clear hd3 hdv hne
        go_loopw [7] (fun i wr => ∃ k : Nat, k ≤ r ∧ i = .int .i64 k ∧ ∃ q, wr = w4.drewN q) (fun i _ => r - (intOf i).toNat)
        case atStart => exact ⟨0, by omega, rfl, 0, rfl⟩
        case round =>
          obtain ⟨k, hk, rfl, q, hwr⟩ := hrel
          have HWr := Lib.hid hwr
          have HBr := Lib.hid (show Bytes wr B D b by rw [hwr]; exact HB4.out.drewN q)
          have HNr : Hid (Nums wr (some ⟨g4, 0, none⟩) r (ints b r)) := Lib.hid (by rw [hwr]; exact Sl.drewN HN4.out q)
          clear hwr
          by_cases hlt : k < r
          · have hdt : decide (k < r) = true := by simp; omega
            obtain ⟨c, o, he, hcell⟩ := HNr.out.at_ k (by rw [HIl.out]; exact hlt)
            cases he
            rw [Nat.zero_add] at hcell
            have hik : (ints b r).getD k 0 = num ((b.drop (8 * k)).take 8) := by simp [ints, hlt]
            rw [hik] at hcell
            have h88 : 8 * k + 8 ≤ K := by omega
            have kC := run_mid B K D (8 * k) (8 * k + 8) (by omega) (by omega)
            have e8 : ((8 * k : Nat) : Int) = 8 * (k : Int) := by omega
            have e88 : ((8 * k + 8 : Nat) : Int) = 8 * (k : Int) + 8 := by omega
            rw [e8, e88, show 8 * k + 8 - 8 * k = 8 by omega] at kC
            have HTl := Lib.hid (show ((b.drop (8 * k)).take 8).length = 8 by rw [List.length_take, List.length_drop, HK.out]; omega)
            have HBk := Lib.hid ((HBr.out.cut (8 * k) (by rw [HK.out]; omega)).first 8)
            obtain ⟨T, hT⟩ : ∃ T, (b.drop (8 * k)).take 8 = T := ⟨_, rfl⟩
            rw [hT] at HTl HBk hcell
            have HC : Hid (∀ j, Calls Try.prog 19 #[.slice (cutA B D (8 * k)) 8 (D - 8 * k)] (wr.drewN j) fun e w' => e = .returned (.int .i64 (num T)) ∧ w' = wr.drewN j) := Lib.hid (fun j => (ref_int (wr.drewN j) _ _ T HTl.out (HBk.out.drewN j)).mono (fun e w' h => ⟨h.1, h.2.symm⟩))
            obtain ⟨x, hx⟩ : ∃ x, num T = x := ⟨_, rfl⟩
            rw [hx] at hcell HC
            clear hT e8 e88 hik hx
            have hw8 : IntKind.i64.wrap (8 * (k : Int)) = 8 * (k : Int) := IntWalk.i64_in _ (by omega)
            have hw88 : IntKind.i64.wrap (8 * (k : Int) + 8) = 8 * (k : Int) + 8 := IntWalk.i64_in _ (by omega)
            have hxx : (x != x) = false := by simp
            go_wp2
            go_quiet ((go_at_call 19; exact Calls.quiet_of_same (HC.out _)))
            clear kC hw8 hw88
            go_wp2
            go_roundw
            case rel => exact ⟨k + 1, by omega, by go_num, q + nq, by rw [HWr.out, World.drewN_drewN]⟩
            case measure => simp [intOf]; omega
          · obtain rfl : k = r := by omega
            have hdf : decide (k < k) = false := by simp
            have HWb := Lib.hid (show Below w.heap.size w wr by rw [HWr.out]; exact below_drewN HW4.out q)
            go_wp2_with fail
            refine (awake_any wr).mono ?_
            rintro e w13 ⟨rfl, hb13⟩
            have HW13 := Lib.hid (HWb.out.trans (hb13.mono HWb.out.size))
            clear hb13
            go_wp2
            go_ret
            exact ⟨rfl, HW13.out⟩
      · have hd3 : (((K : Int) % 8) != 0) = true := by rw [bne_iff_ne]; omega
        go_wp2_with fail
        refine (ints_bad w3 B K D h8 (by omega)).mono ?_
        rintro e w12 ⟨rfl, rfl⟩
        go_wp2_with fail
        refine (awake_any w3).mono ?_
        rintro e w13 ⟨rfl, hb13⟩
        have HW13 := Lib.hid (HW3.out.trans (hb13.mono HW3.out.size))
        clear hb13
        go_wp2
        go_ret
        exact ⟨rfl, HW13.out⟩
    · have hd2 : decide ((300 : Int) < (K : Int)) = true := by simp; omega
      go_enter Try.func4, Try.ntmps4
      go_wp2_with fail
      refine (awake_any w).mono ?_
      rintro e w1 ⟨rfl, hb1⟩
      go_wp2
      go_ret
      exact ⟨rfl, hb1⟩
  · have hd1 : decide ((60 : Int) < (M : Int)) = true := by simp; omega
    go_enter Try.func4, Try.ntmps4
    go_wp2_with fail
    refine (awake_any w).mono ?_
    rintro e w1 ⟨rfl, hb1⟩
    go_wp2
    go_ret
    exact ⟨rfl, hb1⟩
end Go.Proofs.Ythjcjjppjjpjfaa
