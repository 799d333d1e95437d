import Derived.Test.YthjcjjppjjpjfaaBy
namespace Go.Proofs.Ythjcjjppjjpjfaa
open Go.ChangeShapes Go.WideShapes Go.ChangeAt Go.RowKit

theorem take_snocL (ls : List (List Int)) (k : Nat) (h : k < ls.length) : ls.take (k + 1) = ls.take k ++ [ls.getD k []] := by
  have e : ls.getD k [] = ls[k] := by simp [h]
  rw [e, List.take_succ_eq_append_getElem h]
theorem Pieces.drewN {w : World} {sp : Option Addr} {cap : Nat} {ls : List (List Int)} (h : Pieces w sp cap ls) (n : Nat) : Pieces (w.drewN n) sp cap ls := h.below (below_drewN (Below.refl _ _) n)
set_option maxRecDepth 100000 in
set_option maxHeartbeats 2000000 in
theorem pieces_any (w : World) (sp sq : Option Addr) (n m cp cq : Nat) (a b : List (List Int)) (hn : a.length = n) (hm : b.length = m) (ha : Pieces w sp cp a) (hb : Pieces w sq cq b) :
    Calls Try.prog 15 #[.slice sp n cp, .slice sq m cq] w (Told (decide (a = b)) w) := by
  have hnl : n ≤ 9223372036854775807 := by rw [← hn]; exact ha.len
  have hml : m ≤ 9223372036854775807 := by rw [← hm]; exact hb.len
  have HN := Lib.hid hn
  have HM := Lib.hid hm
  have HA := Lib.hid ha
  have HB := Lib.hid hb
  clear hn hm ha hb
  by_cases hne : n = m
  · have hd : ((n : Int) != (m : Int)) = false := by rw [hne]; simp
    subst hne
    go_enter Try.func15, Try.ntmps15
    go_wp2
    go_loopw [5] (fun i wr => ∃ k : Nat, k ≤ n ∧ i = .int .i64 k ∧ a.take k = b.take k ∧ ∃ q, wr = w.drewN q) (fun i _ => n - (intOf i).toNat)
    case atStart => exact ⟨0, by omega, rfl, rfl, 0, rfl⟩
    case round =>
      obtain ⟨k, hk, rfl, heq, q, hwr⟩ := hrel
      have HEq := Lib.hid heq
      have HWr := Lib.hid hwr
      have HAr := Lib.hid (show Pieces wr sp cp a by rw [HWr.out]; exact HA.out.drewN q)
      have HBr := Lib.hid (show Pieces wr sq cq b by rw [HWr.out]; exact HB.out.drewN q)
      clear heq hwr
      by_cases hlt : k < n
      · have hdt : decide (k < n) = true := by simp; omega
        obtain ⟨c, o, s1, c1, rfl, hc1, hb1⟩ := HAr.out.at_ k (by rw [HN.out]; exact hlt)
        obtain ⟨c', o', s2, c2, rfl, hc2, hb2⟩ := HBr.out.at_ k (by rw [HM.out]; exact hlt)
        have HS1 := Lib.hid (take_snocL a k (by rw [HN.out]; exact hlt))
        have HS2 := Lib.hid (take_snocL b k (by rw [HM.out]; exact hlt))
        obtain ⟨x, hx⟩ : ∃ x, a.getD k [] = x := ⟨_, rfl⟩
        obtain ⟨y, hy⟩ : ∃ y, b.getD k [] = y := ⟨_, rfl⟩
        rw [hx] at hc1 HS1 hb1
        rw [hy] at hc2 HS2 hb2
        have HX := Lib.hid hx
        have HY := Lib.hid hy
        obtain ⟨lx, hlx⟩ : ∃ l, x.length = l := ⟨_, rfl⟩
        obtain ⟨ly, hly⟩ : ∃ l, y.length = l := ⟨_, rfl⟩
        rw [hlx] at hc1
        rw [hly] at hc2
        have HLx := Lib.hid hlx
        have HLy := Lib.hid hly
        have HB1 := Lib.hid hb1
        have HB2 := Lib.hid hb2
        clear hx hy hlx hly hb1 hb2
        by_cases hxy : x = y
        · have HC : Hid (∀ j, Calls Try.prog 10 #[.slice s1 lx c1, .slice s2 ly c2] (wr.drewN j) (Told true (wr.drewN j))) := Lib.hid (fun j => by
            have := bytes_any (wr.drewN j) s1 s2 lx ly c1 c2 x y HLx.out HLy.out (HB1.out.drewN j) (HB2.out.drewN j)
            rwa [decide_eq_true hxy] at this)
          have HXY := Lib.hid hxy
          clear hxy
          go_wp2
          go_quiet ((go_at_call 10; exact Calls.quiet_of (HC.out _)))
          go_wp2
          go_roundw
          case rel => exact ⟨k + 1, by omega, by go_num, by rw [HS1.out, HS2.out, HEq.out, HXY.out], q + nq, by rw [HWr.out, World.drewN_drewN]⟩
          case measure => simp [intOf]; omega
        · have HC : Hid (∀ j, Calls Try.prog 10 #[.slice s1 lx c1, .slice s2 ly c2] (wr.drewN j) (Told false (wr.drewN j))) := Lib.hid (fun j => by
            have := bytes_any (wr.drewN j) s1 s2 lx ly c1 c2 x y HLx.out HLy.out (HB1.out.drewN j) (HB2.out.drewN j)
            rwa [decide_eq_false hxy] at this)
          have HNe : Hid (decide (a = b) = false) := by
            refine Lib.hid (decide_eq_false (fun e => hxy ?_))
            rw [← HX.out, ← HY.out, e]
          clear hxy
          go_wp2
          go_quiet ((go_at_call 10; exact Calls.quiet_of (HC.out _)))
          go_wp2
          go_ret
          exact ⟨by rw [HNe.out]; rfl, q + nq, by rw [HWr.out, World.drewN_drewN]⟩
      · obtain rfl : k = n := by omega
        have hdf : decide (k < k) = false := by simp
        have HE : Hid (decide (a = b) = true) := by
          have := HEq.out
          rw [List.take_of_length_le (by rw [HN.out]; omega), List.take_of_length_le (by rw [HM.out]; omega)] at this
          exact Lib.hid (decide_eq_true this)
        go_wp2
        go_ret
        exact ⟨by rw [HE.out]; rfl, q, HWr.out⟩
  · have hd : ((n : Int) != (m : Int)) = true := by simp; omega
    have HNe : Hid (decide (a = b) = false) := Lib.hid (decide_eq_false (fun e => hne (by rw [← HN.out, ← HM.out, e])))
    clear hne
    go_enter Try.func15, Try.ntmps15
    go_wp2
    go_ret
    exact ⟨by rw [HNe.out]; rfl, 0, rfl⟩
end Go.Proofs.Ythjcjjppjjpjfaa
