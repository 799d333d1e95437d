import Derived.Test.YthjcjjppjjpjfaaAp
import Derived.Deep.DeepCutAuto
namespace Go.Proofs.Ythjcjjppjjpjfaa
open Go.ChangeShapes Go.WideShapes Go.ChangeAt Go.RowKit

theorem take_snocI (l : List Int) (k : Nat) (h : k < l.length) : l.take (k + 1) = l.take k ++ [l.getD k 0] := by
  have e : l.getD k 0 = l[k] := by simp [h]
  rw [e, List.take_succ_eq_append_getElem h]
/-- the lists answer whether they are the same, and nothing is written -/
def Told (b : Bool) (w : World) (e : Ending) (w' : World) : Prop := e = .returned (.bool b) ∧ ∃ n, w' = w.drewN n
theorem Told.below {b : Bool} {w w' : World} {e : Ending} (h : Told b w e w') : e = .returned (.bool b) ∧ Below w.heap.size w w' := by
  obtain ⟨h1, n, rfl⟩ := h
  exact ⟨h1, below_drewN (Below.refl _ _) n⟩
set_option maxRecDepth 100000 in
set_option maxHeartbeats 2000000 in
theorem bytes_any (w : World) (sp sq : Option Addr) (n m cp cq : Nat) (a b : List Int) (hn : a.length = n) (hm : b.length = m) (ha : Bytes w sp cp a) (hb : Bytes w sq cq b) :
    Calls Try.prog 10 #[.slice sp n cp, .slice sq m cq] w (Told (decide (a = b)) w) := by
  have hnl : n ≤ 9223372036854775807 := by rw [← hn]; exact ha.len
  have hml : m ≤ 9223372036854775807 := by rw [← hm]; exact hb.len
  have HN := Lib.hid hn
  have HM := Lib.hid hm
  have HA := Lib.hid ha
  have HB := Lib.hid hb
  clear hn hm ha hb
  by_cases hne : n = m
  · have hd : ((n : Int) != (m : Int)) = false := by rw [hne]; simp
    subst hne
    go_enter Try.func10, Try.ntmps10
    go_wp2
    go_loopw [5] (fun i wr => ∃ k : Nat, k ≤ n ∧ i = .int .i64 k ∧ a.take k = b.take k ∧ ∃ q, wr = w.drewN q) (fun i _ => n - (intOf i).toNat)
    case atStart => exact ⟨0, by omega, rfl, rfl, 0, rfl⟩
    case round =>
      obtain ⟨k, hk, rfl, heq, q, rfl⟩ := hrel
      have HEq := Lib.hid heq
      clear heq
      by_cases hlt : k < n
      · have hdt : decide (k < n) = true := by simp; omega
        obtain ⟨c, o, rfl, hc1⟩ := HA.out.at_ k (by rw [HN.out]; exact hlt)
        obtain ⟨c', o', rfl, hc2⟩ := HB.out.at_ k (by rw [HM.out]; exact hlt)
        have HS1 := Lib.hid (take_snocI a k (by rw [HN.out]; exact hlt))
        have HS2 := Lib.hid (take_snocI b k (by rw [HM.out]; exact hlt))
        obtain ⟨x, hx⟩ : ∃ x, a.getD k 0 = x := ⟨_, rfl⟩
        obtain ⟨y, hy⟩ : ∃ y, b.getD k 0 = y := ⟨_, rfl⟩
        rw [hx] at hc1 HS1
        rw [hy] at hc2 HS2
        have HX := Lib.hid hx
        have HY := Lib.hid hy
        clear hx hy
        by_cases hxy : x = y
        · subst hxy
          have hd2 : (x != x) = false := by simp
          go_wp2
          go_quiet (fail)
          go_wp2
          go_roundw
          case rel => exact ⟨k + 1, by omega, by go_num, by rw [HS1.out, HS2.out, HEq.out], _, rfl⟩
          case measure => simp [intOf]; omega
        · have hd2 : (x != y) = true := by simpa using hxy
          have HNe : Hid (decide (a = b) = false) := by
            refine Lib.hid (decide_eq_false (fun e => hxy ?_))
            rw [← HX.out, ← HY.out, e]
          clear hxy
          go_wp2
          go_quiet (fail)
          go_wp2
          go_ret
          exact ⟨by rw [HNe.out]; rfl, q + nq, by rw [World.drewN_drewN]⟩
      · obtain rfl : k = n := by omega
        have hdf : decide (k < k) = false := by simp
        have HE : Hid (decide (a = b) = true) := by
          have := HEq.out
          rw [List.take_of_length_le (by rw [HN.out]; omega), List.take_of_length_le (by rw [HM.out]; omega)] at this
          exact Lib.hid (decide_eq_true this)
        go_wp2
        go_ret
        exact ⟨by rw [HE.out]; rfl, _, rfl⟩
  · have hd : ((n : Int) != (m : Int)) = true := by simp; omega
    have HNe : Hid (decide (a = b) = false) := Lib.hid (decide_eq_false (fun e => hne (by rw [← HN.out, ← HM.out, e])))
    clear hne
    go_enter Try.func10, Try.ntmps10
    go_wp2
    go_ret
    exact ⟨by rw [HNe.out]; rfl, 0, rfl⟩
set_option maxRecDepth 100000 in
set_option maxHeartbeats 2000000 in
theorem ints_any (w : World) (sp sq : Option Addr) (n m cp cq : Nat) (a b : List Int) (hn : a.length = n) (hm : b.length = m) (ha : Nums w sp cp a) (hb : Nums w sq cq b) :
    Calls Try.prog 20 #[.slice sp n cp, .slice sq m cq] w (Told (decide (a = b)) w) := by
  have hnl : n ≤ 9223372036854775807 := by rw [← hn]; have := ha.len; simpa using this
  have hml : m ≤ 9223372036854775807 := by rw [← hm]; have := hb.len; simpa using this
  have HN := Lib.hid hn
  have HM := Lib.hid hm
  have HA : Hid (Nums w sp cp a) := ha
  have HB : Hid (Nums w sq cq b) := hb
  clear hn hm ha hb
  by_cases hne : n = m
  · have hd : ((n : Int) != (m : Int)) = false := by rw [hne]; simp
    subst hne
    go_enter Try.func20, Try.ntmps20
    go_wp2
    go_loopw [5] (fun i wr => ∃ k : Nat, k ≤ n ∧ i = .int .i64 k ∧ a.take k = b.take k ∧ ∃ q, wr = w.drewN q) (fun i _ => n - (intOf i).toNat)
    case atStart => exact ⟨0, by omega, rfl, rfl, 0, rfl⟩
    case round =>
      obtain ⟨k, hk, rfl, heq, q, rfl⟩ := hrel
      have HEq := Lib.hid heq
      clear heq
      by_cases hlt : k < n
      · have hdt : decide (k < n) = true := by simp; omega
        obtain ⟨c, o, rfl, hc1⟩ := HA.out.at_ k (by rw [HN.out]; exact hlt)
        obtain ⟨c', o', rfl, hc2⟩ := HB.out.at_ k (by rw [HM.out]; exact hlt)
        have HS1 := Lib.hid (take_snocI a k (by rw [HN.out]; exact hlt))
        have HS2 := Lib.hid (take_snocI b k (by rw [HM.out]; exact hlt))
        obtain ⟨x, hx⟩ : ∃ x, a.getD k 0 = x := ⟨_, rfl⟩
        obtain ⟨y, hy⟩ : ∃ y, b.getD k 0 = y := ⟨_, rfl⟩
        rw [hx] at hc1 HS1
        rw [hy] at hc2 HS2
        have HX := Lib.hid hx
        have HY := Lib.hid hy
        clear hx hy
        by_cases hxy : x = y
        · subst hxy
          have hd2 : (x != x) = false := by simp
          go_wp2
          go_quiet (fail)
          go_wp2
          go_roundw
          case rel => exact ⟨k + 1, by omega, by go_num, by rw [HS1.out, HS2.out, HEq.out], _, rfl⟩
          case measure => simp [intOf]; omega
        · have hd2 : (x != y) = true := by simpa using hxy
          have HNe : Hid (decide (a = b) = false) := by
            refine Lib.hid (decide_eq_false (fun e => hxy ?_))
            rw [← HX.out, ← HY.out, e]
          clear hxy
          go_wp2
          go_quiet (fail)
          go_wp2
          go_ret
          exact ⟨by rw [HNe.out]; rfl, q + nq, by rw [World.drewN_drewN]⟩
      · obtain rfl : k = n := by omega
        have hdf : decide (k < k) = false := by simp
        have HE : Hid (decide (a = b) = true) := by
          have := HEq.out
          rw [List.take_of_length_le (by rw [HN.out]; omega), List.take_of_length_le (by rw [HM.out]; omega)] at this
          exact Lib.hid (decide_eq_true this)
        go_wp2
        go_ret
        exact ⟨by rw [HE.out]; rfl, _, rfl⟩
  · have hd : ((n : Int) != (m : Int)) = true := by simp; omega
    have HNe : Hid (decide (a = b) = false) := Lib.hid (decide_eq_false (fun e => hne (by rw [← HN.out, ← HM.out, e])))
    clear hne
    go_enter Try.func20, Try.ntmps20
    go_wp2
    go_ret
    exact ⟨by rw [HNe.out]; rfl, 0, rfl⟩
end Go.Proofs.Ythjcjjppjjpjfaa
