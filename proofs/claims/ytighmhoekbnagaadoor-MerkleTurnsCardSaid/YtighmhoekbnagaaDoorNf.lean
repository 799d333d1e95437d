import Derived.Test.YtighmhoekbnagaaDoorKi
import Derived.Deep.DeepCutAuto
namespace Go.Proofs.YtighmhoekbnagaaDoor
open Go.ChangeShapes Go.WideShapes Go.ChangeAt Go.RowKit

/-- whether leaves are not too many, or too long -/
def few (ls : List (List Int)) : Bool := decide ((∀ x ∈ ls, x.length ≤ 100) ∧ ls.length ≤ 20)
theorem few_yes {ls : List (List Int)} (h : few ls = true) : (∀ x ∈ ls, x.length ≤ 100) ∧ ls.length ≤ 20 := of_decide_eq_true h
theorem few_long {ls : List (List Int)} (k : Nat) (h : 100 < (ls.getD k []).length) : few ls = false := by
  refine decide_eq_false (fun e => ?_)
  by_cases hk : k < ls.length
  · have := e.1 (ls.getD k []) (by simp [hk])
    omega
  · rw [List.getD, List.getElem?_eq_none (by omega)] at h
    simp at h
theorem few_all {ls : List (List Int)} (h : ∀ j, j < ls.length → (ls.getD j []).length ≤ 100) : few ls = decide (ls.length ≤ 20) := by
  unfold few
  refine decide_eq_decide.2 ⟨fun e => e.2, fun e => ⟨fun x hx => ?_, e⟩⟩
  obtain ⟨j, hj, rfl⟩ := List.mem_iff_getElem.1 hx
  have := h j hj
  simpa [hj] using this
/-- the lists answer whether they are the same, and nothing is written -/
def Told (b : Bool) (w : World) (e : Ending) (w' : World) : Prop := e = .returned (.bool b) ∧ ∃ n, w' = w.drewN n
theorem Told.below {b : Bool} {w w' : World} {e : Ending} (h : Told b w e w') : e = .returned (.bool b) ∧ Below w.heap.size w w' := by
  obtain ⟨h1, n, rfl⟩ := h
  exact ⟨h1, below_drewN (Below.refl _ _) n⟩
set_option maxRecDepth 100000 in
set_option maxHeartbeats 2000000 in
theorem few_any (w : World) (sp : Option Addr) (n cap : Nat) (ls : List (List Int)) (hn : ls.length = n) (hP : Pcs w sp cap ls) :
    Calls Tryd.prog 9 #[.slice sp n cap] w (Told (few ls) w) := by
  have hnl : n ≤ 9223372036854775807 := by rw [← hn]; exact hP.len
  have HN := Lib.hid hn
  have HP := Lib.hid hP
  clear hn hP
  go_enter Tryd.func9, Tryd.ntmps9
  go_wp2
  go_loopw [3] (fun i wr => ∃ k : Nat, k ≤ n ∧ i = .int .i64 k ∧ (∀ j, j < k → (ls.getD j []).length ≤ 100) ∧ ∃ q, wr = w.drewN q) (fun i _ => n - (intOf i).toNat)
  case atStart => exact ⟨0, by omega, rfl, fun j hj => absurd hj (by omega), 0, rfl⟩
  case round =>
    obtain ⟨k, hk, rfl, hall, q, rfl⟩ := hrel
    have HA := Lib.hid hall
    clear hall
    by_cases hlt : k < n
    · have hdt : decide (k < n) = true := by simp; omega
      obtain ⟨c, o, s2, c2, rfl, hc, hb⟩ := HP.out.at_ k (by rw [HN.out]; exact hlt)
      have hbl := hb.len
      obtain ⟨m, hm⟩ : ∃ m, (ls.getD k []).length = m := ⟨_, rfl⟩
      rw [hm] at hc hbl
      have HM := Lib.hid hm
      clear hb hm
      by_cases h100 : 100 < m
      · have hd2 : decide ((100 : Int) < (m : Int)) = true := by simp; omega
        go_wp2
        go_ret
        exact ⟨by rw [few_long k (by rw [HM.out]; exact h100)]; rfl, _, rfl⟩
      · have hd2 : decide ((100 : Int) < (m : Int)) = false := by simp; omega
        go_wp2
        go_roundw
        case rel =>
          refine ⟨k + 1, by omega, by go_num, fun j hj => ?_, _, rfl⟩
          by_cases hjk : j < k
          · exact HA.out j hjk
          · obtain rfl : j = k := by omega
            rw [HM.out]
            omega
        case measure => simp [intOf]; omega
    · obtain rfl : k = n := by omega
      have hdf : decide (k < k) = false := by simp
      have HF := Lib.hid (few_all (ls := ls) (fun j hj => HA.out j (by rw [← HN.out]; exact hj)))
      go_wp2
      go_ret
      refine ⟨?_, _, rfl⟩
      rw [HF.out, HN.out]
      have e20 : decide ((k : Int) ≤ 20) = decide (k ≤ 20) := decide_eq_decide.2 (by omega)
      show Ending.returned (.bool (decide ((k : Int) ≤ 20))) = _
      rw [e20]
end Go.Proofs.YtighmhoekbnagaaDoor
