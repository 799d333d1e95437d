import Derived.Test.YtighmhoekbnagaaDoorTe
namespace Go.Proofs.YtighmhoekbnagaaDoor
open Go.ChangeShapes Go.WideShapes Go.ChangeAt Go.RowKit

/-! ### the roots of the next height, row by row -/
theorem belowCells {B b : Nat} {a : World} (hb : B ≤ b) : ∀ (vs : List Value) (o : Nat) (w : World), Below B a w → Below B a (w.setCells b o vs)
  | [], _, _, h => h
  | v :: r, o, w, h => by
    rw [World.setCells]
    exact belowCells hb r (o + 1) _ (h.setCell hb v)
theorem part_set (A : List (List Int)) (z : List Int) (m j : Nat) (hA : A.length = m) (hj : j < m) : (A.take j ++ List.replicate (m - j) z).set j (A.getD j []) = A.take (j + 1) ++ List.replicate (m - (j + 1)) z := by
  have h1 : (A.take j).length = j := by rw [List.length_take]; omega
  obtain ⟨k, hk⟩ : ∃ k, m - j = k + 1 := ⟨m - j - 1, by omega⟩
  rw [hk, show m - (j + 1) = k by omega, take_snocD A j (by omega), List.set_append_right _ _ (by omega), h1, Nat.sub_self, List.replicate_succ, List.set_cons_zero, List.append_assoc]
  rfl
theorem part_len (A : List (List Int)) (z : List Int) (m j : Nat) (hA : A.length = m) (hj : j ≤ m) : (A.take j ++ List.replicate (m - j) z).length = m := by
  rw [List.length_append, List.length_take, List.length_replicate]; omega
set_option maxRecDepth 100000 in
set_option maxHeartbeats 4000000 in
theorem above_any (w : World) (b n m : Nat) (row : List (List Int)) (hn : row.length = n) (hR : RowD w b row) (he : Env w) (hn2 : n ≤ 256) (hm : m = (n + 1) / 2) :
    Calls Tryd.prog 43 #[.slice (some ⟨b, 0, none⟩) n n] w fun e w' => ∃ b', e = .returned (.slice (some ⟨b', 0, none⟩) m m) ∧ w.heap.size ≤ b' ∧ RowD w' b' (above nodeD row) ∧ Below w.heap.size w w' := by
  have hAl : (above nodeD row).length = m := by rw [above_len, hn, hm]
  have hAa : ∀ i, i < m → (above nodeD row).getD i [] = pairD nodeD row i := fun i hi => above_at nodeD row i (by rw [hn, ← hm]; exact hi)
  have hA32 : ∀ d ∈ above nodeD row, d.length = 32 := by
    intro d hd
    obtain ⟨i, hi, rfl⟩ := List.mem_iff_getElem.1 hd
    have h1 := hAa i (by omega)
    rw [List.getD_eq_getElem?_getD, List.getElem?_eq_getElem hi, Option.getD_some] at h1
    rw [h1]
    unfold pairD
    split
    · exact hR.all _ (getD_mem row _ (by omega))
    · exact nodeD_length _ _
  have HPr := Lib.hid (fun (j : Nat) (hj : j < m) W (hB : Below w.heap.size w W) => pair_any W b n j row hn (hR.below hB) (by rw [← hm]; exact hj) (he.below hB) hn2)
  obtain ⟨A, hA⟩ : ∃ A, above nodeD row = A := ⟨_, rfl⟩
  rw [hA] at hAl hAa hA32
  have HA := Lib.hid hA
  have HAa := Lib.hid hAa
  have HA32 := Lib.hid hA32
  have e1 : ((n : Int) + 1) / 2 = (m : Int) := by omega
  have e2 : Int.tdiv ((n : Int) + 1) 2 = (m : Int) := by rw [Int.tdiv_eq_ediv_of_nonneg (by omega)]; exact e1
  have hm2 : m ≤ 128 := by omega
  clear hA hAa hA32 hR he hn hm
  go_enter Tryd.func43, Tryd.ntmps43
  go_upto_region 2 with (refine wpList_makeD rfl (.tmp 8) (.tmp 8) rfl m rfl rfl (by omega) ?_; intro w1 hr1 hs1 hb1; have HR1 := Lib.hid hr1; have HB1 := Lib.hid hb1; clear hr1 hb1 hs1)
  go_wp2
  go_loopw [12] (fun i wr => ∃ j : Nat, i = .int .i64 j ∧ j ≤ m ∧ RowD wr w.heap.size (A.take j ++ List.replicate (m - j) (zs 32)) ∧ Below w.heap.size w wr) (fun i _ => m - (intOf i).toNat)
  case atStart => exact ⟨0, rfl, by omega, HR1.out, HB1.out⟩
  case round =>
    obtain ⟨j, rfl, hjm, hr, hb⟩ := hrel
    by_cases hlt : j < m
    · have d1 : decide ((j : Int) < (m : Int)) = true := decide_eq_true (by omega)
      have d1' : decide (j < m) = true := decide_eq_true (by omega)
      have hd32 : (A.getD j []).length = 32 := HA32.out _ (getD_mem A j (by omega))
      have HC := Lib.hid (HPr.out j hlt wr hb)
      rw [← HAa.out j hlt] at HC
      have HPS := Lib.hid (part_set A (zs 32) m j hAl hlt)
      have hlen := part_len A (zs 32) m j hAl hjm
      obtain ⟨d, hd⟩ : ∃ d, A.getD j [] = d := ⟨_, rfl⟩
      rw [hd] at HC HPS hd32
      have HR := Lib.hid hr
      have HB := Lib.hid hb
      have e0 : 0 + 32 * j = 32 * j := Nat.zero_add _
      have hi := row_dig hd32
      have hsz : (rowB d).size = 32 := by rw [rowB_size, hd32]
      clear hr hb hd
      go_wp2_with (first
        | (go_at_call 45; refine HC.out.mono ?_; rintro e w3 ⟨rfl, hb3⟩; have HR3 := Lib.hid (HR.out.below hb3); have HB3 := Lib.hid (HB.out.trans (hb3.mono HB.out.size)); clear hb3)
        | (refine wpList_val rfl (.pointer (some ⟨w.heap.size, 0 + 32 * j, none⟩)) (exec_dig_at (.tmp 15) (.tmp 16) rfl w.heap.size 0 m m j rfl rfl hlt) ?_)
        | (refine wpList_store_mid rfl 24 (.tmp 20) (.tmp 19) rfl w.heap.size (0 + 32 * j) (rowB d) rfl rfl (by rw [e0, hsz]; exact HR3.out.there j (by rw [hlen]; exact hlt)) hi (rowB_one d) ?_))
      go_roundw
      case rel => exact ⟨j + 1, by go_num, by omega, by rw [← HPS.out]; exact HR3.out.set j (by rw [hlen]; exact hlt) d hd32, belowCells (Nat.le_refl _) _ _ _ HB3.out⟩
      case measure => simp [intOf]; omega
    · obtain rfl : j = m := by omega
      have d1 : decide ((j : Int) < (j : Int)) = false := decide_eq_false (by omega)
      have d1' : decide (j < j) = false := decide_eq_false (by omega)
      rw [Nat.sub_self, List.replicate_zero, List.append_nil, List.take_of_length_le (by omega)] at hr
      have HR := Lib.hid hr
      have HB := Lib.hid hb
      clear hr hb
      go_wp2
      go_ret
      exact ⟨w.heap.size, rfl, Nat.le_refl _, by rw [HA.out]; exact HR.out, HB.out⟩
end Go.Proofs.YtighmhoekbnagaaDoor
