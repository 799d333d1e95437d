import Derived.Test.YtchjijifmjbgoaaDoorPc
import Derived.Test.YtchjijifmjbgoaaDoorGv
namespace Go.Proofs.YtchjijifmjbgoaaDoor.Tn
set_option maxRecDepth 100000
open Go.ChangeShapes Go.WideShapes Go.ChangeAt Go.RowKit Go.Proofs.YtchjijifmjbgoaaDoor.Fx Go.Proofs.YtchjijifmjbgoaaDoor.Rf

/-! ### the landed code: angles of a place -/
theorem exec_tab_at {a : Act} {o : Oper} {W : World} (x y : Operand) (ho : o.op = .indexAddr 98 x y) (c i : Nat) (hx : a.eval x = .pointer (some ⟨c, 0, none⟩)) (hy : a.eval y = .int .i64 (i : Int)) (hi : i < 4) : (execOp a.eval o).run Tryd.prog W = .ok (.value (.pointer (some ⟨c, i * 2, none⟩))) W := by
  have hadd := add_plain c 0 (i * 2)
  rw [Nat.zero_add] at hadd
  cases hq : Tryd.prog.info? 72 with
  | none => have := size_pairT; simp [hq] at this
  | some j =>
    have hj : j.size = 2 := by have := size_pairT; simpa [hq] using this
    unfold execOp
    simp [ho, hx, hy, Instr.indexAt, Instr.sureAddr, asIntOf, run_underlying Tryd.underlying98, sizeOf, typeInfo, hq, hj, hi, hadd]
theorem exec_pairT_atI {a : Act} {o : Oper} {W : World} (x y : Operand) (ho : o.op = .indexAddr 67 x y) (c n cap i : Nat) (z : Int) (hz : z = (i : Int)) (hx : a.eval x = .slice (some ⟨c, 0, none⟩) n cap) (hy : a.eval y = .int .i64 z) (hi : i < n) : (execOp a.eval o).run Tryd.prog W = .ok (.value (.pointer (some ⟨c, i * 2, none⟩))) W := by
  subst hz
  exact exec_pairT_at x y ho c n cap i hx hy hi
theorem tab_range {W : World} (h : AngTab W) (j : Nat) (hj : j < 4) : W.rangeAt 0 (j * 2) (pv (angs.getD j (0, 0))) := by
  obtain ⟨t, fr, h⟩ := h
  intro i v hv
  rw [cell_of_row _ _ _ _ _ _ h]
  rcases j with _ | _ | _ | _ | j <;> first | omega | (rcases i with _ | _ | i <;> first | (simp [angs, pv] at hv ⊢; exact hv) | (simp [pv] at hv))
def angD (at_ j : Nat) : Int × Int := (angP j at_).getD (0, 0)
theorem angD_first {at_ j : Nat} (h : at_ ≤ 1023) (hj : j < 4) : ang (angs.getD j (0, 0)).1 (angs.getD j (0, 0)).2 at_ = some (angD at_ j) := by
  have h1 := angP_some j at_ h
  obtain ⟨p, hp⟩ := Option.isSome_iff_exists.1 h1
  unfold angD
  rw [hp]
  unfold angP at hp
  rw [Nat.mod_eq_of_lt hj] at hp
  exact hp
theorem angD_back (at_ k : Nat) : angD at_ (k + 4) = angD at_ k := by
  unfold angD angP
  rw [show (k + 4) % 4 = k % 4 by omega]
set_option maxHeartbeats 4000000 in
theorem angles_any (w : World) (at_ n : Nat) (hn : n ≤ 256) (ha : at_ ≤ 1023) (ht : AngTab w) :
    Calls Tryd.prog 58 #[.int .i64 (at_ : Int), .int .i64 (n : Int)] w fun e w' => e = .returned (.slice (some ⟨w.heap.size, 0, none⟩) n n) ∧ RowP w' w.heap.size ((List.range n).map (angD at_)) ∧ Below w.heap.size w w' := by
  have HT := Lib.hid ht
  clear ht
  go_enter Tryd.func58, Tryd.ntmps58
  go_wp2_with (refine wpList_makeP rfl (.tmp 7) (.tmp 7) rfl n rfl rfl (by omega) ?_)
  intro W hr _ hb
  rw [← mkP_zero (angD at_) n] at hr
  have HR := Lib.hid hr
  have HB := Lib.hid hb
  clear hr hb
  go_wp2
  go_loopw [11] (fun t wr => ∃ (j : Nat), j ≤ n ∧ t = .int .i64 j ∧ RowP wr w.heap.size (mkP (angD at_) j n) ∧ Below w.heap.size w wr) (fun t _ => n - (intOf t).toNat)
  case atStart => exact ⟨0, by omega, rfl, HR.out, HB.out⟩
  case round =>
    clear HR HB
    obtain ⟨j, hj, rfl, hr, hb⟩ := hrel
    have HR := Lib.hid hr
    have HB := Lib.hid hb
    clear hr hb
    by_cases hlt : j < n
    · have hdt : decide (j < n) = true := by simp; omega
      have HP := Lib.hid (mkP_set (angD at_) hlt)
      have hlen := mkP_length (angD at_) (i := j) (n := n) (by omega)
      by_cases h4 : j < 4
      · have hd4 : decide ((j : Int) < 4) = true := by simp; omega
        have htab := tab_range (HT.out.below HB.out) j h4
        have hin : isN (angs.getD j (0, 0)).1 ∧ isN (angs.getD j (0, 0)).2 := by
          rcases j with _ | _ | _ | _ | j <;> first | omega | decide
        have HC := Lib.hid (fun W => repeated_any W (angs.getD j (0, 0)).1 (angs.getD j (0, 0)).2 at_ (by omega) hin.1 hin.2 (angD at_ j) (angD_first ha h4))
        obtain ⟨q, hq⟩ : ∃ q, angs.getD j (0, 0) = q := ⟨_, rfl⟩
        obtain ⟨r, hr⟩ : ∃ r, angD at_ j = r := ⟨_, rfl⟩
        rw [hr] at HC HP
        rw [hq] at HC htab
        obtain ⟨c, d⟩ := q
        obtain ⟨x, y⟩ := r
        dsimp only [pairC] at HC
        dsimp only [pv] at htab
        clear hq hr hin
        go_wp2_with (first
          | (refine wpList_valH rfl (.pointer (some ⟨0, j * 2, none⟩)) (exec_tab_at (.global 0) (.tmp 18) rfl _ j rfl rfl h4) ?_)
          | (refine wpList_load_mid rfl 72 (.tmp 19) rfl 0 (j * 2) rfl [.int .i64 c, .int .i64 d] _ htab Tryd.underlying72 rfl size_pairT2 ?_)
          | (go_at_call 75; refine (HC.out _).mono ?_; rintro e w3 ⟨rfl, hb3⟩; have HR2 := Lib.hid (HR.out.below hb3); have HB2 := Lib.hid (HB.out.trans (hb3.mono HB.out.size)); clear hb3)
          | (refine wpList_valH rfl (.pointer (some ⟨w.heap.size, j * 2, none⟩)) (exec_pairT_at (.tmp 16) (.tmp 17) rfl w.heap.size n n j rfl rfl hlt) ?_)
          | (refine wpList_store_mid rfl 72 (.tmp 23) (.tmp 22) rfl w.heap.size (j * 2) #[.int .i64 x, .int .i64 y] rfl rfl (HR2.out.there j (by rw [hlen]; exact hlt)) size_pairT (one_xy x y) ?_))
        go_wp2
        go_roundw
        case rel => exact ⟨j + 1, by omega, by go_num, by rw [← HP.out]; exact HR2.out.set j (by rw [hlen]; exact hlt) (x, y), belowCellsP _ _ _ (Nat.le_refl _) HB2.out⟩
        case measure => simp [intOf]; omega
      · obtain ⟨k, hk⟩ : ∃ k, j = k + 4 := ⟨j - 4, by omega⟩
        have hd4 : decide ((j : Int) < 4) = false := by simp; omega
        have hlo := HR.out.lies k (by rw [hlen]; omega)
        rw [mkP_at _ (show k < j by omega), ← angD_back, ← hk] at hlo
        have hz : (j : Int) - 4 = (k : Int) := by omega
        have HZ := Lib.hid hz
        have hkn : k < n := by omega
        obtain ⟨r, hr⟩ : ∃ r, angD at_ j = r := ⟨_, rfl⟩
        rw [hr] at hlo HP
        obtain ⟨x, y⟩ := r
        dsimp only [pv] at hlo
        clear hr hk hz
        go_wp2_with (first
          | (refine wpList_valH rfl (.pointer (some ⟨w.heap.size, k * 2, none⟩)) (exec_pairT_atI (.tmp 26) (.tmp 28) rfl w.heap.size n n k _ HZ.out rfl rfl hkn) ?_)
          | (refine wpList_load_mid rfl 72 (.tmp 29) rfl w.heap.size (k * 2) rfl [.int .i64 x, .int .i64 y] _ hlo Tryd.underlying72 rfl size_pairT2 ?_)
          | (refine wpList_valH rfl (.pointer (some ⟨w.heap.size, j * 2, none⟩)) (exec_pairT_at (.tmp 24) (.tmp 25) rfl w.heap.size n n j rfl rfl hlt) ?_)
          | (refine wpList_store_mid rfl 72 (.tmp 31) (.tmp 30) rfl w.heap.size (j * 2) #[.int .i64 x, .int .i64 y] rfl rfl (HR.out.there j (by rw [hlen]; exact hlt)) size_pairT (one_xy x y) ?_))
        go_wp2
        go_roundw
        case rel => exact ⟨j + 1, by omega, by go_num, by rw [← HP.out]; exact HR.out.set j (by rw [hlen]; exact hlt) (x, y), belowCellsP _ _ _ (Nat.le_refl _) HB.out⟩
        case measure => simp [intOf]; omega
    · obtain rfl : j = n := by omega
      have hdf : decide (j < j) = false := by simp
      go_wp2
      go_ret
      exact ⟨rfl, by rw [← mkP_all]; exact HR.out, HB.out⟩
end Go.Proofs.YtchjijifmjbgoaaDoor.Tn
