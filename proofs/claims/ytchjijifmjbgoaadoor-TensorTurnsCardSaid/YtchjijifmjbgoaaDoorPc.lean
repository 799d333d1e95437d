import Derived.Test.YtchjijifmjbgoaaDoorPb
namespace Go.Proofs.YtchjijifmjbgoaaDoor.Tn
set_option maxRecDepth 100000
open Go.ChangeShapes Go.WideShapes Go.ChangeAt Go.RowKit Go.Proofs.YtchjijifmjbgoaaDoor.Fx Go.Proofs.YtchjijifmjbgoaaDoor.Rf

/-! ### the landed code: pairs of numbers, angles of a place -/
def mkP (f : Nat → Int × Int) (i n : Nat) : List (Int × Int) := (List.range i).map f ++ List.replicate (n - i) (0, 0)
theorem mkP_length (f : Nat → Int × Int) {i n : Nat} (h : i ≤ n) : (mkP f i n).length = n := by simp [mkP]; omega
theorem mkP_zero (f : Nat → Int × Int) (n : Nat) : mkP f 0 n = List.replicate n (0, 0) := by simp [mkP]
theorem mkP_all (f : Nat → Int × Int) (n : Nat) : mkP f n n = (List.range n).map f := by simp [mkP]
theorem mkP_set (f : Nat → Int × Int) {i n : Nat} (h : i < n) : (mkP f i n).set i (f i) = mkP f (i + 1) n := by
  unfold mkP
  obtain ⟨d, hd⟩ : ∃ d, n - i = d + 1 := ⟨n - i - 1, by omega⟩
  rw [hd, List.replicate_succ, List.set_append_right _ _ (by simp), show n - (i + 1) = d by omega, List.range_succ, List.map_append]
  simp
theorem mkP_at (f : Nat → Int × Int) {i n k : Nat} (h : k < i) : (mkP f i n).getD k (0, 0) = f k := by
  unfold mkP
  rw [List.getD_eq_getElem?_getD, List.getElem?_append_left (by simpa using h)]
  simp [h]
theorem exec_buildT {a : Act} {o : Oper} {W : World} (x y : Operand) (ho : o.op = .build 72 #[(0, x), (1, y)]) (u v : Int) (hx : a.eval x = .int .i64 u) (hy : a.eval y = .int .i64 v) : (execOp a.eval o).run Tryd.prog W = .ok (.value (.agg #[.int .i64 u, .int .i64 v])) W := by
  have e : ((#[((0 : Nat), x), (1, y)] : Array (Nat × Operand)).map fun q => (q.1, a.eval q.2)).toList = [(0, .int .i64 u), (1, .int .i64 v)] := by simp [hx, hy]
  have hb : Tryd.prog.built 72 ((#[((0 : Nat), x), (1, y)] : Array (Nat × Operand)).map fun q => (q.1, a.eval q.2)).toList = some #[.int .i64 u, .int .i64 v] := by rw [e]; kernel_rfl
  unfold execOp
  simp only [ho, Sem.run_bind, run_build W _ _ _ hb, Result.andThen_ok, Sem.run_pure]
theorem run_twiceP (k : Nat) (h : k ≤ 1000) (W : World) : (binOp .mul 3 (.int .i64 2) (.int .i64 (k : Int))).run Tryd.prog W = .ok (.int .i64 ((2 * k : Nat) : Int)) W := by
  have hw : IntKind.i64.wrap (2 * (k : Int)) = 2 * (k : Int) := IntWalk.i64_in _ (by omega)
  simp [go_sem, hw]
def prsF (l : List Int) (j : Nat) : Int × Int := (l.getD (2 * j) 0, l.getD (2 * j + 1) 0)
set_option maxHeartbeats 4000000 in
theorem pairs_any (w : World) (sp : Option Addr) (cap N h : Nat) (l : List Int) (hN : l.length = N) (hh : N = 2 * h) (hh2 : h ≤ 256) (hl : Nums w sp cap l) :
    Calls Tryd.prog 54 #[.slice sp N cap] w fun e w' => e = .returned (.slice (some ⟨w.heap.size, 0, none⟩) h h) ∧ RowP w' w.heap.size ((List.range h).map (prsF l)) ∧ Below w.heap.size w w' := by
  have HL := Lib.hid hl
  have HN := Lib.hid hN
  have hq : (N : Int).tdiv 2 = (h : Int) := by rw [Int.tdiv_eq_ediv_of_nonneg (by omega)]; omega
  have hq2 : (N : Int) / 2 = (h : Int) := by omega
  have g1 : N ≤ 2 * h := by omega
  have g2 : 2 * h ≤ N := by omega
  clear hl hN hh
  go_enter Tryd.func54, Tryd.ntmps54
  go_wp2_with (refine wpList_makeP rfl (.tmp 7) (.tmp 7) rfl h rfl rfl (by omega) ?_)
  intro W hr _ hb
  rw [← mkP_zero (prsF l) h] at hr
  have HR := Lib.hid hr
  have HB := Lib.hid hb
  clear hr hb hq hq2
  go_wp2
  go_loopw [11] (fun t wr => ∃ (j : Nat), j ≤ h ∧ t = .int .i64 j ∧ RowP wr w.heap.size (mkP (prsF l) j h) ∧ Below w.heap.size w wr) (fun t _ => h - (intOf t).toNat)
  case atStart => exact ⟨0, by omega, rfl, HR.out, HB.out⟩
  case round =>
    clear HR HB
    obtain ⟨j, hj, rfl, hr, hb⟩ := hrel
    have HR := Lib.hid hr
    have HB := Lib.hid hb
    clear hr hb
    by_cases hlt : j < h
    · have hdt : decide (j < h) = true := by simp; omega
      have hj2 : j ≤ 1000 := by omega
      have hj3 : 2 * j < N := by omega
      have hj4 : 2 * j + 1 < N := by omega
      obtain ⟨g, o, rfl, _⟩ := HL.out.at_ (2 * j) (by rw [HN.out]; exact hj3)
      have HX : Hid (∀ W, Below w.heap.size w W → W.cell? ⟨g, o + 2 * j, none⟩ = some (.int .i64 (prsF l j).1)) := Lib.hid (fun W hW => by
        obtain ⟨g', o', e, hc⟩ := (HL.out.below hW).at_ (2 * j) (by rw [HN.out]; exact hj3)
        cases e
        exact hc)
      have HY : Hid (∀ W, Below w.heap.size w W → W.cell? ⟨g, o + (2 * j + 1), none⟩ = some (.int .i64 (prsF l j).2)) := Lib.hid (fun W hW => by
        obtain ⟨g', o', e, hc⟩ := (HL.out.below hW).at_ (2 * j + 1) (by rw [HN.out]; exact hj4)
        cases e
        exact hc)
      have HP := Lib.hid (mkP_set (prsF l) hlt)
      have hlen := mkP_length (prsF l) (i := j) (n := h) (by omega)
      obtain ⟨p, hp⟩ : ∃ p, prsF l j = p := ⟨_, rfl⟩
      rw [hp] at HX HY HP
      obtain ⟨x, y⟩ := p
      dsimp only at HX HY
      clear hp
      go_wp2
      have hw : ∀ W', Below wr.heap.size wr W' → Below w.heap.size w W' := fun W' h => HB.out.trans (h.mono HB.out.size)
      refine wp_region_quiet_tail (C := fun W => Below wr.heap.size wr W) 15 (by kernel_rfl) (by kernel_rfl) ⟨rfl, rfl, rfl, Nat.le_refl _, fun _ _ => rfl⟩ ?_
      simp only [List.take_succ_cons, List.take_zero, List.drop_succ_cons, List.drop_zero]
      refine q_val _ rfl (fun _ _ => rfl) ?_
      simp only [Act.put, List.setIfInBounds_toArray, List.set_cons_succ, List.set_cons_zero]
      refine q_val _ rfl (fun _ _ => rfl) ?_
      simp only [Act.put, List.setIfInBounds_toArray, List.set_cons_succ, List.set_cons_zero]
      refine q_val _ rfl (fun _ _ => rfl) ?_
      simp only [Act.put, List.setIfInBounds_toArray, List.set_cons_succ, List.set_cons_zero]
      refine q_val _ rfl (fun _ _ => rfl) ?_
      simp only [Act.put, List.setIfInBounds_toArray, List.set_cons_succ, List.set_cons_zero]
      refine q_val (.int .i64 ((2 * j : Nat) : Int)) rfl (fun W _ => exec_binOp .mul 3 3 (.const (.int .i64 2)) (.tmp 17) rfl (.int .i64 2) (.int .i64 (j : Int)) _ rfl rfl rfl (run_twiceP j hj2 W)) ?_
      simp only [Act.put, List.setIfInBounds_toArray, List.set_cons_succ, List.set_cons_zero]
      refine q_val (.pointer (some ⟨g, o + 2 * j, none⟩)) rfl (fun W _ => exec_num_at (.tmp 16) (.tmp 18) rfl g o N cap (2 * j) rfl rfl hj3) ?_
      simp only [Act.put, List.setIfInBounds_toArray, List.set_cons_succ, List.set_cons_zero]
      refine q_val (.int .i64 x) rfl (fun W hW => exec_load_num (.tmp 19) rfl g (o + 2 * j) x rfl (HX.out W (hw W hW))) ?_
      simp only [Act.put, List.setIfInBounds_toArray, List.set_cons_succ, List.set_cons_zero]
      refine q_val _ rfl (fun _ _ => rfl) ?_
      simp only [Act.put, List.setIfInBounds_toArray, List.set_cons_succ, List.set_cons_zero]
      refine q_val _ rfl (fun _ _ => rfl) ?_
      simp only [Act.put, List.setIfInBounds_toArray, List.set_cons_succ, List.set_cons_zero]
      refine q_val (.int .i64 ((2 * j : Nat) : Int)) rfl (fun W _ => exec_binOp .mul 3 3 (.const (.int .i64 2)) (.tmp 22) rfl (.int .i64 2) (.int .i64 (j : Int)) _ rfl rfl rfl (run_twiceP j hj2 W)) ?_
      simp only [Act.put, List.setIfInBounds_toArray, List.set_cons_succ, List.set_cons_zero]
      refine q_val (.int .i64 ((2 * j + 1 : Nat) : Int)) rfl (fun W _ => exec_binOp .add 3 3 (.tmp 23) (.const (.int .i64 1)) rfl (.int .i64 ((2 * j : Nat) : Int)) (.int .i64 1) _ rfl rfl rfl (run_add1 (2 * j) (by omega) W)) ?_
      simp only [Act.put, List.setIfInBounds_toArray, List.set_cons_succ, List.set_cons_zero]
      refine q_val (.pointer (some ⟨g, o + (2 * j + 1), none⟩)) rfl (fun W _ => exec_num_at (.tmp 21) (.tmp 24) rfl g o N cap (2 * j + 1) rfl rfl hj4) ?_
      simp only [Act.put, List.setIfInBounds_toArray, List.set_cons_succ, List.set_cons_zero]
      refine q_val (.int .i64 y) rfl (fun W hW => exec_load_num (.tmp 25) rfl g (o + (2 * j + 1)) y rfl (HY.out W (hw W hW))) ?_
      simp only [Act.put, List.setIfInBounds_toArray, List.set_cons_succ, List.set_cons_zero]
      refine q_val (.agg #[.int .i64 x, .int .i64 y]) rfl (fun W _ => exec_buildT (.tmp 20) (.tmp 26) rfl x y rfl rfl) ?_
      simp only [Act.put, List.setIfInBounds_toArray, List.set_cons_succ, List.set_cons_zero]
      refine q_val (.pointer (some ⟨w.heap.size, j * 2, none⟩)) rfl (fun W _ => exec_pairT_at (.tmp 14) (.tmp 15) rfl w.heap.size h h j rfl rfl hlt) ?_
      simp only [Act.put, List.setIfInBounds_toArray, List.set_cons_succ, List.set_cons_zero]
      refine wpQuiet_nil ?_
      intro w2 hw2
      have HR2 := Lib.hid (HR.out.below hw2)
      have HB2 := Lib.hid (hw _ hw2)
      clear hw2 hw
      go_wp2_with (refine wpList_store_mid rfl 72 (.tmp 28) (.tmp 27) rfl w.heap.size (j * 2) #[.int .i64 x, .int .i64 y] rfl rfl (HR2.out.there j (by rw [hlen]; exact hlt)) size_pairT (one_xy x y) ?_)
      go_wp2
      go_roundw
      case rel => exact ⟨j + 1, by omega, by go_num, by rw [← HP.out]; exact HR2.out.set j (by rw [hlen]; exact hlt) (x, y), belowCellsP _ _ _ (Nat.le_refl _) HB2.out⟩
      case measure => simp [intOf]; omega
    · obtain rfl : j = h := by omega
      have hdf : decide (j < j) = false := by simp
      go_wp2
      go_ret
      exact ⟨rfl, by rw [← mkP_all]; exact HR.out, HB.out⟩
end Go.Proofs.YtchjijifmjbgoaaDoor.Tn
