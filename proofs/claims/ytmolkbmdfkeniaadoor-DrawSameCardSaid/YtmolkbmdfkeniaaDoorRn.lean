import Derived.Test.YtmolkbmdfkeniaaDoorNa
import Derived.Test.YtmolkbmdfkeniaaDoorSc
import Derived.Test.YtmolkbmdfkeniaaDoorCe
namespace Go.Proofs.YtmolkbmdfkeniaaDoor.Dr
set_option maxRecDepth 100000
open Go.ChangeShapes Go.WideShapes Go.ChangeAt Go.RowKit Go.Proofs.YtmolkbmdfkeniaaDoor.Tn

/-! ### the document's answer: the number of a count -/
theorem val_snoc_take (l : List Int) (k : Nat) (h : k < l.length) : Cd.val (l.take (k + 1)) = 256 * Cd.val (l.take k) + l.getD k 0 := by
  have e : l.getD k 0 = l[k] := by simp [h]
  rw [e, List.take_succ_eq_append_getElem h, Cd.val_snoc]
/-- the first k + 1 bytes as the document's answer adds them up -/
def accN (l : List Int) (k : Nat) : Int := Cd.val (l.take (k + 1)) % (128 * 256 ^ k)
theorem accN_zero (l : List Int) (h : 0 < l.length) : accN l 0 = l.getD 0 0 % 128 := by
  unfold accN
  rw [val_snoc_take l 0 h]
  simp [Cd.val]
theorem accN_succ (l : List Int) (k : Nat) (h : k + 1 < l.length) (h0 : 0 ≤ l.getD (k + 1) 0) (h1 : l.getD (k + 1) 0 < 256) : accN l (k + 1) = 256 * accN l k + l.getD (k + 1) 0 := by
  unfold accN
  rw [val_snoc_take l (k + 1) h, Int.pow_succ, Int.mul_comm (256 ^ k) 256, ← Int.mul_assoc, Int.mul_comm 128 256, Int.mul_assoc, Cd.mod_split]
  have e1 : (256 * Cd.val (l.take (k + 1)) + l.getD (k + 1) 0) % 256 = l.getD (k + 1) 0 := by omega
  have e2 : (256 * Cd.val (l.take (k + 1)) + l.getD (k + 1) 0) / 256 = Cd.val (l.take (k + 1)) := by omega
  rw [e1, e2]
theorem pow_le6 : ∀ k, k < 7 → (256 : Int) ^ k ≤ 281474976710656
  | 0, _ => by decide
  | 1, _ => by decide
  | 2, _ => by decide
  | 3, _ => by decide
  | 4, _ => by decide
  | 5, _ => by decide
  | 6, _ => by decide
  | k + 7, h => absurd h (by omega)
theorem accN_in (l : List Int) (k : Nat) (h : k < 7) : 0 ≤ accN l k ∧ accN l k < 36028797018963968 := by
  have h2 := pow_le6 k h
  have h3 : (0 : Int) < 256 ^ k := Int.pow_pos (by omega)
  unfold accN
  have h4 := Int.emod_nonneg (Cd.val (l.take (k + 1))) (show (128 * 256 ^ k : Int) ≠ 0 by omega)
  have h5 := Int.emod_lt_of_pos (Cd.val (l.take (k + 1))) (show (0 : Int) < 128 * 256 ^ k by omega)
  omega
theorem accN_last (l : List Int) : accN l 7 = Cd.val (l.take 8) % 9223372036854775808 := rfl
set_option maxHeartbeats 4000000 in
theorem refNumber_any (w : World) (s : List Int) (c : Int) (hs : s.length = 32) (hr : Cd.rng s) (hc1 : -9223372036854775808 ≤ c) (hc2 : c ≤ 9223372036854775807) :
    Calls Tryd.prog 14 #[.agg (rowB s), .int .i64 c] w fun e w' => e = .returned (.int .i64 (numV s c)) ∧ Below w.heap.size w w' := by
  have HL := Lib.hid hs
  have HR : Hid (Cd.rng s) := hr
  have HRg : Hid (Cd.rng (numB s c)) := Lib.hid (rng_numB hr c)
  have HN : Hid (∀ x ∈ [c], -9223372036854775808 ≤ x ∧ x ≤ 9223372036854775807) := Lib.hid (by
    intro x hx
    simp only [List.mem_cons, List.not_mem_nil, or_false] at hx
    subst hx
    exact ⟨hc1, hc2⟩)
  clear hs hr hc1 hc2
  go_enter Tryd.func14, Tryd.ntmps14
  go_upto_region 1 with fail
  refine gen_w (Q := fun w => Code.wp _ _ _ _ w) _ (H1 w s) (H1.made w s) ?_
  intro v hv
  have HV := Lib.hid hv
  clear hv
  refine Tn.wp_region_spec (C := fun W => Below v.heap.size v W) (Le := fun w w' => Below w.heap.size w w') 8 (fun _ q W x => nbP w.heap.size v.heap.size s c q W x) (by kernel_rfl) (by kernel_rfl) ⟨rfl, rfl, rfl, Nat.le_refl _, fun _ _ => rfl⟩ (fun _ _ _ _ _ _ h => h) (fun _ => nbP_le _ _ _ _)
    (fun j v => ∀ x, nbX w.heap.size s c j = some x → v = x) (fun _ => nbP_val _ _ _ _) (fun j => (nbX w.heap.size s c j).getD undef) (fun j x h => by simp [h]) ?_ ?_
  · intro u hu
    have h0 := hu 0 _ rfl
    have h1 := hu 1 _ rfl
    have h6 := hu 6 _ rfl
    simp only [List.take_succ_cons, List.take_zero]
    refine Tn.spec_cons (fun W hC hd => ⟨by rfl, ?_⟩) ?_
    · exact Tn.gives_val _ W (exec_slD (.tmp 2) rfl w.heap.size rfl) ⟨hC, Below.refl _ _, rfl⟩
    simp only [Act.put, List.setIfInBounds_toArray, List.set_cons_succ, List.set_cons_zero, Nat.reduceAdd]
    rw [h0]
    refine Tn.spec_cons (fun W hC hd => ⟨by rfl, ?_⟩) ?_
    · exact Tn.gives_val _ W rfl ⟨hC, Below.refl _ _, rfl⟩
    simp only [Act.put, List.setIfInBounds_toArray, List.set_cons_succ, List.set_cons_zero, Nat.reduceAdd]
    rw [h1]
    refine Tn.spec_cons (fun W hC hd => ⟨by rfl, ?_⟩) ?_
    · exact Tn.gives_val _ _ (exec_oneI (.tmp 9) rfl _ rfl) ⟨hC.alloc hC.size _, (Below.refl _ _).alloc (Nat.le_refl _) _, (show ∃ g, _ ∧ _ from ⟨W.heap.size, rfl, one_new W _⟩)⟩
    simp only [Act.put, List.setIfInBounds_toArray, List.set_cons_succ, List.set_cons_zero, Nat.reduceAdd]
    refine Tn.spec_cons (fun W hC hd => ⟨by rfl, ?_⟩) ?_
    · obtain ⟨g, e0, hn⟩ := (show ∃ g, u 2 = .slice (some ⟨g, 0, none⟩) 1 1 ∧ Cd.Nums W (some ⟨g, 0, none⟩) 1 [c] from hd ⟨2, .data⟩ (by simp) rfl)
      exact Tn.gives_call _ _ (Tn.exec_call1 27 (.tmp 10) #[39] _ rfl e0 (Tn.cf Tryd.func27 (by kernel_rfl) (by kernel_rfl) _ _)) ((Cd.ref_numbers W _ 1 1 [c] rfl hn HN.out (by omega)).mono fun e W' ⟨sp, cap, h1, h2, h3⟩ => ⟨_, h1, hC.trans (h3.mono hC.size), h3, (show ∃ sp cap, _ ∧ _ from ⟨sp, cap, rfl, h2⟩)⟩)
    simp only [Act.put, List.setIfInBounds_toArray, List.set_cons_succ, List.set_cons_zero, Nat.reduceAdd]
    refine Tn.spec_cons (fun W hC hd => ⟨by rfl, ?_⟩) ?_
    · obtain ⟨sp, cap, e0, hn⟩ := (show ∃ sp cap, u 3 = .slice sp 8 cap ∧ Cd.Bytes W sp cap (Cd.nums [c]) from hd ⟨3, .data⟩ (by simp) rfl)
      exact Tn.gives_val _ _ (exec_twoS (.tmp 8) (.tmp 11) rfl _ _ _ _ _ _ rfl e0) ⟨hC.alloc hC.size _, (Below.refl _ _).alloc (Nat.le_refl _) _, (show ∃ g, _ ∧ _ from ⟨W.heap.size, rfl, pieces_new ((HV.out.d.below hC).bytes HL.out HR.out) hn HL.out (by simp [Cd.nums, Cd.be_length])⟩)⟩
    simp only [Act.put, List.setIfInBounds_toArray, List.set_cons_succ, List.set_cons_zero, Nat.reduceAdd]
    refine Tn.spec_cons (fun W hC hd => ⟨by rfl, ?_⟩) ?_
    · obtain ⟨g, e0, hn⟩ := (show ∃ g, u 4 = .slice (some ⟨g, 0, none⟩) 2 2 ∧ Cd.Pieces W (some ⟨g, 0, none⟩) 2 [s, Cd.nums [c]] from hd ⟨4, .data⟩ (by simp) rfl)
      exact Tn.gives_call _ _ (Tn.exec_call1 26 (.tmp 12) #[60] _ rfl e0 (Tn.cf Tryd.func26 (by kernel_rfl) (by kernel_rfl) _ _)) ((Cd.ref_join W _ 2 2 [s, Cd.nums [c]] rfl hn (by rw [show Cd.join [s, Cd.nums [c]] = numB s c from rfl, numB_length HL.out]; omega)).mono fun e W' ⟨sp, cap, h1, h2, h3⟩ => ⟨_, h1, hC.trans (h3.mono hC.size), h3, (show ∃ sp cap, _ ∧ _ from ⟨sp, cap, by rw [show Cd.join [s, Cd.nums [c]] = numB s c from rfl, numB_length HL.out], h2⟩)⟩)
    simp only [Act.put, List.setIfInBounds_toArray, List.set_cons_succ, List.set_cons_zero, Nat.reduceAdd]
    refine Tn.spec_cons (fun W hC hd => ⟨by rfl, ?_⟩) ?_
    · obtain ⟨sp, cap, e0, hn⟩ := (show ∃ sp cap, u 5 = .slice sp 48 cap ∧ Cd.Bytes W sp cap (numB s c) from hd ⟨5, .data⟩ (by simp) rfl)
      exact Tn.gives_call _ _ (Tn.exec_call1 25 (.tmp 13) #[57] _ rfl e0 (Tn.cf Tryd.func25 (by kernel_rfl) (by kernel_rfl) _ _)) ((ref_sum block_any W sp 48 cap (numB s c) (numB_length HL.out c) (bytes_of hn) hn.sl.nul HRg.out (by omega)).mono fun e W' h => ⟨_, h.1, hC.trans (h.2.mono hC.size), h.2, rfl⟩)
    simp only [Act.put, List.setIfInBounds_toArray, List.set_cons_succ, List.set_cons_zero, Nat.reduceAdd]
    rw [h6]
    refine Tn.spec_cons (fun W hC hd => ⟨by rfl, ?_⟩) ?_
    · exact Tn.gives_val _ _ (exec_allocD rfl) ⟨hC.alloc hC.size _, (Below.refl _ _).alloc (Nat.le_refl _) _, (show ∃ g, _ ∧ _ from ⟨W.heap.size, rfl, hC.size, heap_alloc_new _ _⟩)⟩
    simp only [Act.put, List.setIfInBounds_toArray, List.set_cons_succ, List.set_cons_zero, Nat.reduceAdd]
    exact Tn.spec_nil
  · intro u W hu hC hP
    have h6 := hu 6 _ rfl
    obtain ⟨g, h7, hg, hD⟩ := (show ∃ g, u 7 = .pointer (some ⟨g, 0, none⟩) ∧ v.heap.size ≤ g ∧ Dg W g (zs 32) from hP 7 (by omega))
    simp only [List.take_succ_cons, List.take_zero, List.drop_succ_cons, List.drop_zero, Tn.putAll, Act.put, List.setIfInBounds_toArray, List.set_cons_succ, List.set_cons_zero, Nat.reduceAdd]
    rw [h6, h7]
    have HD : Hid (Dg W g (zs 32)) := Lib.hid hD
    have HB1 := Lib.hid (HV.out.below.trans (hC.mono HV.out.below.size))
    have hgw : w.heap.size ≤ g := Nat.le_trans HV.out.below.size hg
    clear hu h6 h7 hC hP hD
    have HZ := Lib.hid (row_dig (numD_length s c))
    have HY := Lib.hid (row_dig0 (numD_length s c))
    have HX := Lib.hid (rowB_one (numD s c))
    have HFl := Lib.hid (numD_length s c)
    have HFr := Lib.hid (rng_numD s c)
    have HNv : Hid (Cd.val ((numD s c).take 8) % 9223372036854775808 = numV s c) := Lib.hid rfl
    obtain ⟨F, hF⟩ : ∃ F, numD s c = F := ⟨_, rfl⟩
    rw [hF] at HZ HY HX HFl HFr HNv ⊢
    clear hF
    go_upto_region 2 with (refine wpList_store_row rfl 23 (.tmp 5) (.tmp 14) rfl g (rowB F) rfl rfl 23 _ HD.out HZ.out HY.out HX.out ?_)
    refine gen_w (Q := fun w => Code.wp _ _ _ _ w) _ (fun V => Below w.heap.size w V ∧ Dg V g F) ⟨below_setRow HB1.out hgw _, setRow_heap _ _ _ _ _ _ HD.out⟩ ?_
    rintro w2 ⟨hb2, hd2⟩
    have HB2 := Lib.hid hb2
    have HC : Hid (∀ k, k < 32 → w2.cell? ⟨g, k, none⟩ = some (.int .u8 (F.getD k 0))) := Lib.hid (fun k hk => by
      rw [cell_of_row _ _ _ _ _ _ hd2, rowB_get _ _ (by rw [HFl.out]; exact hk)])
    have HV2 : Hid (∀ k, k < 32 → 0 ≤ F.getD k 0 ∧ F.getD k 0 < 256) := Lib.hid (fun k hk => HFr.out _ (by
      have : k < F.length := by rw [HFl.out]; exact hk
      simp [this]))
    have c0 := HC.out 0 (by omega)
    obtain ⟨q1, q2⟩ := HV2.out 0 (by omega)
    have hz := accN_zero F (by rw [HFl.out]; omega)
    obtain ⟨x, hx⟩ : ∃ x, F.getD 0 0 = x := ⟨_, rfl⟩
    rw [hx] at c0 q1 q2 hz
    have hxm : 0 ≤ x % 128 ∧ x % 128 < 128 := by omega
    obtain ⟨a0, hA⟩ : ∃ a, accN F 0 = a := ⟨_, rfl⟩
    have hst : ∃ k : Nat, k < 8 ∧ Value.int .i64 1 = .int .i64 ((k + 1 : Nat) : Int) ∧ Value.int .i64 (x % 128) = .int .i64 (accN F k) := ⟨0, by omega, rfl, by rw [hz]⟩
    clear hb2 hd2 hx hz hA
    go_wp2
    go_loop [6, 7] (fun n i => ∃ k : Nat, k < 8 ∧ i = .int .i64 ((k + 1 : Nat) : Int) ∧ n = .int .i64 (accN F k)) (fun _ i => 8 - (intOf i).toNat)
    case atStart => exact hst
    case round =>
      clear hst c0
      obtain ⟨k, hk, rfl, rfl⟩ := hrel
      by_cases hlt : k + 1 < 8
      · have hdt : decide (((k + 1 : Nat) : Int) < 8) = true := by simp; omega
        have ck := HC.out (k + 1) (by omega)
        obtain ⟨y1, y2⟩ := HV2.out (k + 1) (by omega)
        have hs := accN_succ F k (by rw [HFl.out]; omega) y1 y2
        obtain ⟨a1, a2⟩ := accN_in F k (by omega)
        obtain ⟨y, hy⟩ : ∃ y, F.getD (k + 1) 0 = y := ⟨_, rfl⟩
        rw [hy] at ck y1 y2 hs
        have HS := Lib.hid hs
        obtain ⟨a, ha⟩ : ∃ a, accN F k = a := ⟨_, rfl⟩
        rw [ha] at HS a1 a2 ⊢
        obtain ⟨j, hj⟩ : ∃ j, k + 1 = j := ⟨_, rfl⟩
        have HJ := Lib.hid hj
        rw [hj] at ck hlt hdt ⊢
        clear hy ha hs hj
        go_wp2
        go_round
        case rel => exact ⟨k + 1, by rw [HJ.out]; omega, by rw [HJ.out]; go_num, by rw [HS.out]⟩
        case measure => simp [intOf]; omega
      · obtain rfl : k = 7 := by omega
        have hdt : decide (((7 + 1 : Nat) : Int) < 8) = false := by decide
        have HA := Lib.hid (accN_last F)
        rw [HNv.out] at HA
        obtain ⟨a, ha⟩ : ∃ a, accN F 7 = a := ⟨_, rfl⟩
        rw [ha] at HA ⊢
        clear ha hk hlt
        go_wp2
        go_ret
        exact ⟨by rw [← HA.out]; rfl, HB2.out⟩
end Go.Proofs.YtmolkbmdfkeniaaDoor.Dr
