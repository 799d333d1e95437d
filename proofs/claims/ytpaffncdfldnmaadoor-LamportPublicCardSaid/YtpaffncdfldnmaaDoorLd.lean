import Derived.Test.YtpaffncdfldnmaaDoorLc
import Derived.Test.YtpaffncdfldnmaaDoorCe
import Derived.Test.YtpaffncdfldnmaaDoorSs
namespace Go.Proofs.YtpaffncdfldnmaaDoor
open Go.ChangeShapes Go.WideShapes Go.ChangeAt Go.RowKit

/-- a seed's block -/
structure H1 (w : World) (d : List Int) (W : World) : Prop where
  below : Below w.heap.size w W
  d : Dg W w.heap.size d
theorem H1.made (w : World) (d : List Int) : H1 w d (w.alloc (.cells (rowB d) 23)) := ⟨(Below.refl _ _).alloc (Nat.le_refl _) _, heap_alloc_new _ _⟩
set_option maxRecDepth 100000 in
set_option maxHeartbeats 4000000 in
theorem refBytes_any (w : World) (s : List Int) (p b : Nat) (hs : s.length = 32) (hr : Cd.rng s) (hp : p < 1000) (hb : b < 1000) :
    Calls Tryd.prog 18 #[.agg (rowB s), .int .i64 (p : Int), .int .i64 (b : Int)] w fun e w' => ∃ sp cap, e = .returned (.slice sp 56 cap) ∧ Byt w' sp cap (secB s p b) ∧ Below w.heap.size w w' := by
  have HL := Lib.hid hs
  have HR : Hid (Cd.rng s) := hr
  have HN : Hid (∀ x ∈ [(p : Int), (b : Int)], -9223372036854775808 ≤ x ∧ x ≤ 9223372036854775807) := Lib.hid (by
    intro x hx
    simp only [List.mem_cons, List.not_mem_nil, or_false] at hx
    rcases hx with rfl | rfl <;> omega)
  clear hs hr hp hb
  go_enter Tryd.func18, Tryd.ntmps18
  go_upto_region 1 with fail
  refine gen_world (Q := fun w => Code.wp _ _ _ _ w) _ (H1 w s) (H1.made w s) ?_
  intro v hv
  have HV := Lib.hid hv
  clear hv
  refine wp_region_spec (C := fun W => Below v.heap.size v W) (Le := fun w w' => Below w.heap.size w w') 7 (scP w.heap.size s p b) (by kernel_rfl) (by kernel_rfl) ⟨rfl, rfl, rfl, Nat.le_refl _, fun _ _ => rfl⟩ (scP_le _ _ _ _)
    (fun j v => ∀ x, scX w.heap.size s p b j = some x → v = x) (scP_val _ _ _ _) (fun j => (scX w.heap.size s p b j).getD undef) (fun j x h => by simp [h]) ?_ ?_
  · intro u hu
    have h0 := hu 0 _ rfl
    have h1 := hu 1 _ rfl
    have h2 := hu 2 _ rfl
    simp only [List.take_succ_cons, List.take_zero]
    refine spec_cons (fun W hC hd => ⟨by rfl, ?_⟩) ?_
    · exact gives_val _ W (exec_slD (.tmp 3) rfl w.heap.size rfl) ⟨hC, Below.refl _ _, rfl⟩
    simp only [Act.put, List.setIfInBounds_toArray, List.set_cons_succ, List.set_cons_zero, Nat.reduceAdd]
    rw [h0]
    refine spec_cons (fun W hC hd => ⟨by rfl, ?_⟩) ?_
    · exact gives_val _ W rfl ⟨hC, Below.refl _ _, rfl⟩
    simp only [Act.put, List.setIfInBounds_toArray, List.set_cons_succ, List.set_cons_zero, Nat.reduceAdd]
    rw [h1]
    refine spec_cons (fun W hC hd => ⟨by rfl, ?_⟩) ?_
    · exact gives_val _ W rfl ⟨hC, Below.refl _ _, rfl⟩
    simp only [Act.put, List.setIfInBounds_toArray, List.set_cons_succ, List.set_cons_zero, Nat.reduceAdd]
    rw [h2]
    refine spec_cons (fun W hC hd => ⟨by rfl, ?_⟩) ?_
    · exact gives_val _ _ (exec_twoI (.tmp 8) (.tmp 9) rfl _ _ rfl rfl) ⟨hC.alloc hC.size _, (Below.refl _ _).alloc (Nat.le_refl _) _, (show ∃ g, _ ∧ _ from ⟨W.heap.size, rfl, nums_new W _ _⟩)⟩
    simp only [Act.put, List.setIfInBounds_toArray, List.set_cons_succ, List.set_cons_zero, Nat.reduceAdd]
    refine spec_cons (fun W hC hd => ⟨by rfl, ?_⟩) ?_
    · obtain ⟨g, e0, hn⟩ := (show ∃ g, u 3 = .slice (some ⟨g, 0, none⟩) 2 2 ∧ Cd.Nums W (some ⟨g, 0, none⟩) 2 [(p : Int), (b : Int)] from hd ⟨3, .data⟩ (by simp) rfl)
      exact gives_call _ _ (exec_call1 34 (.tmp 10) #[60] _ rfl e0 (cf Tryd.func34 (by kernel_rfl) (by kernel_rfl) _ _)) ((Cd.ref_numbers W _ 2 2 [(p : Int), (b : Int)] rfl hn HN.out (by omega)).mono fun e W' ⟨sp, cap, h1, h2, h3⟩ => ⟨_, h1, hC.trans (h3.mono hC.size), h3, (show ∃ sp cap, _ ∧ _ from ⟨sp, cap, rfl, h2⟩)⟩)
    simp only [Act.put, List.setIfInBounds_toArray, List.set_cons_succ, List.set_cons_zero, Nat.reduceAdd]
    refine spec_cons (fun W hC hd => ⟨by rfl, ?_⟩) ?_
    · obtain ⟨sp, cap, e0, hn⟩ := (show ∃ sp cap, u 4 = .slice sp 16 cap ∧ Cd.Bytes W sp cap (Cd.nums [(p : Int), (b : Int)]) from hd ⟨4, .data⟩ (by simp) rfl)
      exact gives_val _ _ (exec_twoS (.tmp 7) (.tmp 11) rfl _ _ _ _ _ _ rfl e0) ⟨hC.alloc hC.size _, (Below.refl _ _).alloc (Nat.le_refl _) _, (show ∃ g, _ ∧ _ from ⟨W.heap.size, rfl, pieces_new (cd_of_byt ((HV.out.d.below hC).byt HL.out) HR.out) hn HL.out (Cd.nums_length _)⟩)⟩
    simp only [Act.put, List.setIfInBounds_toArray, List.set_cons_succ, List.set_cons_zero, Nat.reduceAdd]
    refine spec_cons (fun W hC hd => ⟨by rfl, ?_⟩) ?_
    · obtain ⟨g, e0, hn⟩ := (show ∃ g, u 5 = .slice (some ⟨g, 0, none⟩) 2 2 ∧ Cd.Pieces W (some ⟨g, 0, none⟩) 2 [s, Cd.nums [(p : Int), (b : Int)]] from hd ⟨5, .data⟩ (by simp) rfl)
      exact gives_call _ _ (exec_call1 33 (.tmp 12) #[61] _ rfl e0 (cf Tryd.func33 (by kernel_rfl) (by kernel_rfl) _ _)) ((Cd.ref_join W _ 2 2 [s, Cd.nums [(p : Int), (b : Int)]] rfl hn (by rw [show Cd.join [s, Cd.nums [(p : Int), (b : Int)]] = secB s p b from rfl, secB_length HL.out]; omega)).mono fun e W' ⟨sp, cap, h1, h2, h3⟩ => ⟨_, h1, hC.trans (h3.mono hC.size), h3, (show ∃ sp cap, _ ∧ _ from ⟨sp, cap, by rw [show Cd.join [s, Cd.nums [(p : Int), (b : Int)]] = secB s p b from rfl, secB_length HL.out], h2⟩)⟩)
    simp only [Act.put, List.setIfInBounds_toArray, List.set_cons_succ, List.set_cons_zero, Nat.reduceAdd]
    exact spec_nil
  · intro u W hu hC hΦ
    obtain ⟨sp, cap, e0, hn⟩ := (show ∃ sp cap, u 6 = .slice sp 56 cap ∧ Cd.Bytes W sp cap (secB s p b) from hΦ 6 (by omega))
    simp only [List.take_succ_cons, List.take_zero, List.drop_succ_cons, List.drop_zero, putAll, Act.put, List.setIfInBounds_toArray, List.set_cons_succ, List.set_cons_zero, Nat.reduceAdd]
    rw [e0]
    have HW := Lib.hid (HV.out.below.trans (hC.mono HV.out.below.size))
    have HN2 := Lib.hid (byt_of_cd hn)
    clear hu hC hΦ hn e0
    go_wp2
    go_ret
    exact ⟨sp, cap, rfl, HN2.out, HW.out⟩
end Go.Proofs.YtpaffncdfldnmaaDoor
