import Derived.Test.YtighmhoekbnagaaDoorKb
import Derived.Test.YtighmhoekbnagaaDoorLw
import Derived.Lib.BitFns
import Derived.Lib.Strings
import Derived.Lib.Small
import Derived.Lib.Walk
namespace Go.Proofs.YtighmhoekbnagaaDoor
open Go.ChangeShapes Go.WideShapes Go.ChangeAt Go.RowKit

def leafD (l : List Int) : List Int := sum (0 :: l)
def nodeD (a b : List Int) : List Int := sum (1 :: (a ++ b))
def noneD : List Int := sum [2]
theorem leafD_length (l : List Int) : (leafD l).length = 32 := sum_length _
theorem nodeD_length (a b : List Int) : (nodeD a b).length = 32 := sum_length _
theorem row_dig {d : List Int} (h : d.length = 32) : (Tryd.prog.info? 24).map (·.size) = some (rowB d).size := by rw [rowB_size, h]; exact size25
theorem row_dig0 {d : List Int} (h : d.length = 32) : 32 = (rowB d).size := by rw [rowB_size, h]
/-- a world behind a new block for a digest -/
structure Res (w W : World) : Prop where
  below : Below w.heap.size w W
  res : W.heap[w.heap.size]? = some (.cells (rowB (zs 32)) 24 (0, 0))
theorem Res.later {w W W' : World} (h : Res w W) (hb : Below W.heap.size W W') : Res w W' :=
  ⟨h.below.trans (hb.mono h.below.size), (hb.block _ (Array.getElem?_eq_some_iff.1 h.res).1).trans h.res⟩
theorem Res.new (w : World) (X : Array Value) (hX : X = rowB (zs 32)) : Res w (w.alloc (.cells X 24)) := by
  subst hX
  exact ⟨(Below.refl _ _).alloc (Nat.le_refl _) _, heap_alloc_new _ _⟩
set_option maxRecDepth 100000 in
set_option maxHeartbeats 4000000 in
theorem leaf_any (w : World) (sp : Option Addr) (n cap : Nat) (l : List Int) (hn : l.length = n) (hb : Byt w sp cap l) (he : Env w) (hs : n ≤ 1000000) :
    Calls Tryd.prog 11 #[.slice sp n cap] w fun e w' => e = .returned (.agg (rowB (leafD l))) ∧ Below w.heap.size w w' := by
  have HB := Lib.hid hb
  have HN := Lib.hid hn
  have HE := Lib.hid he
  clear hb hn he
  go_enter Tryd.func11, Tryd.ntmps11
  go_wp2_with fail
  refine gen_world (Q := fun w => Calls _ _ _ w _) _ (fun W => Res w W ∧ Pcs W (some ⟨w.heap.size + 1, 0, none⟩) 1 [l]) ⟨?_, ?_⟩ ?_
  · exact (Res.new w _ (by kernel_rfl)).later ((Below.refl _ _).alloc (Nat.le_refl _) _)
  · have := Pcs.new (w.alloc (.cells (List.replicate 32 (.int .u8 0)).toArray 24)) [.slice sp n cap] [l] #[.slice sp n cap] 28 (0, 0) rfl rfl (by simp) (fun i v hv => by
      rcases i with _ | i
      · simp at hv
        subst hv
        exact ⟨sp, cap, by rw [show ([l].getD 0 []).length = n from HN.out], HB.out.below ((Below.refl _ _).alloc (Nat.le_refl _) _)⟩
      · simp at hv)
    rw [World.size_alloc] at this
    exact this
  rintro w1 ⟨hr1, hp1⟩
  have HR1 := Lib.hid hr1
  refine (hashed_any w1 0 _ 1 1 [l] rfl hp1 (HE.out.below hr1.below) (by simp [HN.out]; omega)).mono ?_
  rintro e w2 ⟨rfl, hb2⟩
  have HR2 := Lib.hid (HR1.out.later hb2)
  clear hr1 hp1 hb2
  rw [show (0 :: [l].flatten) = (0 :: l) by simp, show sum (0 :: l) = leafD l from rfl]
  have HZ := Lib.hid (row_dig (leafD_length l))
  have HY := Lib.hid (show (rowB (zs 32)).size = (rowB (leafD l)).size by rw [← row_dig0 (leafD_length l)]; rfl)
  have HX := Lib.hid (rowB_one (leafD l))
  obtain ⟨F, hF⟩ : ∃ F, leafD l = F := ⟨_, rfl⟩
  rw [hF] at HZ HY HX ⊢
  have HF := Lib.hid hF
  clear hF
  go_wp2_with (refine wpList_store_row rfl 24 (.tmp 2) (.tmp 5) rfl w.heap.size (rowB F) rfl rfl 24 _ HR2.out.res HZ.out HY.out HX.out ?_)
  exact bodyPost_ret (v := .agg (rowB F)) (results_cell_row Tryd.results11 _ _ w.heap.size 24 (rowB F) (0, 0) _ rfl (setRow_heap _ _ _ _ _ _ HR2.out.res) Tryd.underlying24 rfl HZ.out) rfl ⟨by rw [HF.out], below_setRow HR2.out.below (Nat.le_refl _) _⟩
/-- a[:] of a digest in memory -/
theorem run_digest (p : Nat) (w : World) : (Instr.sliceAt 24 (.pointer (some ⟨p, 0, none⟩)) none none none).run Tryd.prog w = .ok (.slice (some ⟨p, 0, none⟩) 32 32) w := by
  cases hq : Tryd.prog.info? 5 with
  | none => have := size5; simp [hq] at this
  | some i =>
    have hadd := add_plain p 0 0
    simp [Instr.sliceAt, Instr.sureAddr, run_underlying Tryd.underlying24, Instr.sliceBounds, sizeOf, typeInfo, hq]
    try simpa using hadd
set_option maxRecDepth 100000 in
set_option maxHeartbeats 4000000 in
theorem node_any (w : World) (a b : List Int) (ha : a.length = 32) (hb : b.length = 32) (he : Env w) :
    Calls Tryd.prog 15 #[.agg (rowB a), .agg (rowB b)] w fun e w' => e = .returned (.agg (rowB (nodeD a b))) ∧ Below w.heap.size w w' := by
  have HA := Lib.hid ha
  have HB := Lib.hid hb
  have HE := Lib.hid he
  have HZa := Lib.hid (row_dig ha)
  have HZb := Lib.hid (row_dig hb)
  clear ha hb he
  go_enter Tryd.func15, Tryd.ntmps15
  go_wp2_with fail
  simp only [Nat.add_assoc, Nat.reduceAdd]
  refine gen_world (Q := fun w => Code.wp _ _ _ _ w) _ (fun W => Below w.heap.size w W ∧ W.heap.size = w.heap.size + 3 ∧ W.heap[w.heap.size]? = some (.cells (rowB a) 24 (0, 0)) ∧ W.heap[w.heap.size + 1]? = some (.cells (rowB b) 24 (0, 0)) ∧ W.heap[w.heap.size + 2]? = some (.cells (rowB (zs 32)) 24 (0, 0))) ?_ ?_
  · refine ⟨(((Below.refl _ _).alloc (Nat.le_refl _) _).alloc (by simp) _).alloc (by simp; omega) _, by simp, ?_, ?_, ?_⟩
    · rw [Below.heap_alloc _ _ _ (by simp; omega), Below.heap_alloc _ _ _ (by simp)]
      exact heap_alloc_new _ _
    · rw [Below.heap_alloc _ _ _ (by simp)]
      exact heap_alloc2_new _ _ _
    · have := heap_alloc_new ((w.alloc (.cells (rowB a) 24)).alloc (.cells (rowB b) 24)) (.cells (rowB (zs 32)) 24)
      simp only [World.size_alloc] at this
      exact this
  rintro w1 ⟨hb1, hs1, ra1, rb1, rr1⟩
  have r1 := run_digest w.heap.size
  have r2 := run_digest (w.heap.size + 1)
  have HB1 := Lib.hid hb1
  have HS1 := Lib.hid hs1
  have RA := Lib.hid ra1
  have RB := Lib.hid rb1
  have RR := Lib.hid rr1
  clear hb1 hs1 ra1 rb1 rr1
  go_still_tail 2, (by kernel_rfl)
  clear r1 r2
  go_wp2_with fail
  have hB : ∀ (g : Nat) (d : List Int), w1.heap[g]? = some (.cells (rowB d) 24 (0, 0)) → d.length = 32 → Byt w1 (some ⟨g, 0, none⟩) 32 d := by
    intro g d hg hd
    refine ⟨⟨by omega, by unfold maxLen; omega, fun _ => ⟨g, 0, rfl, fun i hi => ?_⟩⟩, fun h => by cases h⟩
    rw [cell_of_row _ _ _ _ _ _ hg, Nat.zero_add, rowB_get _ _ hi]
  have hP := Pcs.new w1 [.slice (some ⟨w.heap.size, 0, none⟩) 32 32, .slice (some ⟨w.heap.size + 1, 0, none⟩) 32 32] [a, b] #[.slice (some ⟨w.heap.size, 0, none⟩) 32 32, .slice (some ⟨w.heap.size + 1, 0, none⟩) 32 32] 28 (0, 0) rfl rfl (by simp) (fun i v hv => by
      rcases i with _ | _ | i
      · simp at hv
        subst hv
        exact ⟨_, 32, by rw [show ([a, b].getD 0 []).length = 32 from HA.out], hB _ _ RA.out HA.out⟩
      · simp at hv
        subst hv
        exact ⟨_, 32, by rw [show ([a, b].getD 1 []).length = 32 from HB.out], hB _ _ RB.out HB.out⟩
      · simp at hv)
  have hb2 : Below w1.heap.size w1 (w1.alloc (.cells #[.slice (some ⟨w.heap.size, 0, none⟩) 32 32, .slice (some ⟨w.heap.size + 1, 0, none⟩) 32 32] 28)).drew := ((Below.refl _ _).alloc (Nat.le_refl _) _).drew
  have hb3 := HB1.out.trans (hb2.mono HB1.out.size)
  refine (hashed_any _ 1 _ 2 2 [a, b] rfl (hP.below (below_drewN (Below.refl _ _) 1)) (HE.out.below hb3) (by simp [HA.out, HB.out])).mono ?_
  rintro e w2 ⟨rfl, hb4⟩
  have HR2 := Lib.hid ((hb4.block _ (Nat.lt_of_lt_of_le (by have := HS1.out; omega) hb2.size)).trans ((hb2.block _ (by have := HS1.out; omega)).trans RR.out))
  have HW2 := Lib.hid (hb3.trans (hb4.mono hb3.size))
  clear hB hP hb2 hb3 hb4
  rw [show (1 :: [a, b].flatten) = 1 :: (a ++ b) by simp, show sum (1 :: (a ++ b)) = nodeD a b from rfl]
  have HZ := Lib.hid (row_dig (nodeD_length a b))
  have HY := Lib.hid (show (rowB (zs 32)).size = (rowB (nodeD a b)).size by rw [← row_dig0 (nodeD_length a b)]; rfl)
  have HX := Lib.hid (rowB_one (nodeD a b))
  obtain ⟨F, hF⟩ : ∃ F, nodeD a b = F := ⟨_, rfl⟩
  rw [hF] at HZ HY HX ⊢
  have HF := Lib.hid hF
  clear hF
  go_wp2_with (refine wpList_store_row rfl 24 (.tmp 4) (.tmp 8) rfl (w.heap.size + 2) (rowB F) rfl rfl 24 _ HR2.out HZ.out HY.out HX.out ?_)
  exact bodyPost_ret (v := .agg (rowB F)) (results_cell_row Tryd.results15 _ _ (w.heap.size + 2) 24 (rowB F) (0, 0) _ rfl (setRow_heap _ _ _ _ _ _ HR2.out) Tryd.underlying24 rfl HZ.out) rfl ⟨by rw [HF.out], below_setRow HW2.out (by omega) _⟩
/-! ### the first part -/
theorem len64 (x : Int) (w : World) (h0 : 0 ≤ x) (h1 : x ≤ 255) : Calls Tryd.prog 61 #[.int .u64 x] w fun e w' => e = .returned (.int .i64 (Lib.bitLen x.toNat)) ∧ w = w' := by
  rw [← Lib.len8_of x h0 h1]
  have d1 : decide (4294967296 ≤ x) = false := by simp; omega
  have d2 : decide (65536 ≤ x) = false := by simp; omega
  have d3 : decide (256 ≤ x) = false := by simp; omega
  go_enter Tryd.func61, Tryd.ntmps61
  go_wp2
  have l := Lib.bitLen_le8' x h0 h1
  have e := Lib.len8_of x h0 h1
  have hw : wrap64 (wrap64 (Lib.len8 x)) = Lib.len8 x := by
    have h2 : wrap64 (Lib.len8 x) = Lib.len8 x := by unfold wrap64; omega
    rw [h2, h2]
  go_ret
  exact ⟨by simp [hw], rfl⟩
theorem len_any (x : Int) (w : World) (h0 : 0 ≤ x) (h1 : x ≤ 255) : Calls Tryd.prog 54 #[.int .u64 x] w fun e w' => e = .returned (.int .i64 (Lib.bitLen x.toNat)) ∧ w = w' := by
  go_enter Tryd.func54, Tryd.ntmps54
  go_wp2_with (go_at_call 61; refine (len64 x _ h0 h1).mono ?_; rintro e w' ⟨rfl, rfl⟩)
  go_ret
  exact ⟨rfl, rfl⟩
/-- the first part of n is 2^fp n -/
def fp (n : Nat) : Nat := Lib.bitLen (n - 1) - 1
theorem fp_all : ∀ m : Fin 255, 1 ≤ Lib.bitLen (m.val + 1) ∧ Lib.bitLen (m.val + 1) ≤ 8 ∧ 2 ^ (Lib.bitLen (m.val + 1) - 1) ≤ m.val + 1 ∧ m.val + 1 < 2 ^ Lib.bitLen (m.val + 1) := by decide +kernel
theorem fp_spec (n : Nat) (h1 : 2 ≤ n) (h2 : n ≤ 256) : 2 ^ fp n < n ∧ n ≤ 2 ^ (fp n + 1) ∧ fp n ≤ 7 ∧ Lib.bitLen (n - 1) = fp n + 1 := by
  obtain ⟨a, b, c, d⟩ := fp_all ⟨n - 2, by omega⟩
  simp only [show n - 2 + 1 = n - 1 by omega] at a b c d
  unfold fp
  rw [show Lib.bitLen (n - 1) - 1 + 1 = Lib.bitLen (n - 1) by omega]
  exact ⟨by omega, by omega, by omega, rfl⟩
theorem first_any (n : Nat) (w : World) (h1 : 2 ≤ n) (h2 : n ≤ 256) : Calls Tryd.prog 34 #[.int .i64 (n : Int)] w fun e w' => e = .returned (.int .i64 ((2 ^ fp n : Nat) : Int)) ∧ w = w' := by
  obtain ⟨s1, s2, s3, s4⟩ := fp_spec n h1 h2
  have hwr : IntKind.u64.wrap ((n : Int) - 1) = (n : Int) - 1 := by simp [IntKind.wrap, IntKind.bits, IntKind.signed]; omega
  have ht : ((n : Int) - 1).toNat = n - 1 := by omega
  have HB := Lib.hid (show Lib.bitLen ((n : Int) - 1).toNat = fp n + 1 by rw [ht]; exact s4)
  clear s4 ht
  obtain ⟨k, hk⟩ : ∃ k, fp n = k := ⟨_, rfl⟩
  rw [hk] at HB s3 ⊢
  clear hk s1 s2
  go_enter Tryd.func34, Tryd.ntmps34
  go_wp2_with (go_at_call 54; refine (len_any _ _ (by omega) (by omega)).mono ?_; rintro e w' ⟨rfl, rfl⟩; rw [HB.out])
  have hw : ∀ k, k ≤ 7 → wrap64 (2 ^ k) = ((2 ^ k : Nat) : Int) := by decide +kernel
  rw [hw k s3]
  go_ret
  exact ⟨rfl, rfl⟩
end Go.Proofs.YtighmhoekbnagaaDoor
