import Derived.Test.YtighmhoekbnagaaDoorKa
import Derived.StillTailTactics
import Derived.BigRegion
import Derived.BigQuiet
import Derived.Deep.DeepCutAuto
namespace Go.Proofs.YtighmhoekbnagaaDoor
open Go.ChangeShapes Go.WideShapes Go.ChangeAt Go.RowKit

/-- the bytes of pieces, one behind the other, are not too many -/
theorem take_snocL (ls : List (List Int)) (k : Nat) (h : k < ls.length) : ls.take (k + 1) = ls.take k ++ [ls.getD k []] := by
  have e : ls.getD k [] = ls[k] := by simp [h]
  rw [e, List.take_succ_eq_append_getElem h]
theorem flat_snoc (ls : List (List Int)) (k : Nat) (h : k < ls.length) : (ls.take (k + 1)).flatten = (ls.take k).flatten ++ ls.getD k [] := by
  rw [take_snocL ls k h, List.flatten_append]; simp
theorem flat_le (ls : List (List Int)) (k : Nat) : (ls.take k).flatten.length ≤ ls.flatten.length := by
  have h : ls.flatten = (ls.take k).flatten ++ (ls.drop k).flatten := by rw [← List.flatten_append, List.take_append_drop]
  rw [h, List.length_append]; omega
/-- ahead of the first piece: the answer's block, and the hash -/
structure Hs (w : World) (k : Int) (l : List Int) (W : World) : Prop where
  below : Below w.heap.size w W
  res : W.heap[w.heap.size]? = some (.cells (rowB (zs 32)) 24 (0, 0))
  hash : HashAt W (w.heap.size + 1) (k :: l)
theorem Hs.wrote {w W W' : World} {k : Int} {l b : List Int} (h : Hs w k l W) (hg : W.grownBy W' (some (w.heap.size + 1))) (hh : HashAt W' (w.heap.size + 1) (k :: (l ++ b))) : Hs w k (l ++ b) W' :=
  ⟨h.below.trans (Below.ofGrown hg h.below.size (fun j e => by cases e; omega)), (hg.block _ (Array.getElem?_eq_some_iff.1 h.res).1 (by simp)).trans h.res, hh⟩
theorem Env.hs {w W : World} {k : Int} {l : List Int} (h : Env w) (hs : Hs w k l W) : Env W := h.below hs.below
set_option maxRecDepth 100000 in
set_option maxHeartbeats 4000000 in
theorem hashed_any (w : World) (k : Int) (sp : Option Addr) (n cap : Nat) (ls : List (List Int)) (hn : ls.length = n) (hP : Pcs w sp cap ls) (he : Env w) (hs : ls.flatten.length ≤ 1000000) :
    Calls Tryd.prog 31 #[.int .u8 k, .slice sp n cap] w fun e w' => e = .returned (.agg (rowB (sum (k :: ls.flatten)))) ∧ Below w.heap.size w w' := by
  have hNm : n ≤ 9223372036854775807 := by rw [← hn]; exact hP.len
  have HP := Lib.hid hP
  have HN := Lib.hid hn
  have HE := Lib.hid he
  have h2 := he.two
  clear hP hn he
  go_enter Tryd.func31, Tryd.ntmps31
  go_wp2_with fail
  refine gen_world (Q := fun w => Calls _ _ _ w _) _ (fun W => Below w.heap.size w W ∧ W.heap[w.heap.size]? = some (.cells (rowB (zs 32)) 24 (0, 0)) ∧ W.heap.size = w.heap.size + 1) ⟨(Below.refl _ _).alloc (Nat.le_refl _) _, ?_, by simp⟩ ?_
  · rw [heap_alloc_new]; kernel_rfl
  rintro w1 ⟨hb1, hr1, hs1⟩
  refine (new_any w1 (HE.out.below hb1)).mono ?_
  rintro e w2 ⟨rfl, rfl⟩
  rw [hs1]
  go_wp2_with fail
  refine gen_world (Q := fun w => Calls _ _ _ w _) _ (fun W => Below w.heap.size w W ∧ W.heap[w.heap.size]? = some (.cells (rowB (zs 32)) 24 (0, 0)) ∧ HashAt W (w.heap.size + 1) [] ∧ Byt W (some ⟨w.heap.size + 2, 0, none⟩) 1 [k]) ⟨?_, ?_, ?_, ?_⟩ ?_
  · exact (hb1.alloc hb1.size _).alloc (by simp; omega) _
  · exact (Below.heap_alloc _ _ _ (by simp; omega)).trans ((Below.heap_alloc _ _ _ (by omega)).trans hr1)
  · have := (HashAt.new w1).later (w' := (w1.alloc (.cells newRow 94)).alloc (.cells #[.int .u8 k] 5)) ((Below.refl _ _).alloc (Nat.le_refl _) _)
    rw [hs1] at this
    exact this
  · have := Byt.new (w1.alloc (.cells newRow 94)) [k] #[.int .u8 k] 5 (0, 0) rfl (by simp)
    rw [World.size_alloc, hs1] at this
    exact this
  rintro w2 ⟨hb2, hr2, hh2, hk2⟩
  clear hb1 hr1 hs1
  refine (write_any (w.heap.size + 1) w2 [] [k] _ 1 hh2 hk2.by_ (fun c o e _ => by cases e; omega) (HE.out.below hb2) (by omega) (by simp)).mono ?_
  rintro e w3 ⟨rfl, hg3, hh3⟩
  have HW3 : Hid (Hs w k [] w3) := ⟨hb2.trans (Below.ofGrown hg3 hb2.size (fun j e => by cases e; omega)), (hg3.block _ (Array.getElem?_eq_some_iff.1 hr2).1 (by simp)).trans hr2, hh3⟩
  clear hb2 hr2 hh2 hk2 hg3 hh3
  go_wp2
  go_loopw [7, 15] (fun _ i wr => ∃ j : Nat, j ≤ n ∧ i = .int .i64 j ∧ Hs w k (ls.take j).flatten wr) (fun _ i _ => n - (intOf i).toNat)
  case atStart => exact ⟨0, by omega, rfl, HW3.out⟩
  case round =>
    obtain ⟨j, hj, rfl, hsr⟩ := hrel
    have HSr := Lib.hid hsr
    clear hsr
    by_cases hlt : j < n
    · have hdt : decide (j < n) = true := by simp; omega
      have hfl := flat_le ls j
      have hf2 := flat_le ls (j + 1)
      have hsn := flat_snoc ls j (by rw [HN.out]; exact hlt)
      rw [hsn, List.length_append] at hf2
      have HSn := Lib.hid hsn
      obtain ⟨c, o, s2, c2, rfl, hcell, hb⟩ := (HP.out.below HSr.out.below).at_ j (by rw [HN.out]; exact hlt)
      have HD : Hid (∀ c o, s2 = some ⟨c, o, none⟩ → 0 < (ls.getD j []).length → c ≠ w.heap.size + 1) := by
        obtain ⟨_, _, s2', c2', e1, e2, e3⟩ := HP.out.at_ j (by rw [HN.out]; exact hlt)
        cases e1
        have e4 := ((HSr.out.below.cell (block_lt_of_cell e2)).trans e2)
        rw [hcell] at e4
        cases e4
        rintro c' o' rfl h0
        obtain ⟨c3, o3, e5, e6⟩ := e3.by_.lies h0
        cases e5
        have := block_lt_of_cell (e6 0 h0)
        simp only at this
        omega
      clear hsn
      obtain ⟨p, hp⟩ : ∃ p, ls.getD j [] = p := ⟨_, rfl⟩
      rw [hp] at hcell hb hf2 HSn HD
      clear hp
      have HB := Lib.hid hb
      clear hb
      go_wp2_with fail
      refine (write_any (w.heap.size + 1) wr (k :: (ls.take j).flatten) p s2 c2 HSr.out.hash HB.out.by_ HD.out (HE.out.hs HSr.out) (by omega) (by simp only [List.length_cons]; omega)).mono ?_
      rintro e w4 ⟨rfl, hg4, hh4⟩
      have HW4 : Hid (Hs w k ((ls.take j).flatten ++ p) w4) := HSr.out.wrote hg4 hh4
      clear hg4 hh4 hcell
      go_wp2
      go_roundw
      case rel => exact ⟨j + 1, by omega, by go_num, by rw [HSn.out]; exact HW4.out⟩
      case measure => simp [intOf]; omega
    · obtain rfl : j = n := by omega
      have hdf : decide (j < j) = false := by simp
      have hall : (ls.take j).flatten = ls.flatten := by rw [List.take_of_length_le (by rw [HN.out]; omega)]
      rw [hall] at HSr
      clear hall
      have hlen : (k :: ls.flatten).length ≤ 1152921504606846975 := by simp only [List.length_cons]; omega
      have HLen := Lib.hid hlen
      clear hlen
      go_wp2_with fail
      refine (hash_sum (w.heap.size + 1) wr (k :: ls.flatten) HSr.out.hash (HE.out.hs HSr.out) HLen.out).mono ?_
      rintro e w5 ⟨rfl, hb5⟩
      have HZ := Lib.hid (row_sum (k :: ls.flatten))
      have HY := Lib.hid (show (rowB (zs 32)).size = (rowB (sum (k :: ls.flatten))).size by rw [← row_zero]; rfl)
      have HX := Lib.hid (rowB_one (sum (k :: ls.flatten)))
      have HQ := Lib.hid ((hb5.block _ (Array.getElem?_eq_some_iff.1 HSr.out.res).1).trans HSr.out.res)
      have HB5 := Lib.hid (HSr.out.below.trans (hb5.mono HSr.out.below.size))
      clear hb5
      obtain ⟨F, hF⟩ : ∃ F, sum (k :: ls.flatten) = F := ⟨_, rfl⟩
      rw [hF] at HZ HY HX ⊢
      have HF := Lib.hid hF
      clear hF
      go_wp2_with (refine wpList_store_row rfl 24 (.tmp 4) (.tmp 24) rfl w.heap.size (rowB F) rfl rfl 24 _ HQ.out HZ.out HY.out HX.out ?_)
      exact bodyPost_ret (v := .agg (rowB F)) (results_cell_row Tryd.results31 _ _ w.heap.size 24 (rowB F) (0, 0) _ rfl (setRow_heap _ _ _ _ _ _ HQ.out) Tryd.underlying24 rfl HZ.out) rfl ⟨by rw [HF.out], below_setRow HB5.out (Nat.le_refl _) _⟩
end Go.Proofs.YtighmhoekbnagaaDoor
