import Derived.Test.YthjcjjppjjpjfaaTo
import Derived.IntWalk
namespace Go.Proofs.Ythjcjjppjjpjfaa
open Go.ChangeShapes Go.WideShapes Go.ChangeAt Go.RowKit

/-- the first q numbers of bytes -/
def ints (l : List Int) (q : Nat) : List Int := (List.range q).map (fun i => num ((l.drop (8 * i)).take 8))
theorem ints_length (l : List Int) (q : Nat) : (ints l q).length = q := by simp [ints]
theorem ints_succ (l : List Int) (q : Nat) : ints l (q + 1) = ints l q ++ [num ((l.drop (8 * q)).take 8)] := by simp [ints, List.range_succ]
/-- a row of numbers -/
def rowI (l : List Int) : Array Value := (l.map (Value.int .i64)).toArray
theorem rowI_get (l : List Int) (i : Nat) (h : i < l.length) : (rowI l)[i]? = some (.int .i64 (l.getD i 0)) := by
  simp [rowI, h, List.getD]
theorem rowI_set (l : List Int) (i : Nat) (x : Int) : (rowI l).setIfInBounds i (.int .i64 x) = rowI (l.set i x) := by
  apply Array.ext'
  simp [rowI]
theorem made_nums (q : Nat) : madeCells #[Value.int .i64 0] q = rowI (List.replicate q 0) := by
  apply Array.ext
  · simp [madeCells, rowI]
  · intro i h1 h2
    simp [madeCells, rowI, Nat.mod_one]
/-- k numbers of q written -/
def part (l : List Int) (q k : Nat) : List Int := ints l k ++ List.replicate (q - k) 0
theorem part_length (l : List Int) (q k : Nat) (h : k ≤ q) : (part l q k).length = q := by simp [part, ints_length]; omega
theorem part_set (l : List Int) (q k : Nat) (h : k < q) : (part l q k).set k (num ((l.drop (8 * k)).take 8)) = part l q (k + 1) := by
  unfold part
  rw [ints_succ, show q - k = (q - (k + 1)) + 1 by omega, List.replicate_succ, List.set_append_right _ _ (by rw [ints_length]; exact Nat.le_refl _)]
  simp [ints_length]
structure Ni (w : World) (l : List Int) (q k : Nat) (wr : World) : Prop where
  below : Below w.heap.size w wr
  row : wr.heap[w.heap.size]? = some (.cells (rowI (part l q k)) 3 (0, 0))
theorem splice0 (t : List Int) (h : t.length = 8) : splice ((zs 8).map (Value.int .u8)) 0 (t.map (Value.int .u8)) = t.map (Value.int .u8) := by
  have e : zs 8 = [0, 0, 0, 0, 0, 0, 0, 0] := rfl
  simp [splice, h, e]
theorem ints_bad (w : World) (sp : Option Addr) (m cap : Nat) (hm : m % 8 ≠ 0) (hml : m ≤ 100000) :
    Calls Try.prog 18 #[.slice sp m cap] w fun e w' => e = .returned (.tuple #[.slice none 0 0, .int .i64 11]) ∧ w = w' := by
  have hd : (((m : Int) % 8) != 0) = true := by rw [bne_iff_ne]; omega
  go_enter Try.func18, Try.ntmps18
  go_wp2
  exact bodyPost_ret (v := .tuple #[.slice none 0 0, .int .i64 11]) (by simp [results, Try.results18, go_sem]) rfl ⟨rfl, rfl⟩
set_option maxRecDepth 100000 in
set_option maxHeartbeats 4000000 in
theorem ints_ok (w : World) (sp : Option Addr) (m cap q : Nat) (l : List Int) (hm : l.length = m) (hq : m = 8 * q) (hb : Bytes w sp cap l) (hml : m ≤ 100000) :
    Calls Try.prog 18 #[.slice sp m cap] w fun e w' => ∃ g, e = .returned (.tuple #[.slice (some ⟨g, 0, none⟩) q q, .int .i64 0]) ∧ Nums w' (some ⟨g, 0, none⟩) q (ints l q) ∧ Below w.heap.size w w' := by
  have hd : (((m : Int) % 8) != 0) = false := by rw [hq]; simp
  have hdv : (m : Int) / 8 = (q : Int) := by omega
  have hq8 : q ≤ 100000 := by omega
  have HM := Lib.hid hm
  have HQ := Lib.hid hq
  have HB := Lib.hid hb
  have hle := hb.le
  rw [hm] at hle
  clear hm hq hb
  go_enter Try.func18, Try.ntmps18
  go_wp2_with (refine wpList_makeN 36 3 8 (.int .i64 0) Try.underlying36 info3 (by decide) rfl (.tmp 13) (.tmp 13) rfl q rfl rfl (by omega) ?_)
  have hni : Ni w l q 0 (w.alloc (.cells (madeCells #[Value.int .i64 0] q) 3)) := ⟨(Below.refl _ _).alloc (Nat.le_refl _) _, by rw [made_nums]; exact heap_alloc_new _ _⟩
  clear hdv hd
  go_loopw [17] (fun i wr => ∃ k : Nat, k ≤ q ∧ i = .int .i64 k ∧ Ni w l q k wr) (fun i _ => q - (intOf i).toNat)
  case atStart => exact ⟨0, by omega, rfl, hni⟩
  case round =>
    clear hni
    obtain ⟨k, hk, rfl, hni⟩ := hrel
    have HNi := Lib.hid hni
    clear hni
    by_cases hlt : k < q
    · have hdt : decide (k < q) = true := by simp; omega
      have h8 : 8 * k ≤ m := by rw [HQ.out]; omega
      have h88 : 8 * k + 8 ≤ m := by rw [HQ.out]; omega
      have kC := run_cut sp m cap (8 * k) h8
      have e8 : ((8 * k : Nat) : Int) = 8 * (k : Int) := by omega
      rw [e8] at kC
      clear e8
      have HBk := Lib.hid ((HB.out.below HNi.out.below).cut (8 * k) (by rw [HM.out]; exact h8))
      have HTl := Lib.hid (show ((l.drop (8 * k)).take 8).length = 8 by rw [List.length_take, List.length_drop, HM.out]; omega)
      have HTr : Hid (rng ((l.drop (8 * k)).take 8)) := Lib.hid (rng_take (rng_drop HB.out.rng _) 8)
      have HC1 := Lib.hid (show (((l.drop (8 * k)).take 8).map (Value.int .u8)).length = Nat.min (m - 8 * k) 8 by rw [List.length_map, HTl.out]; exact (Nat.min_eq_right (by omega)).symm)
      have HC2 := Lib.hid (show 0 + (((l.drop (8 * k)).take 8).map (Value.int .u8)).length ≤ ((zs 8).map (Value.int .u8)).length by rw [List.length_map, HTl.out]; decide)
      have HSp := Lib.hid (splice0 _ HTl.out)
      have HSrc := fun w' h => HBk.out.srcOf (w' := w') h 8 wr.heap.size 0
      have HSrc := Lib.hid HSrc
      have HPs := Lib.hid (part_set l q k hlt)
      have HPl := Lib.hid (part_length l q k hk)
      obtain ⟨T, hT⟩ : ∃ T, (l.drop (8 * k)).take 8 = T := ⟨_, rfl⟩
      rw [hT] at HTl HTr HC1 HC2 HSp HSrc HPs
      clear hT
      have hw8 : IntKind.i64.wrap (8 * (k : Int)) = 8 * (k : Int) := IntWalk.i64_in _ (by omega)
      have r0 := run_arr0 wr.heap.size
      go_upto_region 8 with fail
      refine gen_world (Q := fun w => Code.wp _ _ _ _ w) _ (fun W => Below wr.heap.size wr W ∧ W.heap[wr.heap.size]? = some (.cells ((zs 8).map (Value.int .u8)).toArray 47 (0, 0))) ⟨(Below.refl _ _).alloc (Nat.le_refl _) _, heap_alloc_new _ _⟩ ?_
      rintro W ⟨hbW, hrW⟩
      have HBW : Hid (Below wr.heap.size wr W.drew) := Lib.hid hbW.drew
      have HRW : Hid (W.drew.heap[wr.heap.size]? = some (.cells ((zs 8).map (Value.int .u8)).toArray 47 (0, 0))) := Lib.hid hrW
      have HKc : Hid (∀ a v, wr.cell? a = some v → W.drew.cell? a = some v) := Lib.hid (fun a v h => (hbW.drew.cell (block_lt_of_cell h)).trans h)
      clear hbW hrW
      go_still_tail 5, (by kernel_rfl)
      change wpList _ _ _ _ _ W.drew
      generalize W.drew = w1 at HBW HRW HKc ⊢
      go_upto_region 9 with (refine wpList_copy_splice rfl (.tmp 20) (.tmp 24) 23 23 rfl 5 Try.underlying23 size5 _ _ 8 8 (m - 8 * k) (cap - 8 * k) rfl rfl wr.heap.size 0 ((zs 8).map (Value.int .u8)) 47 HRW.out (T.map (Value.int .u8)) HC1.out (HSrc.out _ HKc.out) HC2.out (map_one _) wr.heap.size _ HBW.out (Nat.le_refl _) ?_; intro w2 H2 hb2)
      have hrow2 : w2.heap[wr.heap.size]? = some (.cells (rowB T) 47 (0, 0)) := by
        have := H2.out
        rw [HSp.out] at this
        exact this
      have HRow2 := Lib.hid hrow2
      have HW2 := Lib.hid hb2
      have HZ := Lib.hid (show (Try.prog.info? 47).map (·.size) = some (rowB T).size by rw [rowB_size, HTl.out]; exact size47)
      have hgs : w.heap.size < wr.heap.size := (Array.getElem?_eq_some_iff.1 HNi.out.row).1
      clear hrow2 hb2 H2 HRW HBW HKc HC1 HC2 HSrc HSp kC r0 hw8
      go_wp2_with (refine wpList_load_row rfl 47 (.tmp 6) rfl wr.heap.size rfl 47 (rowB T) (0, 0) _ HRow2.out Try.underlying47 rfl HZ.out ?_)
      refine (number_any T w2 HTl.out HTr.out).mono ?_
      rintro e w3 ⟨rfl, hb3⟩
      have hrow3 : w3.heap[w.heap.size]? = some (.cells (rowI (part l q k)) 3 (0, 0)) := by
        rw [hb3.block _ (Nat.lt_of_lt_of_le hgs HW2.out.size), HW2.out.block _ hgs]
        exact HNi.out.row
      have HRow3 := Lib.hid hrow3
      have HW3 := Lib.hid (HNi.out.below.trans ((HW2.out.trans (hb3.mono HW2.out.size)).mono HNi.out.below.size))
      have c1 : w3.cell? ⟨w.heap.size, k, none⟩ = some (.int .i64 ((part l q k).getD k 0)) := by rw [cell_of_row _ _ _ _ _ _ hrow3, rowI_get _ _ (by rw [HPl.out]; exact hlt)]
      have f1 : w3.frozen? ⟨w.heap.size, k, none⟩ = false := frozen_of_row _ _ _ _ _ hrow3
      obtain ⟨x, hx⟩ : ∃ x, num T = x := ⟨_, rfl⟩
      rw [hx] at HPs ⊢
      clear hrow3 hb3 hx
      go_wp2
      clear c1 f1
      go_roundw
      case rel => exact ⟨k + 1, by omega, by go_num, HW3.out.setCell (Nat.le_refl _) _, by rw [heap_setCell_same _ _ _ _ _ _ HRow3.out, rowI_set, HPs.out]⟩
      case measure => simp [intOf]; omega
    · obtain rfl : k = q := by omega
      have hdf : decide (k < k) = false := by simp
      go_wp2
      refine bodyPost_ret (v := .tuple #[.slice (some ⟨w.heap.size, 0, none⟩) k k, .int .i64 0]) (by simp [results, Try.results18, go_sem]) rfl ⟨w.heap.size, rfl, ?_, HNi.out.below⟩
      refine ⟨by simp [ints_length], by unfold maxLen; omega, (fun h => by cases h), fun _ => ⟨_, _, rfl, fun i v hv => ?_⟩⟩
      rw [cell_of_row _ _ _ _ _ _ HNi.out.row, ← hv]
      simp [rowI, part]
end Go.Proofs.Ythjcjjppjjpjfaa
