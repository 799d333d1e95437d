import Derived.Test.YtllaecliaojmjaaDoorBx
import Derived.Deep.OwnRows
namespace Go.Proofs.YtllaecliaojmjaaDoor.Bp
set_option maxRecDepth 100000
open Go.ChangeShapes Go.WideShapes Go.ChangeAt Go.RowKit Go.Proofs.YtllaecliaojmjaaDoor.Tn

/-! ### letters -/
/-- a row of numbers in a block -/
def Rw (c : Nat) (L : List Int) (W : World) : Prop := W.heap[c]? = some (.cells (L.map (Value.int .i64)).toArray 3 (0, 0))
section
variable {W W' : World} {c : Nat} {L : List Int}
theorem Rw.later (h : Rw c L W) (hb : Below W.heap.size W W') : Rw c L W' := (hb.block _ (Array.getElem?_eq_some_iff.1 h).1).trans h
theorem Rw.cell (h : Rw c L W) {k : Nat} (hk : k < L.length) : W.cell? ⟨c, k, none⟩ = some (.int .i64 (L.getD k 0)) := by
  rw [cell_of_row _ _ _ _ _ _ h]
  simp [hk]
theorem Rw.free (h : Rw c L W) (k : Nat) : W.frozen? ⟨c, k, none⟩ = false := frozen_of_row _ _ _ _ _ h
theorem Rw.store (h : Rw c L W) (k : Nat) (v : Int) : Rw c (L.set k v) (W.setCell ⟨c, k, none⟩ (.int .i64 v)) := by
  unfold Rw
  rw [heap_setCell_same _ _ _ _ _ _ h, List.setIfInBounds_toArray, List.map_set]
theorem Rw.nums (h : Rw c L W) (cap : Nat) (hc : L.length ≤ cap) (hm : cap ≤ maxLen) : Nums W (some ⟨c, 0, none⟩) cap L := by
  refine ⟨by simpa using hc, hm, fun e => by (cases e), fun _ => ⟨c, 0, rfl, fun k v hv => ?_⟩⟩
  rw [List.getElem?_map] at hv
  rcases hq : L[k]? with _ | x
  · rw [hq] at hv; cases hv
  · rw [hq] at hv
    cases hv
    obtain ⟨hk, e⟩ := List.getElem?_eq_some_iff.1 hq
    rw [Nat.zero_add, Rw.cell h hk]
    simp [hk, e]
end
theorem below_store {B : Nat} {w W : World} (h : Below B w W) {c k : Nat} {v : Value} (hc : B ≤ c) : Below B w (W.setCell ⟨c, k, none⟩ v) :=
  h.trans ⟨rfl, rfl, rfl, by simp, fun j hj => by rw [heap_setCell_other _ _ _ _ (by simp; omega)]⟩
theorem Rw.made (w : World) (N : Nat) : Rw w.heap.size (List.replicate N 0) (w.alloc (.cells (madeCells #[.int .i64 0] N) 3)) := by
  unfold Rw
  rw [heap_alloc_new]
  have e : madeCells #[.int .i64 0] N = ((List.replicate N (0 : Int)).map (Value.int .i64)).toArray := Array.ext (by simp [madeCells]) (fun i h1 h2 => by simp [madeCells, Nat.mod_one])
  rw [e]
theorem set_fill (A : List Int) (m : Nat) (v : Int) : (A ++ List.replicate (m + 1) 0).set A.length v = A ++ [v] ++ List.replicate m 0 := by
  rw [List.set_append_right _ _ (Nat.le_refl _), Nat.sub_self, List.replicate_succ, List.set_cons_zero, List.append_assoc]
  rfl
theorem firsts_length (al b : List Int) : (firsts al b).length = b.length := by simp [firsts]
theorem firsts_snoc (al b : List Int) (x : Int) : firsts al (b ++ [x]) = firsts al b ++ [(al.idxOf x : Int)] := by simp [firsts]
theorem plc_no {al : List Int} {x : Nat} (h : (x : Int) ∉ al) : plc al x = 0 := by unfold plc; rw [if_neg h]
theorem plc_yes {al : List Int} {x : Nat} (h : (x : Int) ∈ al) : plc al x = (al.idxOf (x : Int) : Int) + 1 := by unfold plc; rw [if_pos h]
/-- what letters answers -/
def LetA (w : World) (al b : List Int) (e : Ending) (w' : World) : Prop :=
  Below w.heap.size w w' ∧ ((∃ i, badAt al b = some i ∧ e = .returned (.tuple #[.slice none 0 0, .int .i64 (i : Int), .int .i64 14])) ∨
    (badAt al b = none ∧ ∃ c, w.heap.size ≤ c ∧ e = .returned (.tuple #[.slice (some ⟨c, 0, none⟩) b.length b.length, .int .i64 0, .int .i64 0]) ∧ Rw c (firsts al b) w'))
set_option maxHeartbeats 8000000 in
theorem letters_any (w : World) (g : Nat) (bp : Option Addr) (cb N : Nat) (al : List Int) (ps : List (Int × Int)) (T : List (List Int)) (b : List Int) (hC : Cd g al ps T w) (hb : Byts w bp cb b) (hN : b.length = N) (hN4 : N ≤ 4096) (hal : al.length ≤ 512) :
    Calls Tryd.prog 23 #[.pointer (some ⟨g, 0, none⟩), .slice bp N cb] w (LetA w al b) := by
  have HN := Lib.hid hN
  have HBw := Lib.hid hb
  have HAl := Lib.hid hal
  obtain ⟨m, sp, c, hcr, _⟩ := hC
  have HCr := Lib.hid hcr
  have HR0 := Lib.hid (Rw.made w N)
  have HB0 : Hid (Below w.heap.size w (w.alloc (.cells (madeCells #[.int .i64 0] N) 3))) := Lib.hid ((Below.refl _ _).alloc (Nat.le_refl _) _)
  have hmk := run_make_row' (P := Tryd.prog) 26 3 (.int .i64 0) 8 Tryd.underlying26 Tn.info3 rfl .i64 .i64 N (by omega) (by omega)
  have HN4 := Lib.hid hN4
  clear hb hN hal hcr hN4
  go_enter Tryd.func23, Tryd.ntmps23
  go_upto_region 2 with fail
  refine gen_w (Q := fun w => Code.wp _ _ _ _ w) _ (fun W => Rw w.heap.size (List.replicate N 0) W ∧ Below w.heap.size w W) ⟨HR0.out, HB0.out⟩ ?_
  clear HR0 HB0 hmk
  rintro W1 ⟨hr1, hb1⟩
  have HR1 := Lib.hid hr1
  have HB1 := Lib.hid hb1
  clear hr1 hb1
  go_wp2
  go_loopw [15] (fun iv wr => ∃ i : Nat, i ≤ N ∧ iv = .int .i64 i ∧ Rw w.heap.size (firsts al (b.take i) ++ List.replicate (N - i) 0) wr ∧ (∀ x ∈ b.take i, x ∈ al) ∧ Below w.heap.size w wr) (fun iv _ => N - (intOf iv).toNat)
  case atStart => exact ⟨0, by omega, rfl, by simpa [firsts] using HR1.out, by simp, HB1.out⟩
  case round =>
    clear HR1 HB1
    obtain ⟨i, hi, rfl, hr, hall, hbw⟩ := hrel
    have HR := Lib.hid hr
    have HAll := Lib.hid hall
    have HBr := Lib.hid hbw
    clear hr hall hbw
    have hNm : N ≤ 4096 := HN4.out
    by_cases hil : i < N
    · have hd1 : decide (i < N) = true := by simpa using hil
      have hd2 : decide ((i : Int) < (N : Int)) = true := by simp; omega
      obtain ⟨d, p, e, h8⟩ := HBw.out.at_ i (by rw [HN.out]; exact hil)
      have hrg := HBw.out.rng (b.getD i 0) (getD_mem (by rw [HN.out]; exact hil))
      obtain ⟨x, hx⟩ := Int.eq_ofNat_of_zero_le hrg.1
      rw [hx] at h8 hrg
      have hx2 : x < 256 := by omega
      have hx3 : (x : Int) < 256 := hrg.2
      have HXx := Lib.hid hx
      have h9 := (HBr.out.cell (block_lt_of_cell h8)).trans h8
      have c1 := (HCr.out.later HBr.out).c1 hx2
      clear h8 hrg hx
      subst e
      by_cases hm : (x : Int) ∈ al
      · rw [plc_yes hm] at c1
        obtain ⟨z, hz⟩ : ∃ z : Int, (al.idxOf (x : Int) : Int) + 1 = z := ⟨_, rfl⟩
        have hz0 : (z == 0) = false := by simp; omega
        have HZW : Hid (wrap64 (z - 1) = (al.idxOf (x : Int) : Int)) := Lib.hid (by
          have h2 : wrap64 (z - 1) = z - 1 := IntWalk.wrap64_in _ (by have := List.idxOf_lt_length_of_mem hm; have := HAl.out; omega)
          rw [h2]
          omega)
        rw [hz] at c1
        have HM := Lib.hid hm
        have q3 : wr.frozen? ⟨w.heap.size, i, none⟩ = false := HR.out.free i
        have q4 : wr.cell? ⟨w.heap.size, i, none⟩ = some (.int .i64 0) := by
          rw [HR.out.cell (by rw [List.length_append, firsts_length, List.length_take, HN.out, List.length_replicate]; omega), List.getD_eq_getElem?_getD, List.getElem?_append_right (by rw [firsts_length, List.length_take, HN.out]; omega)]
          rw [firsts_length, List.length_take, HN.out, Nat.min_eq_left hi, Nat.sub_self]
          have : N - i = (N - i - 1) + 1 := by omega
          rw [this, List.replicate_succ]
          rfl
        clear hm hz
        go_wp2
        go_roundw
        case rel => exact ⟨i + 1, by omega, by go_num, by
          rw [HZW.out]
          have h7 := HR.out.store i (al.idxOf (x : Int) : Int)
          have e7 : N - i = (N - (i + 1)) + 1 := by omega
          have e8 : (firsts al (b.take i)).length = i := by rw [firsts_length, List.length_take, HN.out]; omega
          rw [e7] at h7
          have h6 := set_fill (firsts al (b.take i)) (N - (i + 1)) (al.idxOf (x : Int) : Int)
          rw [e8] at h6
          rw [h6] at h7
          rw [take_at (by rw [HN.out]; exact hil), firsts_snoc, HXx.out]
          exact h7, fun y hy => by
          rw [take_at (by rw [HN.out]; exact hil), HXx.out] at hy
          rcases List.mem_append.1 hy with h1 | h1
          · exact HAll.out y h1
          · obtain rfl : y = (x : Int) := by simpa using h1
            exact HM.out, below_store HBr.out (Nat.le_refl _)⟩
        case measure => simp [intOf]; omega
      · rw [plc_no hm] at c1
        have HD : Hid (badAt al b = some i) := Lib.hid (badAt_at (by rw [HN.out]; exact hil) HAll.out (by rw [HXx.out]; exact hm))
        clear hm
        go_wp2
        go_ret3
        exact ⟨HBr.out, Or.inl ⟨i, HD.out, rfl⟩⟩
    · obtain rfl : i = N := by omega
      have hdf : decide (i < i) = false := by simp
      have hdf2 : decide ((i : Int) < (i : Int)) = false := by simp
      have e9 : b.take i = b := List.take_of_length_le (by rw [HN.out]; exact Nat.le_refl _)
      have HA : Hid (LetA w al b (.returned (.tuple #[.slice (some ⟨w.heap.size, 0, none⟩) i i, .int .i64 0, .int .i64 0])) wr) := Lib.hid ⟨HBr.out, Or.inr ⟨badAt_all (fun x hx => HAll.out x (by rw [e9]; exact hx)), w.heap.size, Nat.le_refl _, by rw [HN.out], by
        have h7 := HR.out
        rw [e9, Nat.sub_self, List.replicate_zero, List.append_nil] at h7
        exact h7⟩⟩
      clear e9 hil
      go_wp2
      go_ret3
      exact HA.out
end Go.Proofs.YtllaecliaojmjaaDoor.Bp
