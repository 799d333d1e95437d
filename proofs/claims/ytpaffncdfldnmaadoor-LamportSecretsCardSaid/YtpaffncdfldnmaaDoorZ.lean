import Derived.Test.YtpaffncdfldnmaaDoorQ
namespace Go.Proofs.YtpaffncdfldnmaaDoor
open Go.ChangeShapes Go.WideShapes Go.ChangeAt Go.RowKit

theorem grown_setCell {w : World} {p i : Nat} {v : Value} : w.grownBy (w.setCell ⟨p, i, none⟩ v) (some p) :=
  ⟨rfl, rfl, rfl, by simp [World.setCell], fun k _ hne => heap_setCell_other _ _ _ _ (by simpa using hne)⟩
theorem grown_setRow {w : World} {p : Nat} {cs : Array Value} : w.grownBy (w.setRow p cs) (some p) :=
  ⟨rfl, rfl, rfl, by simp, fun k _ hne => setRow_other w p k cs (by simpa using hne)⟩
theorem grown_refl (w : World) (r : Option Nat) : w.grownBy w r := ⟨rfl, rfl, rfl, Nat.le_refl _, fun _ _ _ => rfl⟩
theorem grown_trans {a b c : World} {r : Option Nat} (h : a.grownBy b r) (k : b.grownBy c r) : a.grownBy c r :=
  ⟨k.os.trans h.os, k.tape.trans h.tape, k.output.trans h.output, Nat.le_trans h.size k.size, fun i hi hne => (k.block i (Nat.lt_of_lt_of_le hi h.size) hne).trans (h.block i hi hne)⟩

/-- how a hash lies -/
structure Lie (w : World) (p : Nat) (s : St) (T : List Int) (n : Nat) : Prop where
  len : T.length = 64
  row : w.heap[p]? = some (.cells (rowSt s.list (tailRow T n)) 90 (0, 0))
theorem Lie.put {w : World} {p : Nat} {s : St} {T : List Int} {n : Nat} (h : Lie w p s T n) (n' : Nat) : Lie (w.setCell ⟨p, 72, none⟩ (.int .i64 n')) p s T n' :=
  ⟨h.len, by rw [heap_setCell_same _ _ _ _ _ _ h.row, row_taken s T h.len]⟩

theorem row_copy' (s : St) (T b : List Int) (k n m : Nat) (hm : b.length = m) (hT : T.length = 64) (hk : k + m ≤ 64) :
    ((rowSt s.list (tailRow T n)).toList.take (8 + k) ++ (b.map (Value.int .u8) ++ (rowSt s.list (tailRow T n)).toList.drop (8 + k + m))).toArray = rowSt s.list (tailRow (T.take k ++ (b ++ T.drop (k + m))) n) := by
  subst hm
  have h := row_copy s T b k n hT hk
  rw [List.length_map] at h
  exact h
theorem row_size (s : St) (T : List Int) (n : Nat) : (rowSt s.list (tailRow T n)).size = 9 + T.length := by
  have h : (s.list.map (Value.int .u32)).length = 8 := rfl
  simp only [rowSt, tailRow, Array.size_append, List.size_toArray, h, List.length_append, List.length_map, List.length_singleton]
  omega
theorem src_of {w : World} {c o : Nat} {l : List Int} (h : Lies w c o l) : ∀ j v, (l.map (Value.int .u8))[j]? = some v → w.cell? ((⟨c, o, none⟩ : Addr).add j) = some v := by
  intro j v hv
  have hj : j < l.length := by
    by_cases hj : j < l.length
    · exact hj
    · simp [show l[j]? = none by simp; omega] at hv
  have hadd : (⟨c, o, none⟩ : Addr).add j = ⟨c, o + j, none⟩ := by unfold Addr.add; split <;> simp_all
  rw [hadd, h j hj, ← hv]
  simp [hj]

/-- what Write leaves -/
def Wrote (w : World) (p : Nat) (l : List Int) (e : Ending) (w' : World) : Prop := e = .returned (.tuple #[]) ∧ w.grownBy w' (some p) ∧ HashAt w' p l

set_option maxRecDepth 100000 in
set_option maxHeartbeats 2000000 in
theorem write_few (p c o cap m n k : Nat) (w : World) (l b T : List Int) (s : St) (hl : Lie w p s T n) (hn : l.length = n) (hk : n % 64 = k) (hm : b.length = m) (hm0 : 0 < m) (hb : Lies w c o b) (hc : c ≠ p)
    (hsz : n + m ≤ 1152921504606846975) (hfew : k + m < 64) (hs : absorb start l = s) (hT : T.take k = rest l) :
    Calls Tryd.prog 43 #[.pointer (some ⟨p, 0, none⟩), .slice (some ⟨c, o, none⟩) m cap] w (Wrote w p (l ++ b)) := by
  have c1 := hash_taken hl.len hl.row
  have f1 : w.frozen? ⟨p, 72, none⟩ = false := frozen_of_row _ _ _ _ _ hl.row
  have hmod : (n : Int) % 64 = (k : Int) := by omega
  have HL := Lib.hid (hl.put (n + m))
  have hlT := Lib.hid hl.len
  have hd1 : decide ((k : Int) + (m : Int) < 64) = true := by simp; omega
  have HC1 := Lib.hid (show (b.map (Value.int .u8)).length = Nat.min m (64 - k) by rw [List.length_map, hm]; exact (Nat.min_eq_left (by omega)).symm)
  have HS := Lib.hid hs
  have HT := Lib.hid hT
  have HN := Lib.hid hn
  have HKk := Lib.hid hk
  have HM := Lib.hid hm
  have HB : Hid (Lies w c o b) := hb
  have hk64 : k < 64 := by omega
  have hcl : c < w.heap.size := block_lt_of_cell (hb 0 (by omega))
  clear hl hs hT hn hk hm hb
  go_enter Tryd.func43, Tryd.ntmps43
  go_upto_region 3 with fail
  rw [hmod, show ((n : Int) + (m : Int)) = ((n + m : Nat) : Int) from by omega]
  refine gen_world (Q := fun w => Code.wp _ _ _ _ w) _ (fun W => w.grownBy W (some p) ∧ Lie W p s T (n + m)) ⟨grown_setCell, HL.out⟩ ?_
  rintro w1 ⟨hg1, hl1⟩
  clear c1 f1 HL
  have HG1 := Lib.hid hg1
  have HL1 := Lib.hid hl1
  have HB1 : Hid (Lies w1 c o b) := fun i hi => hg1.cell (HB.out i hi) (by simpa using hc)
  clear hg1 hl1
  have hsl := run_tail p k hk64
  clear hmod
  have HC2 := Lib.hid (src_of HB1.out)
  have HC3 := Lib.hid (show 8 + k + (b.map (Value.int .u8)).length ≤ (rowSt s.list (tailRow T (n + m))).size by rw [row_size, List.length_map, hlT.out, HM.out]; omega)
  go_upto_region 4 with (refine wpList_copy_own rfl (.tmp 27) (.tmp 28) 38 38 rfl 5 Tryd.underlying38 size5 p (8 + k) (64 - k) (64 - k) ⟨c, o, none⟩ m cap rfl rfl _ 90 HL1.out.row (b.map (Value.int .u8)) HC1.out HC2.out HC3.out (map_one b) ?_)
  rw [HM.out]
  refine gen_world (Q := fun w => Code.wp _ _ _ _ w) _ (fun W => w.grownBy W (some p) ∧ Lie W p s (T.take k ++ (b ++ T.drop (k + m))) (n + m)) ⟨grown_trans HG1.out grown_setRow, ?_⟩ ?_
  · refine ⟨?_, ?_⟩
    · simp [hlT.out, HM.out]; omega
    · rw [setRow_heap _ _ _ _ _ _ HL1.out.row, row_copy' s T b k (n + m) m HM.out hlT.out (by omega)]
  rintro w2 ⟨hg2, hl2⟩
  have HG2 := Lib.hid hg2
  have HL2 := Lib.hid hl2
  clear hg2 hl2 hsl
  go_wp2
  refine bodyPost_ret (v := .tuple #[]) (by simp [results, Tryd.results43, go_sem]) rfl ⟨rfl, HG2.out, _, HL2.out.len, ?_, ?_⟩
  · have h := append_few start l b (by rw [HN.out, HKk.out, HM.out]; exact hfew)
    rw [h.2, ← HT.out, List.length_append, HN.out, HM.out, show (n + m) % 64 = k + m from by have := HKk.out; omega, ← List.append_assoc, List.take_append_of_le_length (by simp [HM.out, hlT.out]; omega), List.take_of_length_le (by simp [HM.out, hlT.out]; omega)]
  · have h := append_few start l b (by rw [HN.out, HKk.out, HM.out]; exact hfew)
    rw [h.1, HS.out, List.length_append, HN.out, HM.out]
    exact HL2.out.row
end Go.Proofs.YtpaffncdfldnmaaDoor
