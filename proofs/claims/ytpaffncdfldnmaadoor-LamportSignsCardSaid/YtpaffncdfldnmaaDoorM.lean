import Derived.Test.YtpaffncdfldnmaaDoorH
import Derived.Test.YtpaffncdfldnmaaDoorL
import Derived.Deep.MidRow
namespace Go.Proofs.YtpaffncdfldnmaaDoor
open Go.ChangeShapes Go.WideShapes Go.ChangeAt Go.RowKit

/-- what stands behind the state in a hash: 64 bytes, and a number -/
def tailRow (T : List Int) (n : Nat) : Array Value := (T.map (Value.int .u8) ++ [Value.int .i64 n]).toArray
/-- a hash that has taken l -/
def HashAt (w : World) (p : Nat) (l : List Int) : Prop :=
  ∃ T : List Int, T.length = 64 ∧ T.take (l.length % 64) = rest l ∧ w.heap[p]? = some (.cells (rowSt (absorb start l).list (tailRow T l.length)) 90 (0, 0))

theorem hash_tail {w : World} {p : Nat} {s : St} {T : List Int} {n : Nat} (h : w.heap[p]? = some (.cells (rowSt s.list (tailRow T n)) 90 (0, 0))) (i : Nat) (hi : i < T.length) :
    w.cell? ⟨p, 8 + i, none⟩ = some (.int .u8 (T.getD i 0)) := by
  rw [cell_of_row _ _ _ _ _ _ h]
  have e : (rowSt s.list (tailRow T n))[8 + i]? = (tailRow T n)[i]? := by
    rw [rowSt, Array.getElem?_append_right (by show 8 ≤ 8 + i; omega)]
    congr 1
    show 8 + i - 8 = i
    omega
  rw [e]
  simp [tailRow, List.getElem?_append, hi]
theorem hash_taken {w : World} {p : Nat} {s : St} {T : List Int} {n : Nat} (hT : T.length = 64) (h : w.heap[p]? = some (.cells (rowSt s.list (tailRow T n)) 90 (0, 0))) :
    w.cell? ⟨p, 72, none⟩ = some (.int .i64 n) := by
  rw [cell_of_row _ _ _ _ _ _ h]
  have e : (rowSt s.list (tailRow T n))[72]? = (tailRow T n)[64]? := by
    rw [rowSt, Array.getElem?_append_right (by show 8 ≤ 72; omega)]
    rfl
  rw [e]
  simp [tailRow, hT]
theorem hash_range {w : World} {p : Nat} {s : St} {r : Array Value} {t : TypeId} (h : w.heap[p]? = some (.cells (rowSt s.list r) t (0, 0))) : w.rangeAt p 0 (s.list.map (Value.int .u32)) := by
  intro j v hv
  rw [cell_of_row _ _ _ _ _ _ h, Nat.zero_add]
  have hj : j < s.list.length := by
    by_cases hj : j < s.list.length
    · exact hj
    · simp [show s.list[j]? = none by simp; omega] at hv
  rw [rowSt_get _ _ _ hj, ← hv]
  simp [hj, List.getD]
theorem Lies.tail {w : World} {p : Nat} {s : St} {T : List Int} {n : Nat} (h : w.heap[p]? = some (.cells (rowSt s.list (tailRow T n)) 90 (0, 0))) (k : Nat) : Lies w p 8 (T.take k) := by
  intro i hi
  have hi' : i < k ∧ i < T.length := by simp at hi; omega
  rw [hash_tail h i hi'.2]
  simp [hi'.1]

/-- ahead of the last blocks: the answer's block, and a copy of the state -/
structure Sc (w : World) (s : St) (W : World) : Prop where
  below : Below w.heap.size w W
  res : W.heap[w.heap.size]? = some (.cells (rowB (zs 32)) 23 (0, 0))
  st : W.heap[w.heap.size + 1]? = some (.cells (rowSt s.list #[]) 48 (0, 0))
theorem Sc.made (w : World) (s : St) (X Y : Array Value) (hX : X = rowB (zs 32)) : Sc w s (((w.alloc (.cells X 23)).alloc (.cells Y 48)).setRow (w.heap.size + 1) (s.list.map (Value.int .u32)).toArray) := by
  subst hX
  refine ⟨below_setRow (((Below.refl _ _).alloc (Nat.le_refl _) _).alloc (by simp) _) (by omega) _, ?_, ?_⟩
  · rw [setRow_other _ _ _ _ (by omega)]
    exact heap_alloc2_old _ _ _
  · rw [setRow_heap _ _ _ _ _ _ (heap_alloc2_new _ _ _)]
    simp [rowSt]

theorem hash_sum_nil (w : World) (he : Env w) : Calls Tryd.prog 44 #[.pointer none] w fun e w' => e = .returned (.agg (rowB (sum []))) ∧ Below w.heap.size w w' := by
  have HE := Lib.hid he
  clear he
  have HZ := Lib.hid (row_sum [])
  have HY := Lib.hid (show (rowB (zs 32)).size = (rowB (sum [])).size by rw [← row_zero]; rfl)
  have HX := Lib.hid (rowB_one (sum []))
  go_enter Tryd.func44, Tryd.ntmps44
  go_wp2_with fail
  refine gen_world (Q := fun w => Calls _ _ _ w _) _ (fun W => Below w.heap.size w W ∧ W.heap[w.heap.size]? = some (.cells (rowB (zs 32)) 23 (0, 0))) ⟨(Below.refl _ _).alloc (Nat.le_refl _) _, ?_⟩ ?_
  · rw [heap_alloc_new]; kernel_rfl
  rintro w1 ⟨hb1, hr1⟩
  refine (sum_any w1 none 0 0 [] rfl (Bytes.nil _) (HE.out.below hb1) (by omega)).mono ?_
  rintro e w2 ⟨rfl, hb2⟩
  have HQ := Lib.hid ((hb2.block _ (Array.getElem?_eq_some_iff.1 hr1).1).trans hr1)
  have HB := Lib.hid (hb1.trans (hb2.mono hb1.size))
  clear hb1 hr1 hb2
  obtain ⟨F, hF⟩ : ∃ F, sum [] = F := ⟨_, rfl⟩
  rw [hF] at HZ HY HX ⊢
  have HF := Lib.hid hF
  clear hF
  go_wp2_with (refine wpList_store_row rfl 23 (.tmp 2) (.tmp 6) rfl w.heap.size (rowB F) rfl rfl 23 _ HQ.out HZ.out HY.out HX.out ?_)
  exact bodyPost_ret (v := .agg (rowB F)) (results_cell_row Tryd.results44 _ _ w.heap.size 23 (rowB F) (0, 0) _ rfl (setRow_heap _ _ _ _ _ _ HQ.out) Tryd.underlying23 rfl HZ.out) rfl ⟨by rw [HF.out], below_setRow HB.out (Nat.le_refl _) _⟩

set_option maxRecDepth 100000 in
set_option maxHeartbeats 2000000 in
theorem hash_sum (p : Nat) (w : World) (l : List Int) (hh : HashAt w p l) (he : Env w) (hn : l.length ≤ 1152921504606846975) :
    Calls Tryd.prog 44 #[.pointer (some ⟨p, 0, none⟩)] w fun e w' => e = .returned (.agg (rowB (sum l))) ∧ Below w.heap.size w w' := by
  obtain ⟨T, hT, hTr, hrow⟩ := hh
  have hpl : p < w.heap.size := (Array.getElem?_eq_some_iff.1 hrow).1
  have HE := Lib.hid he
  have HT := Lib.hid hT
  have HTr := Lib.hid hTr
  have HR := Lib.hid hrow
  clear he hT hTr hrow
  have HRg : Hid (∀ X : Obj, (w.alloc X).rangeAt p 0 ((absorb start l).list.map (Value.int .u32))) := fun X j v hv => by
    have h1 := hash_range HR.out j v hv
    exact (((Below.refl w.heap.size w).alloc (Nat.le_refl _) X).cell (block_lt_of_cell h1)).trans h1
  have HZ0 := Lib.hid (show (Tryd.prog.info? 48).map (·.size) = some ((absorb start l).list.map (Value.int .u32)).length from size45)
  have HZ1 := Lib.hid (show (Tryd.prog.info? 48).map (·.size) = some ((absorb start l).list.map (Value.int .u32)).toArray.size from size45)
  have HY0 := Lib.hid (show 8 = ((absorb start l).list.map (Value.int .u32)).toArray.size from rfl)
  have HX0 := Lib.hid (show ((absorb start l).list.map (Value.int .u32)).toArray.all (·.oneCell') = true by simp [Value.oneCell'])
  generalize hs : absorb start l = s at *
  have HS := Lib.hid hs
  clear hs
  go_enter Tryd.func44, Tryd.ntmps44
  go_upto_region 4 with (first
    | (refine wpList_load_mid rfl 48 (.tmp 9) rfl p 0 rfl (s.list.map (Value.int .u32)) _ (HRg.out _) Tryd.underlying48 rfl HZ0.out ?_)
    | (refine wpList_store_row rfl 48 (.tmp 3) (.tmp 10) rfl (w.heap.size + 1) (s.list.map (Value.int .u32)).toArray rfl rfl 48 _ (heap_alloc2_new _ _ _) HZ1.out HY0.out HX0.out ?_))
  simp only [Act.put]
  refine gen_world (Q := fun w => Code.wp _ _ _ _ w) _ (Sc w s) (Sc.made w s _ _ (by kernel_rfl)) ?_
  intro w1 hs1
  have hr1 := (hs1.below.block p hpl).trans HR.out
  have c1 := hash_taken HT.out hr1
  have HRr := Lib.hid hr1
  have HSc := Lib.hid hs1
  clear hr1 hs1 HRg
  obtain ⟨n, hnn⟩ : ∃ n, l.length = n := ⟨_, rfl⟩
  rw [hnn] at c1 hn HRr HTr HR
  have HN := Lib.hid hnn
  obtain ⟨k, hkk⟩ : ∃ k, n % 64 = k := ⟨_, rfl⟩
  have hk64 : k < 64 := by omega
  have hmod : (n : Int) % 64 = (k : Int) := by omega
  rw [hkk] at HTr
  have HKk := Lib.hid hkk
  clear hnn hkk
  have htm : (n : Int).tmod 64 = (k : Int) := by rw [Int.tmod_eq_emod_of_nonneg (by omega)]; exact hmod
  have hwk : IntKind.i64.wrap (k : Int) = (k : Int) := IntWalk.i64_in _ (by omega)
  have hk0 : (0 : Int) ≤ (k : Int) := by omega
  have hk1 : (k : Int) ≤ 64 := by omega
  go_still_tail 13, (by kernel_rfl)
  change wpList _ _ _ _ _ w1.drew
  have HSc2 : Hid (Sc w s w1.drew) := ⟨HSc.out.below.drew, HSc.out.res, HSc.out.st⟩
  have HR2 : Hid (w1.drew.heap[p]? = some (.cells (rowSt s.list (tailRow T n)) 90 (0, 0))) := HRr.out
  clear HSc HRr c1
  generalize w1.drew = w2 at HSc2 HR2 ⊢
  clear htm hwk hk0 hk1 hmod
  have hrl : (rest l).length = k := by rw [rest_length, HN.out]; exact HKk.out
  have HB2 : Hid (Bytes w2 (some ⟨p, 8, none⟩) 64 (rest l)) := ⟨by rw [hrl]; omega, by unfold maxLen; omega, fun _ => ⟨p, 8, rfl, by rw [← HTr.out]; exact Lies.tail HR2.out k⟩⟩
  have HK2 : Hid (Kc w2) := Fl.kc HSc2.out.below HE.out.kc
  have hw := HE.out.two
  have HRl := Lib.hid hrl
  clear hrl
  go_wp2_with fail
  refine (finish_any (w.heap.size + 1) w2 s #[] 48 (some ⟨p, 8, none⟩) k 64 (rest l) HRl.out n HB2.out (by rw [HRl.out]; exact hk64) hn HSc2.out.st HK2.out (by omega)).mono ?_
  rintro e w3 ⟨rfl, s', hu3⟩
  have hF : fin s (rest l) n = sum l := by rw [← HS.out, ← HN.out]; rfl
  rw [hF]
  clear hF
  have HZ := Lib.hid (row_sum l)
  have HY := Lib.hid (show (rowB (zs 32)).size = (rowB (sum l)).size by rw [← row_zero]; rfl)
  have HX := Lib.hid (rowB_one (sum l))
  have hq : w3.heap[w.heap.size]? = some (.cells (rowB (zs 32)) 23 (0, 0)) := by
    have h1 := (Array.getElem?_eq_some_iff.1 HSc2.out.res).1
    rw [hu3.grown.block _ h1 (by simp)]; exact HSc2.out.res
  have HQ := Lib.hid hq
  have hbl : Below w.heap.size w (w3.setRow w.heap.size (rowB (sum l))) := by
    refine below_setRow (HSc2.out.below.trans ?_) (Nat.le_refl _) _
    have g2 := hu3.grown
    refine ⟨g2.os, g2.tape, g2.output, g2.size, fun k hk => ?_⟩
    have hk1 : k < w2.heap.size := Nat.lt_of_lt_of_le hk HSc2.out.below.size
    rw [g2.block k hk1 (by simp; omega)]
  have HBL := Lib.hid hbl
  clear hq hbl hu3
  obtain ⟨F, hF⟩ : ∃ F, sum l = F := ⟨_, rfl⟩
  rw [hF] at HZ HY HX HBL ⊢
  have HF := Lib.hid hF
  clear hF
  go_wp2_with (refine wpList_store_row rfl 23 (.tmp 2) (.tmp 24) rfl w.heap.size (rowB F) rfl rfl 23 _ HQ.out HZ.out HY.out HX.out ?_)
  exact bodyPost_ret (v := .agg (rowB F)) (results_cell_row Tryd.results44 _ _ w.heap.size 23 (rowB F) (0, 0) _ rfl (setRow_heap _ _ _ _ _ _ HQ.out) Tryd.underlying23 rfl HZ.out) rfl ⟨by rw [HF.out], HBL.out⟩
end Go.Proofs.YtpaffncdfldnmaaDoor
