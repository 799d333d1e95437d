/- Pools of rows in pages (Y): New, Open. -/
import Derived.Test.YtcfhchdkohjbfaaYe
import Derived.Laws.MakeOwn
import Derived.Carry
namespace Go.Proofs.Ytcfhchdkohjbfaa.Kv.Y
set_option maxRecDepth 100000
open Go.ChangeShapes Go.WideShapes Go.ChangeAt Go.RowKit Go.Proofs.Ytcfhchdkohjbfaa.Tn
open Go.ChangeMaps (setBlock heap_setBlock_same heap_setBlock_other)
theorem infoC : (Try.prog.info? 105).map (fun i => (i.zero, i.size, i.bytes)) = some (some (.agg #[.slice none 0 0, .int .i64 0]), 2, 32) := by kernel_rfl
def noTh : Nat → Value := fun _ => .slice none 0 0
theorem made_pages (n : Nat) : madeCells #[.slice none 0 0, .int .i64 0] (n * 2) = (pageCells noTh 0 (List.replicate n (([] : List Int), 0))).toArray := by
  apply Array.ext'
  apply List.ext_getElem?
  intro i
  by_cases hi : i < n * 2
  · have hk : i / 2 < n := by omega
    have h1 := pageCells_at noTh 0 (List.replicate n (([] : List Int), 0)) (i / 2) ([], 0) (by rw [List.getElem?_replicate, if_pos hk])
    rcases Nat.mod_two_eq_zero_or_one i with h2 | h2
    · have e : i = i / 2 * 2 := by omega
      rw [e, h1.1]
      rw [← e]
      simp [madeCells, hi, h2, noTh]
    · have e : i = i / 2 * 2 + 1 := by omega
      rw [e, h1.2]
      rw [← e]
      simp [madeCells, hi, h2]
  · rw [List.getElem?_eq_none (by simp [madeCells]; omega), List.getElem?_eq_none (by simp [pageCells_length]; omega)]
section
variable {W : World} {ops : Array Oper} {rest : List Oper} {o : Oper} {a : Act} {Q : Exit → Act → World → Prop}
theorem wpList_makePages (hgd : o.guard = none) (s x : Operand) (ho : o.op = .makeSlice 99 s x) (n : Nat) (hs : a.eval s = .int .i64 (n : Int)) (hx : a.eval x = .int .i64 (n : Int)) (hn : n ≤ 256)
    (h : wpList Try.prog ops Q rest (a.put o.dst (.slice (some ⟨W.heap.size, 0, none⟩) n n)) (W.alloc (.cells (pageCells noTh 0 (List.replicate n (([] : List Int), 0))).toArray 105))) : wpList Try.prog ops Q (o :: rest) a W := by
  obtain ⟨i0, hi, hz0, hz1, hz2⟩ := info_parts infoC
  have hrun := run_makeSlice (P := Try.prog) W 99 105 i0 _ Try.underlying99 hi hz0 .i64 .i64 (n : Int) (n : Int) (by omega) (by omega) (by rw [hz1]; omega) (by rw [hz2]; omega) (by omega)
  rw [hz1] at hrun
  have e : (Value.agg #[.slice none 0 0, .int .i64 0]).cells = #[.slice none 0 0, .int .i64 0] := rfl
  rw [e] at hrun
  simp only [Int.toNat_natCast] at hrun
  rw [made_pages] at hrun
  refine wpList_plain hgd fun K hK => ?_
  unfold Oper.wp
  simp [execOp, ho, hs, hx, hrun, Result.andThen]
  exact hK _ _ h
end
/-- a new pool lies in three new blocks -/
theorem new_at (w : World) (τ : Tags) (hf : Fits τ w) (s n : Nat) : ∃ τ' ly, PoolAt kind (((w.alloc (.cells (pageCells noTh 0 (List.replicate n (([] : List Int), 0))).toArray 105)).alloc (.map #[] 0)).alloc (.cells #[.int .i64 (s : Int), .slice (some ⟨w.heap.size, 0, none⟩) n n, .map (some (w.heap.size + 1)), .int .i64 0] 101)) τ' (w.heap.size + 2) ly s 0 (List.replicate n (([] : List Int), 0)) [] ∧
    Step (fun _ => false) τ τ' w (((w.alloc (.cells (pageCells noTh 0 (List.replicate n (([] : List Int), 0))).toArray 105)).alloc (.map #[] 0)).alloc (.cells #[.int .i64 (s : Int), .slice (some ⟨w.heap.size, 0, none⟩) n n, .map (some (w.heap.size + 1)), .int .i64 0] 101)) := by
  obtain ⟨O1, hO1⟩ : ∃ O, (Obj.cells (pageCells noTh 0 (List.replicate n (([] : List Int), 0))).toArray 105 (0, 0)) = O := ⟨_, rfl⟩
  obtain ⟨O3, hO3⟩ : ∃ O, (Obj.cells #[.int .i64 (s : Int), .slice (some ⟨w.heap.size, 0, none⟩) n n, .map (some (w.heap.size + 1)), .int .i64 0] 101 (0, 0)) = O := ⟨_, rfl⟩
  rw [hO1, hO3]
  have s1 : (w.alloc O1).heap.size = w.heap.size + 1 := by simp
  have s2 : ((w.alloc O1).alloc (.map #[] 0)).heap.size = w.heap.size + 2 := by simp
  have s3 : (((w.alloc O1).alloc (.map #[] 0)).alloc O3).heap.size = w.heap.size + 3 := by simp
  have b1 : (((w.alloc O1).alloc (.map #[] 0)).alloc O3).heap[w.heap.size]? = some O1 := by
    rw [alloc_old _ _ _ (by omega), alloc_old _ _ _ (by omega)]; exact alloc_new _ _
  have b2 : (((w.alloc O1).alloc (.map #[] 0)).alloc O3).heap[w.heap.size + 1]? = some (.map #[] 0) := by
    rw [alloc_old _ _ _ (by omega), ← s1]; exact alloc_new _ _
  have b3 : (((w.alloc O1).alloc (.map #[] 0)).alloc O3).heap[w.heap.size + 2]? = some O3 := by
    rw [← s2]; exact alloc_new _ _
  refine ⟨fun q => if q = w.heap.size then some .pages else if q = w.heap.size + 1 then some .map else if q = w.heap.size + 2 then some .pool else τ q, ⟨w.heap.size, w.heap.size + 1, noTh, fun _ => none, fun _ => 0, noTh, fun _ => none⟩, ⟨fun c t hc => ?_, ?_, ?_, ?_, ?_, ?_, ?_, fun k c hc => ?_, fun id m P hr => by simp at hr⟩, ⟨rfl, rfl, rfl, by omega, fun c hc => ?_, fun c hc _ => ?_⟩⟩
  · rw [s3]
    try dsimp only at hc
    split at hc
    · omega
    · split at hc
      · omega
      · split at hc
        · omega
        · have := hf c t hc; omega
  · rw [b3, ← hO3]; simp; rfl
  · try dsimp only
    rw [if_neg (by omega), if_neg (by omega), if_pos rfl]
  · rw [b1, ← hO1]; rfl
  · try dsimp only
    rw [if_pos rfl]
  · rw [b2]; rfl
  · try dsimp only
    rw [if_neg (by omega), if_pos rfl]
  · rw [List.getElem?_replicate] at hc
    split at hc
    · cases hc
      exact ⟨Row.nil _ _ _, fun d hd => by cases hd⟩
    · cases hc
  · try dsimp only
    rw [if_neg (by omega), if_neg (by omega), if_neg (by omega)]
  · rw [alloc_old _ _ _ (by omega), alloc_old _ _ _ (by omega), alloc_old _ _ _ hc]
set_option maxHeartbeats 1000000 in
theorem new_bad (w : World) (n s : Int) (h : ¬ (1 ≤ n ∧ n ≤ 256 ∧ 1 ≤ s ∧ s ≤ 64)) : Calls Try.prog 28 #[.int .i64 n, .int .i64 s] w fun e w' => e = .returned (.tuple #[.pointer none, .int .i64 13]) ∧ w = w' := by
  by_cases h1 : n < 1
  · have d1 : decide (n < 1) = true := by simpa using h1
    go_enter Try.func28, Try.ntmps28
    go_wp2
    go_ret2
    exact ⟨rfl, rfl⟩
  · have d1 : decide (n < 1) = false := by simpa using h1
    by_cases h2 : 256 < n
    · have d2 : decide (256 < n) = true := by simpa using h2
      go_enter Try.func28, Try.ntmps28
      go_wp2
      go_ret2
      exact ⟨rfl, rfl⟩
    · have d2 : decide (256 < n) = false := by simpa using h2
      by_cases h3 : s < 1
      · have d3 : decide (s < 1) = true := by simpa using h3
        go_enter Try.func28, Try.ntmps28
        go_wp2
        go_ret2
        exact ⟨rfl, rfl⟩
      · have d3 : decide (s < 1) = false := by simpa using h3
        have h4 : 64 < s := by omega
        have d4 : decide (64 < s) = true := by simpa using h4
        go_enter Try.func28, Try.ntmps28
        go_wp2
        go_ret2
        exact ⟨rfl, rfl⟩
set_option maxHeartbeats 1000000 in
theorem new_any (w : World) (τ : Tags) (hf : Fits τ w) (n s : Nat) (h1 : 1 ≤ n) (h2 : n ≤ 256) (h3 : 1 ≤ s) (h4 : s ≤ 64) : Calls Try.prog 28 #[.int .i64 (n : Int), .int .i64 (s : Int)] w fun e w' => ∃ g τ', e = .returned (.tuple #[.pointer (some ⟨g, 0, none⟩), .int .i64 0]) ∧ Pool kind w' τ' g ⟨s, n, []⟩ ∧ Step (fun _ => false) τ τ' w w' := by
  have HN := Lib.hid (new_at w τ hf s n)
  have HG := Lib.hid (good_new (α := Int) s n h3 h4 h1 h2)
  have d1 : decide ((n : Int) < 1) = false := by simp; omega
  have d2 : decide ((256 : Int) < (n : Int)) = false := by simp; omega
  have d3 : decide ((s : Int) < 1) = false := by simp; omega
  have d4 : decide ((64 : Int) < (s : Int)) = false := by simp; omega
  have hmk := @run_makeMap Try.prog
  clear hf
  go_enter Try.func28, Try.ntmps28
  go_wp2_with (refine wpList_makePages rfl (.tmp 21) (.tmp 21) rfl n rfl rfl h2 ?_)
  go_ret2
  obtain ⟨τ', ly, k1, k2⟩ := HN.out
  exact ⟨_, τ', rfl, ⟨ly, _, k1, HG.out⟩, k2⟩
theorem open_nil (w : World) : Calls Try.prog 29 #[.pointer none] w fun e w' => e = .returned (.tuple #[.int .i64 0, .int .i64 2]) ∧ w = w' := by
  go_enter Try.func29, Try.ntmps29
  go_wp2
  go_ret2
  exact ⟨rfl, rfl⟩
section
variable {w : World} {τ : Tags} {g : Nat}
set_option maxHeartbeats 1000000 in
/-- Open -/
theorem openD_any {D : Doc Int} (h : Pool kind w τ g D) : Calls Try.prog 29 #[.pointer (some ⟨g, 0, none⟩)] w fun e w' => e = .returned (.tuple #[.int .i64 (openD D).1.1, .int .i64 (openD D).1.2]) ∧ ∃ τ', Pool kind w' τ' g (openD D).2 ∧ Step Tag.mine τ τ' w w' := by
  obtain ⟨ly, pg, h0, hG⟩ := h
  by_cases hl : D.rows.length = 1024
  · have e1 : openD D = ((0, 16), D) := by unfold openD; rw [if_pos hl]
    rw [e1]
    have HP : Hid (Pool kind w τ g D) := Lib.hid ⟨ly, pg, h0, hG⟩
    rw [hl] at h0
    have H0 := Lib.hid h0
    clear h0 hG e1 hl
    go_enter Try.func29, Try.ntmps29
    go_wp2_with fail
    refine (open_full H0.out 0 (.slice none 0 0)).mono ?_
    rintro e w1 ⟨rfl, rfl⟩
    go_wp2
    go_ret2
    exact ⟨rfl, τ, HP.out, Step.refl _ _ _⟩
  · have e1 : openD D = (((D.rows.length : Int), 0), addRow D [] []) := by unfold openD; rw [if_neg hl]
    rw [e1]
    have hlen := hG.len
    have H0 := Lib.hid h0
    have HGd := Lib.hid hG
    have HO := Lib.hid (open_any h0 (roOf_length _).symm (by omega) 0 (.slice none 0 0) none [] (Row.nil _ _ _) (fun d hd => by cases hd) (fun k hk => by simp at hk) (by simp) (fun k c hc => Nat.le_trans (hG.count_le k c hc) (by decide)) (by have := hG.plen; have := hG.p1; omega))
    have HGo := Lib.hid (good_open hG (by omega) [] [] (RowOK.nil _ _ hG.s0 _))
    clear h0 hG e1 hl hlen
    go_enter Try.func29, Try.ntmps29
    go_wp2_with fail
    refine HO.out.mono ?_
    rintro e w1 ⟨rfl, τ', ly', k1, k2⟩
    have K1 := Lib.hid k1
    have K2 := Lib.hid k2
    clear k1 k2
    go_wp2
    go_ret2
    refine ⟨by rw [roOf_length]; rfl, τ', ⟨ly', _, ?_, HGo.out⟩, K2.out⟩
    have := K1.out
    rw [roOf_length] at this
    show PoolAt kind _ τ' g ly' D.size (D.rows ++ _).length _ (roOf (D.rows ++ _))
    rw [List.length_append, List.length_singleton, roOf_snoc]
    exact this
end
end Go.Proofs.Ytcfhchdkohjbfaa.Kv.Y
