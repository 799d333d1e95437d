import Derived.Test.YthjcjjppjjpjfaaQu
namespace Go.Proofs.Ythjcjjppjjpjfaa
open Go.ChangeShapes Go.WideShapes Go.ChangeAt Go.RowKit

section
variable {w : World} {ops : Array Oper} {rest : List Oper} {o : Oper} {a : Act} {Q : Exit → Act → World → Prop}
/-- make([]T, n) -/
theorem wpList_makeN (t e : TypeId) (by_ : Nat) (z : Value) (hu : Try.prog.underlying t = some (.slice e)) (hinf : (Try.prog.info? e).map (fun i => (i.zero, i.size, i.bytes)) = some (some z, 1, by_)) (hby : by_ ≤ 100)
    (hgd : o.guard = none) (s x : Operand) (ho : o.op = .makeSlice t s x) (c : Nat) (hs : a.eval s = .int .i64 (c : Int)) (hx : a.eval x = .int .i64 (c : Int)) (hc : c ≤ 1000000)
    (h : wpList Try.prog ops Q rest (a.put o.dst (.slice (some ⟨w.heap.size, 0, none⟩) c c)) (w.alloc (.cells (madeCells z.cells c) e))) : wpList Try.prog ops Q (o :: rest) a w := by
  obtain ⟨i0, hi, hz0, hz1, hz2⟩ := info_parts hinf
  have hb : (i0.bytes : Int) * (c : Int) ≤ 281474976710656 := by
    have h1 : i0.bytes * c ≤ 100 * 1000000 := Nat.mul_le_mul (by omega) hc
    have h2 : ((i0.bytes * c : Nat) : Int) ≤ 100000000 := by omega
    rw [Int.natCast_mul] at h2
    omega
  have hrun := run_makeSlice (P := Try.prog) w t e i0 z hu hi hz0 .i64 .i64 (c : Int) (c : Int) (by omega) (by omega) (by rw [hz1]; simp; omega) hb (by omega)
  rw [hz1] at hrun
  simp only [Int.toNat_natCast, Nat.mul_one] at hrun
  refine wpList_plain hgd fun K hK => ?_
  unfold Oper.wp
  simp [execOp, ho, hs, hx, hrun, Result.andThen]
  exact hK _ _ h
end
theorem Bytes.srcOf {w w' : World} {sp : Option Addr} {cap : Nat} {l : List Int} (h : Bytes w sp cap l) (hk : ∀ a v, w.cell? a = some v → w'.cell? a = some v) (k g off : Nat) :
    0 < ((l.take k).map (Value.int .u8)).length → (some ⟨g, off, none⟩ : Option Addr) = some ⟨g, off, none⟩ ∧ ∃ ad, sp = some ad ∧ ∀ j v, ((l.take k).map (Value.int .u8))[j]? = some v → w'.cell? (ad.add j) = some v := by
  intro hp
  simp at hp
  obtain ⟨c, o, rfl, hl⟩ := h.sl.lies (by simp; omega)
  refine ⟨rfl, _, rfl, fun j v hv => ?_⟩
  rw [add_plain]
  refine hk _ _ (hl j v ?_)
  rw [← hv]
  have hj : j < k := by
    have := (List.getElem?_eq_some_iff.1 hv).1
    simp at this
    omega
  simp [hj]
theorem splice8 (t : List Int) (h : t.length = 4) : splice ((zs 8).map (Value.int .u8)) 4 (t.map (Value.int .u8)) = ([0, 0, 0, 0] ++ t).map (Value.int .u8) := by
  have e : zs 8 = [0, 0, 0, 0, 0, 0, 0, 0] := rfl
  simp [splice, h, e]
theorem num_len (t : List Int) (h : t.length = 4) (hr : rng t) : num ([0, 0, 0, 0] ++ t) = val t := by
  have h1 := val_bound 4 t h hr
  unfold num
  rw [val_zeros]
  simp [IntKind.wrap, IntKind.bits, IntKind.signed]
  omega
theorem take_short (w : World) (sp : Option Addr) (m cap : Nat) (hm : m < 4) :
    Calls Try.prog 22 #[.slice sp m cap] w fun e w' => e = .returned (.tuple #[.slice none 0 0, .slice none 0 0, .bool false]) ∧ w = w' := by
  have hd : decide ((m : Int) < 4) = true := by simp; omega
  go_enter Try.func22, Try.ntmps22
  go_wp2
  exact bodyPost_ret (v := .tuple #[.slice none 0 0, .slice none 0 0, .bool false]) (by simp [results, Try.results22, go_sem]) rfl ⟨rfl, rfl⟩
/-- what takeOff answers -/
def Took (w : World) (sp : Option Addr) (cap : Nat) (l : List Int) (n : Nat) (e : Ending) (w' : World) : Prop :=
  (n ≤ l.length - 4 → ∃ g, w.heap.size ≤ g ∧ e = .returned (.tuple #[.slice (some ⟨g, 0, none⟩) n n, .slice (cutA (cutA sp cap 4) (cap - 4) n) (l.length - 4 - n) (cap - 4 - n), .bool true]) ∧ w'.heap[g]? = some (.cells (rowB ((l.drop 4).take n)) 5 (0, 0))) ∧
  (¬ n ≤ l.length - 4 → e = .returned (.tuple #[.slice none 0 0, .slice none 0 0, .bool false])) ∧ Below w.heap.size w w'
set_option maxRecDepth 100000 in
set_option maxHeartbeats 4000000 in
theorem take_any (w : World) (sp : Option Addr) (m cap n : Nat) (l : List Int) (hm : l.length = m) (hb : Bytes w sp cap l) (h4 : 4 ≤ m) (hn : val (l.take 4) = n) (hmx : m ≤ 100000) :
    Calls Try.prog 22 #[.slice sp m cap] w (Took w sp cap l n) := by
  have hd : decide ((m : Int) < 4) = false := by simp; omega
  have HM := Lib.hid hm
  have HB := Lib.hid hb
  have ht4 : (l.take 4).length = 4 := by simp [hm]; omega
  have hnum := num_len (l.take 4) ht4 (rng_take hb.rng 4)
  rw [hn] at hnum
  have HNum := Lib.hid hnum
  have HT4 := Lib.hid ht4
  have HN := Lib.hid hn
  have hbd := val_bound 4 (l.take 4) ht4 (rng_take hb.rng 4)
  rw [hn] at hbd
  have hn32 : n < 4294967296 := by have := hbd.2; omega
  have HR8 : Hid (rng ([0, 0, 0, 0] ++ l.take 4)) := Lib.hid (rng_append.2 ⟨by unfold rng; decide, rng_take hb.rng 4⟩)
  have hle := hb.le
  rw [hm] at hle
  have HC1 := Lib.hid (show ((l.take 4).map (Value.int .u8)).length = Nat.min m 4 by rw [List.length_map, ht4]; exact (Nat.min_eq_right (by omega)).symm)
  have HC2 := Lib.hid (show 4 + ((l.take 4).map (Value.int .u8)).length ≤ ((zs 8).map (Value.int .u8)).length by rw [List.length_map, ht4]; decide)
  have HSp := Lib.hid (splice8 (l.take 4) ht4)
  clear hm hb hnum hn ht4 hbd
  have HSrc := fun w' h => HB.out.srcOf (w' := w') h 4 w.heap.size 4
  have HSrc := Lib.hid HSrc
  obtain ⟨T, hT⟩ : ∃ T, l.take 4 = T := ⟨_, rfl⟩
  rw [hT] at HNum HT4 HN HR8 HC1 HC2 HSp HSrc
  clear hT
  have r4 := run_arr4 w.heap.size
  have HK : Hid (∀ (X : Obj) a v, w.cell? a = some v → (w.alloc X).cell? a = some v) := Lib.hid (fun X a v h => (((Below.refl w.heap.size w).alloc (Nat.le_refl _) X).cell (block_lt_of_cell h)).trans h)
  go_enter Try.func22, Try.ntmps22
  go_upto_region 5 with (refine wpList_copy_splice rfl (.tmp 10) (.tmp 11) 23 23 rfl 5 Try.underlying23 size5 _ _ 4 4 m cap rfl rfl w.heap.size 4 ((zs 8).map (Value.int .u8)) 47 (heap_alloc_new _ _) (T.map (Value.int .u8)) HC1.out (HSrc.out _ (HK.out _)) HC2.out (map_one _) w.heap.size _ (Below.refl _ _) (Nat.le_refl _) ?_; intro w1 H1 hb1)
  have HD8 := Lib.hid (show ([0, 0, 0, 0] ++ T).length = 8 by rw [List.length_append, HT4.out]; rfl)
  have hrow : w1.heap[w.heap.size]? = some (.cells (rowB ([0, 0, 0, 0] ++ T)) 47 (0, 0)) := by
    have := H1.out
    rw [HSp.out] at this
    exact this
  obtain ⟨D, hD⟩ : ∃ D, [0, 0, 0, 0] ++ T = D := ⟨_, rfl⟩
  rw [hD] at hrow HNum HR8 HD8
  have HW1 := Lib.hid ((((Below.refl w.heap.size w).alloc (Nat.le_refl _) _).trans hb1))
  have hg1 : w.heap.size < w1.heap.size := (Array.getElem?_eq_some_iff.1 hrow).1
  have HRow := Lib.hid hrow
  have HZ := Lib.hid (show (Try.prog.info? 47).map (·.size) = some (rowB D).size by rw [rowB_size, HD8.out]; exact size47)
  have HL1 := Lib.hid (show T.length = 4 from HT4.out)
  clear hD hrow H1 hb1 r4 HSp HC1 HC2 HSrc HK
  have kR : ∀ W, Below w1.heap.size w1 W → W.heap[w.heap.size]? = some (.cells (rowB D) 47 (0, 0)) := fun W hW => (hW.block _ hg1).trans HRow.out
  have KN : ∀ W, Below w1.heap.size w1 W → Calls Try.prog 24 #[.agg (rowB D)] W fun e W' => e = .returned (.int .i64 (n : Int)) ∧ Below w1.heap.size w1 W' := fun W hW => (number_any D W HD8.out HR8.out).mono (fun e W' h => ⟨by rw [h.1, HNum.out], hW.trans (h.2.mono hW.size)⟩)
  have KNh := Lib.hid KN
  have KRh := Lib.hid kR
  clear KN kR
  have HBd := Lib.hid (HB.out.cut 4 (by rw [HM.out]; exact h4))
  have KC : ∀ W, (Instr.slice 23 (.slice sp m cap) (some (.int .i64 4)) none none).run Try.prog W = .ok (.slice (cutA sp cap 4) (m - 4) (cap - 4)) W := run_cut sp m cap 4 h4
  have HLd := Lib.hid (show (l.drop 4).length = m - 4 by rw [List.length_drop, HM.out])
  have KCh := Lib.hid KC
  clear KC
  obtain ⟨S4, hS4⟩ : ∃ x, cutA sp cap 4 = x := ⟨_, rfl⟩
  obtain ⟨M4, hM4⟩ : ∃ x, m - 4 = x := ⟨_, rfl⟩
  obtain ⟨C4, hC4⟩ : ∃ x, cap - 4 = x := ⟨_, rfl⟩
  obtain ⟨L4, hL4⟩ : ∃ x, l.drop 4 = x := ⟨_, rfl⟩
  rw [hS4, hM4, hC4] at KCh
  rw [hS4, hC4, hL4] at HBd
  rw [hL4, hM4] at HLd
  have hMC : M4 ≤ C4 := by omega
  have hM4b : M4 ≤ 100000 := by omega
  have HS4 := Lib.hid hS4
  have HM4 := Lib.hid hM4
  have HC4 := Lib.hid hC4
  have HL4 := Lib.hid hL4
  clear hS4 hM4 hC4 hL4
  refine wp_region_quiet (C := fun W => Below w1.heap.size w1 W) (by kernel_rfl) (by kernel_rfl) ⟨rfl, rfl, rfl, Nat.le_refl _, fun _ _ => rfl⟩ ?_
  refine q_val (.agg (rowB D)) rfl (fun W hW => exec_load_row 47 (.tmp 5) rfl w.heap.size rfl 47 (rowB D) (0, 0) _ (KRh.out W hW) Try.underlying47 rfl HZ.out) ?_
  simp only [Act.put, List.setIfInBounds_toArray, List.set_cons_succ, List.set_cons_zero]
  refine q_call 24 #[.agg (rowB D)] (.int .i64 (n : Int)) rfl (fun _ _ => exec_call1 24 (.tmp 13) #[47] (.agg (rowB D)) rfl rfl (cf24 _ _)) (fun W hW => KNh.out W hW) ?_
  simp only [Act.put, List.setIfInBounds_toArray, List.set_cons_succ, List.set_cons_zero]
  go_big_quiet_step (fail)
  refine q_val (.slice S4 M4 C4) rfl (fun W _ => exec_cut 23 5 (.tmp 15) (some (.const (.int .i64 4))) none rfl Try.underlying23 _ (KCh.out W)) ?_
  simp only [Act.put, List.setIfInBounds_toArray, List.set_cons_succ, List.set_cons_zero]
  go_big_quiet_step (fail)
  go_big_quiet_step (fail)
  refine wpQuiet_nil ?_
  intro w2 hw2
  have HW2 := Lib.hid (HW1.out.trans (hw2.mono HW1.out.size))
  clear hw2
  by_cases hnm : n ≤ M4
  · have hd2 : decide (M4 < n) = false := by simp; omega
    have HBd2 := Lib.hid (HBd.out.below HW2.out)
    have HC1 := Lib.hid (show ((L4.take n).map (Value.int .u8)).length = Nat.min M4 n by rw [List.length_map, List.length_take, HLd.out]; exact (Nat.min_eq_left hnm).trans (Nat.min_eq_right hnm).symm)
    have HTl := Lib.hid (show (L4.take n).length = n by rw [List.length_take, HLd.out]; exact Nat.min_eq_left hnm)
    have HK : Hid (∀ (X : Obj) a v, w2.cell? a = some v → (w2.alloc X).cell? a = some v) := Lib.hid (fun X a v h => (((Below.refl w2.heap.size w2).alloc (Nat.le_refl _) X).cell (block_lt_of_cell h)).trans h)
    have HSrc := fun w' h => HBd2.out.srcOf (w' := w') h n w2.heap.size 0
    have HSrc := Lib.hid HSrc
    obtain ⟨T2, hT2⟩ : ∃ x, L4.take n = x := ⟨_, rfl⟩
    rw [hT2] at HC1 HTl HSrc
    have HT2 := Lib.hid hT2
    clear hT2
    have HC2 := Lib.hid (show 0 + (T2.map (Value.int .u8)).length ≤ (madeCells #[Value.int .u8 0] n).toList.length by rw [List.length_map, HTl.out, Array.length_toList, size_madeCells]; omega)
    go_upto_region 9 with (refine wpList_makeN 23 5 1 (.int .u8 0) Try.underlying23 info5 (by decide) rfl (.tmp 21) (.tmp 21) rfl n rfl rfl (by omega) ?_)
    go_upto_region 10 with (refine wpList_copy_splice rfl (.tmp 23) (.tmp 24) 23 23 rfl 5 Try.underlying23 size5 _ _ n n M4 C4 rfl rfl w2.heap.size 0 (madeCells #[Value.int .u8 0] n).toList 5 (heap_alloc_new _ _) (T2.map (Value.int .u8)) HC1.out (HSrc.out _ (HK.out _)) HC2.out (map_one _) w2.heap.size _ (Below.refl _ _) (Nat.le_refl _) ?_; intro w3 H3 hb3)
    have HW3 := Lib.hid (HW2.out.trans ((((Below.refl w2.heap.size w2).alloc (Nat.le_refl _) _).trans hb3).mono HW2.out.size))
    have hsp : splice (madeCells #[Value.int .u8 0] n).toList 0 (T2.map (Value.int .u8)) = T2.map (Value.int .u8) := by
      have : (madeCells #[Value.int .u8 0] n).toList.drop (0 + (T2.map (Value.int .u8)).length) = [] := by
        rw [List.drop_eq_nil_iff, Array.length_toList, size_madeCells, List.length_map, HTl.out]
        omega
      rw [splice, this]
      simp
    rw [hsp] at H3
    clear hb3 hsp HC1 HC2 HSrc HK
    have kC2 := run_cut S4 M4 C4 n hnm
    go_quiet (fail)
    go_wp2
    refine bodyPost_ret (v := .tuple #[.slice (some ⟨w2.heap.size, 0, none⟩) n n, .slice (cutA S4 C4 n) (M4 - n) (C4 - n), .bool true]) (by simp [results, Try.results22, go_sem]) rfl ⟨fun _ => ⟨w2.heap.size, HW2.out.size, ?_, ?_⟩, fun h => absurd ?_ h, below_drewN HW3.out nq⟩
    · rw [HM.out, HM4.out, HC4.out, HS4.out]
    · rw [HL4.out, HT2.out]
      exact H3.out
    · rw [HM.out, HM4.out]
      exact hnm
  · have hd2 : decide (M4 < n) = true := by simp; omega
    have HNM := Lib.hid hnm
    clear hnm
    go_wp2
    refine bodyPost_ret (v := .tuple #[.slice none 0 0, .slice none 0 0, .bool false]) (by simp [results, Try.results22, go_sem]) rfl ⟨fun h => absurd h ?_, fun _ => rfl, HW2.out⟩
    rw [HM.out, HM4.out]
    exact HNM.out
end Go.Proofs.Ythjcjjppjjpjfaa
