import Derived.Test.YtpaffncdfldnmaaDoorZ
namespace Go.Proofs.YtpaffncdfldnmaaDoor
open Go.ChangeShapes Go.WideShapes Go.ChangeAt Go.RowKit

theorem absorb_block (s : St) (T : List Int) (hT : T.length = 64) : absorb s T = s.turn T := by
  rw [absorb_more s T (by omega), absorb_few _ _ (by simp; omega), List.take_of_length_le (by omega)]

set_option maxRecDepth 100000 in
set_option maxHeartbeats 2000000 in
theorem write_more (p c o o2 cap m n k j : Nat) (w : World) (l b T : List Int) (s : St) (hl : Lie w p s T n) (hn : l.length = n) (hk : n % 64 = k) (hm : b.length = m) (hj : k + j = 64) (hjm : j ≤ m) (hb : Lies w c o b) (hc : c ≠ p)
    (hcap : m ≤ cap) (hmax : cap ≤ maxLen) (hsz : n + m ≤ 1152921504606846975) (hs : absorb start l = s) (hT : T.take k = rest l) (he : Env w) (hp1 : p ≠ 1)
    (hsl2 : ∀ w, (Instr.slice 38 (.slice (some ⟨c, o, none⟩) m cap) (some (.int .i64 (j : Int))) none none).run Tryd.prog w = .ok (.slice (some ⟨c, o2, none⟩) (m - j) (cap - j)) w) (hb2 : Lies w c o2 (b.drop j)) :
    Calls Tryd.prog 43 #[.pointer (some ⟨p, 0, none⟩), .slice (some ⟨c, o, none⟩) m cap] w (Wrote w p (l ++ b)) := by
  have c1 := hash_taken hl.len hl.row
  have f1 : w.frozen? ⟨p, 72, none⟩ = false := frozen_of_row _ _ _ _ _ hl.row
  have hmod : (n : Int) % 64 = (k : Int) := by omega
  have HL := Lib.hid (hl.put (n + m))
  have hlT := Lib.hid hl.len
  have hd1 : decide ((k : Int) + (j : Int) < 64) = false := by simp; omega
  have hjl : (b.take j).length = j := by simp; omega
  have hbw := hb.take j
  obtain ⟨bj, hbj⟩ : ∃ x, b.take j = x := ⟨_, rfl⟩
  rw [hbj] at hjl hbw
  have HBJ := Lib.hid hbj
  clear hbj
  have HC1 := Lib.hid (show (bj.map (Value.int .u8)).length = Nat.min m (64 - k) by rw [List.length_map, hjl]; exact (show j = 64 - k by omega).trans (Nat.min_eq_right (show 64 - k ≤ m by omega)).symm)
  have HS := Lib.hid hs
  have HT := Lib.hid hT
  have HN := Lib.hid hn
  have HKk := Lib.hid hk
  have HM := Lib.hid hm
  have HJ := Lib.hid hjl
  have HE := Lib.hid he
  have HSL2 := Lib.hid hsl2
  have HB : Hid (Lies w c o bj) := hbw
  have HB2 : Hid (Lies w c o2 (b.drop j)) := hb2
  have hk64 : k < 64 := by omega
  have hcl : c < w.heap.size := block_lt_of_cell (hb 0 (by omega))
  clear hl hs hT hn hk hm hb hjl he hsl2 hb2 hbw
  go_enter Tryd.func43, Tryd.ntmps43
  go_upto_region 3 with fail
  rw [hmod, show ((n : Int) + (m : Int)) = ((n + m : Nat) : Int) from by omega]
  refine gen_world (Q := fun w => Code.wp _ _ _ _ w) _ (fun W => w.grownBy W (some p) ∧ Lie W p s T (n + m)) ⟨grown_setCell, HL.out⟩ ?_
  rintro w1 ⟨hg1, hl1⟩
  clear c1 f1 HL
  have HG1 := Lib.hid hg1
  have HL1 := Lib.hid hl1
  have HB1 : Hid (Lies w1 c o bj) := fun i hi => hg1.cell (HB.out i hi) (by simpa using hc)
  clear hg1 hl1
  have hsl := run_tail p k hk64
  clear hmod
  have HC2 := Lib.hid (src_of HB1.out)
  have HC3 := Lib.hid (show 8 + k + (bj.map (Value.int .u8)).length ≤ (rowSt s.list (tailRow T (n + m))).size by rw [row_size, List.length_map, hlT.out, HJ.out]; omega)
  go_upto_region 4 with (refine wpList_copy_own rfl (.tmp 27) (.tmp 28) 38 38 rfl 5 Tryd.underlying38 size5 p (8 + k) (64 - k) (64 - k) ⟨c, o, none⟩ m cap rfl rfl _ 90 HL1.out.row (bj.map (Value.int .u8)) HC1.out HC2.out HC3.out (map_one _) ?_)
  rw [HJ.out]
  refine gen_world (Q := fun w => Code.wp _ _ _ _ w) _ (fun W => w.grownBy W (some p) ∧ Lie W p s (T.take k ++ bj) (n + m)) ⟨grown_trans HG1.out grown_setRow, ?_⟩ ?_
  · refine ⟨?_, ?_⟩
    · simp [hlT.out, HJ.out]; omega
    · rw [setRow_heap _ _ _ _ _ _ HL1.out.row, row_copy' s T bj k (n + m) j HJ.out hlT.out (by omega), List.drop_of_length_le (by rw [hlT.out]; omega), List.append_nil]
  rintro w2 ⟨hg2, hl2⟩
  have HG2 := Lib.hid hg2
  have HE2 : Hid (Kc w2) := fun i hi => hg2.cell (HE.out.kc i hi) (by simp only [ne_eq, Option.some.injEq]; omega)
  have HB3 : Hid (Lies w2 c o2 (b.drop j)) := fun i hi => hg2.cell (HB2.out i hi) (by simpa using hc)
  rw [HT.out] at hl2
  obtain ⟨T2, hT2⟩ : ∃ T2, rest l ++ bj = T2 := ⟨_, rfl⟩
  rw [hT2] at hl2
  have HT2 := Lib.hid hT2
  have HL2 := Lib.hid hl2
  clear hg2 hl2 hsl hT2 HC1 HC2 HC3 HB HB1 HB2
  go_upto_region 5 with fail
  go_still_tail 7, (by kernel_rfl)
  change wpList _ _ _ _ _ w2.drew
  have HG3 : Hid (w.grownBy w2.drew (some p)) := ⟨HG2.out.os, HG2.out.tape, HG2.out.output, HG2.out.size, HG2.out.block⟩
  have HL3 : Hid (Lie w2.drew p s T2 (n + m)) := ⟨HL2.out.len, HL2.out.row⟩
  have HE3 : Hid (Kc w2.drew) := HE2.out
  have HB4 : Hid (Lies w2.drew c o2 (b.drop j)) := HB3.out
  clear HG2 HL2 HE2 HB3
  generalize w2.drew = w3 at HG3 HL3 HE3 HB4 ⊢
  go_wp2_with fail
  refine (take_any p w3 s (tailRow T2 (n + m)) 90 (some ⟨p, 8, none⟩) 64 64 T2 HL3.out.len ⟨by rw [HL3.out.len]; omega, by unfold maxLen; omega, fun _ => ⟨p, 8, rfl, by have h := Lies.tail HL3.out.row 64; rw [List.take_of_length_le (by rw [HL3.out.len]; omega)] at h; exact h⟩⟩ (fun c' o' h _ => by cases h; exact Or.inr (Nat.le_refl _)) HL3.out.row HE3.out hp1).mono ?_
  rintro e w4 ⟨sp', m', cap', rfl, _, _, hu⟩
  have HG4 := Lib.hid (grown_trans HG3.out hu.grown)
  have HL4 : Hid (Lie w4 p (absorb s T2) T2 (n + m)) := ⟨HL3.out.len, hu.row⟩
  have HE4 : Hid (Kc w4) := hu.kc hp1 HE3.out
  have HB5 : Hid (Lies w4 c o2 (b.drop j)) := hu.lies HL3.out.row (Or.inl hc) HB4.out
  clear hu HG3 HL3 HE3 HB4
  have hsl2 := HSL2.out
  clear HSL2
  go_upto_region 6 with fail
  go_still_tail 6, (by kernel_rfl)
  change wpList _ _ _ _ _ w4.drew
  have HG5 : Hid (w.grownBy w4.drew (some p)) := ⟨HG4.out.os, HG4.out.tape, HG4.out.output, HG4.out.size, HG4.out.block⟩
  have HL5 : Hid (Lie w4.drew p (absorb s T2) T2 (n + m)) := ⟨HL4.out.len, HL4.out.row⟩
  have HE5 : Hid (Kc w4.drew) := HE4.out
  have HB6 : Hid (Lies w4.drew c o2 (b.drop j)) := HB5.out
  clear HG4 HL4 HE4 HB5 hsl2
  generalize w4.drew = w5 at HG5 HL5 HE5 HB6 ⊢
  have HDl := Lib.hid (show (b.drop j).length = m - j by rw [List.length_drop, HM.out])
  go_wp2_with fail
  refine (take_any p w5 (absorb s T2) (tailRow T2 (n + m)) 90 (some ⟨c, o2, none⟩) (m - j) (cap - j) (b.drop j) HDl.out ⟨by rw [HDl.out]; omega, by omega, fun _ => ⟨c, o2, rfl, HB6.out⟩⟩ (fun c' o' h _ => by cases h; exact Or.inl hc) HL5.out.row HE5.out hp1).mono ?_
  rintro e w6 ⟨sp6, m6, cap6, rfl, hm6, hb6, hu⟩
  have HG6 := Lib.hid (grown_trans HG5.out hu.grown)
  have HL6 : Hid (Lie w6 p (absorb (absorb s T2) (b.drop j)) T2 (n + m)) := ⟨HL5.out.len, hu.row⟩
  have HM6 := Lib.hid hm6
  have HB7 := Lib.hid hb6
  have h6 : m6 < 64 := by rw [hm6, rest_length]; omega
  clear hu HG5 HL5 HE5 HB6 hm6 hb6
  obtain ⟨s6, hs6⟩ : ∃ x, absorb (absorb s T2) (b.drop j) = x := ⟨_, rfl⟩
  rw [hs6] at HL6
  have HS6 := Lib.hid hs6
  obtain ⟨b6, hb6⟩ : ∃ x, rest (b.drop j) = x := ⟨_, rfl⟩
  rw [hb6] at HM6 HB7
  have HB6 := Lib.hid hb6
  clear hs6 hb6
  go_upto_region 7 with fail
  have HRl : Hid (rest (l ++ b) = b6 ∧ absorb start (l ++ b) = s6 ∧ (l ++ b).length % 64 = m6 ∧ (l ++ b).length = n + m) := by
    have hj' : 64 - l.length % 64 = j := by rw [HN.out, HKk.out]; omega
    have h := append_more start l b (by rw [HN.out, HKk.out, HM.out]; omega)
    rw [hj', HBJ.out, HT2.out, HS.out] at h
    have e1 : rest (l ++ b) = b6 := h.2.trans HB6.out
    refine ⟨e1, ?_, ?_, by rw [List.length_append, HN.out, HM.out]⟩
    · rw [h.1, ← HS6.out, absorb_block s T2 HL6.out.len]
    · rw [← rest_length, e1, HM6.out]
  by_cases h0 : m6 = 0
  · have hn0 := Lib.hid (show Nat.min m6 64 = 0 by rw [h0]; rfl)
    have H0 := Lib.hid h0
    clear h0
    go_wp2_with (refine wpList_copy_nothing rfl (.tmp 52) (.tmp 53) 38 38 rfl 5 Tryd.underlying38 size5 _ _ 64 64 m6 cap6 rfl rfl hn0.out ?_)
    go_end0
    obtain ⟨e1, e2, e3, e4⟩ := HRl.out
    refine ⟨rfl, HG6.out, T2, HL6.out.len, ?_, ?_⟩
    · rw [e1, e3, H0.out]
      have h := HM6.out
      rw [H0.out] at h
      rw [List.eq_nil_of_length_eq_zero h.symm]
      rfl
    · rw [e2, e4]; exact HL6.out.row
  · obtain ⟨c6, o6, rfl, hl6⟩ := HB7.out.lies (by rw [← HM6.out]; omega)
    have HC1 := Lib.hid (show (b6.map (Value.int .u8)).length = Nat.min m6 64 by rw [List.length_map, ← HM6.out]; exact (Nat.min_eq_left (by omega)).symm)
    have HC2 := Lib.hid (src_of hl6)
    have HC3 := Lib.hid (show 8 + (b6.map (Value.int .u8)).length ≤ (rowSt s6.list (tailRow T2 (n + m))).size by rw [row_size, List.length_map, HL6.out.len, ← HM6.out]; omega)
    clear hl6
    go_wp2_with (refine wpList_copy_own rfl (.tmp 52) (.tmp 53) 38 38 rfl 5 Tryd.underlying38 size5 p 8 64 64 ⟨c6, o6, none⟩ m6 cap6 rfl rfl _ 90 HL6.out.row (b6.map (Value.int .u8)) HC1.out HC2.out HC3.out (map_one _) ?_)
    go_end0
    obtain ⟨e1, e2, e3, e4⟩ := HRl.out
    have hr := row_copy' s6 T2 b6 0 (n + m) m6 HM6.out.symm HL6.out.len (by omega)
    refine ⟨rfl, grown_trans HG6.out grown_setRow, T2.take 0 ++ (b6 ++ T2.drop (0 + m6)), ?_, ?_, ?_⟩
    · simp [HL6.out.len, ← HM6.out]; omega
    · rw [e1, e3, List.take_zero, List.nil_append, List.take_append_of_le_length (by rw [← HM6.out]; omega), List.take_of_length_le (by rw [← HM6.out]; omega)]
    · rw [e2, e4, setRow_heap _ _ _ _ _ _ HL6.out.row, ← hr, ← HM6.out]

set_option maxRecDepth 100000 in
set_option maxHeartbeats 2000000 in
theorem write_none (p cap n k : Nat) (sp : Option Addr) (w : World) (l T : List Int) (s : St) (hl : Lie w p s T n) (hn : l.length = n) (hk : n % 64 = k) (hsz : n ≤ 1152921504606846975) (hs : absorb start l = s) (hT : T.take k = rest l) :
    Calls Tryd.prog 43 #[.pointer (some ⟨p, 0, none⟩), .slice sp 0 cap] w (Wrote w p l) := by
  have c1 := hash_taken hl.len hl.row
  have f1 : w.frozen? ⟨p, 72, none⟩ = false := frozen_of_row _ _ _ _ _ hl.row
  have hmod : (n : Int) % 64 = (k : Int) := by omega
  have HL := Lib.hid (hl.put n)
  have hlT := Lib.hid hl.len
  have hd1 : decide ((k : Int) < 64) = true := by simp; omega
  have HS := Lib.hid hs
  have HT := Lib.hid hT
  have HN := Lib.hid hn
  have HKk := Lib.hid hk
  have hk64 : k < 64 := by omega
  clear hl hs hT hn hk
  go_enter Tryd.func43, Tryd.ntmps43
  go_upto_region 3 with fail
  rw [hmod]
  refine gen_world (Q := fun w => Code.wp _ _ _ _ w) _ (fun W => w.grownBy W (some p) ∧ Lie W p s T n) ⟨grown_setCell, HL.out⟩ ?_
  rintro w1 ⟨hg1, hl1⟩
  clear c1 f1 HL
  have HG1 := Lib.hid hg1
  have HL1 := Lib.hid hl1
  clear hg1 hl1
  have hsl := run_tail p k hk64
  clear hmod
  have hn0 := Lib.hid (show Nat.min 0 (64 - k) = 0 from Nat.min_eq_left (by omega))
  go_upto_region 4 with (refine wpList_copy_nothing rfl (.tmp 27) (.tmp 28) 38 38 rfl 5 Tryd.underlying38 size5 _ _ (64 - k) (64 - k) 0 cap rfl rfl hn0.out ?_)
  clear hsl
  go_wp2
  refine bodyPost_ret (v := .tuple #[]) (by simp [results, Tryd.results43, go_sem]) rfl ⟨rfl, HG1.out, _, HL1.out.len, ?_, ?_⟩
  · rw [HN.out, HKk.out, HT.out]
  · rw [HS.out, HN.out]; exact HL1.out.row

theorem run_drop (c o m cap j : Nat) (hj : j ≤ m) (w : World) : (Instr.slice 38 (.slice (some ⟨c, o, none⟩) m cap) (some (.int .i64 (j : Int))) none none).run Tryd.prog w = .ok (.slice (some ⟨c, if cap = j then o else o + j, none⟩) (m - j) (cap - j)) w := by
  cases hq : Tryd.prog.info? 5 with
  | none => have := size5; simp [hq] at this
  | some i =>
    have hi : i.size = 1 := by have := size5; simpa [hq] using this
    have hadd : (⟨c, o, none⟩ : Addr).add j = ⟨c, o + j, none⟩ := by unfold Addr.add; split <;> simp_all
    simp only [Instr.slice, run_underlying Tryd.underlying38, Instr.sliceBounds, Instr.sliceBound, asIntOf, sizeOf, typeInfo, Sem.run_bind, Result.andThen_ok, Sem.run_pure, Sem.run_ite]
    simp [hq, hi, hadd, hj]
    split <;> rfl

theorem write_any (p : Nat) (w : World) (l b : List Int) (sp : Option Addr) (cap : Nat) (hh : HashAt w p l) (hb : Bytes w sp cap b) (hdis : ∀ c o, sp = some ⟨c, o, none⟩ → 0 < b.length → c ≠ p) (he : Env w) (hp1 : p ≠ 1)
    (hsz : l.length + b.length ≤ 1152921504606846975) :
    Calls Tryd.prog 43 #[.pointer (some ⟨p, 0, none⟩), .slice sp b.length cap] w (Wrote w p (l ++ b)) := by
  obtain ⟨T, hT, hTr, hrow⟩ := hh
  by_cases h0 : b.length = 0
  · obtain rfl : b = [] := List.eq_nil_of_length_eq_zero h0
    rw [List.append_nil]
    exact write_none p cap l.length (l.length % 64) sp w l T (absorb start l) ⟨hT, hrow⟩ rfl rfl (by simp at hsz; omega) rfl hTr
  · obtain ⟨c, o, rfl, hl⟩ := hb.lies (by omega)
    have hc := hdis c o rfl (by omega)
    by_cases hf : l.length % 64 + b.length < 64
    · exact write_few p c o cap b.length l.length (l.length % 64) w l b T (absorb start l) ⟨hT, hrow⟩ rfl rfl rfl (by omega) hl hc hsz hf rfl hTr
    · refine write_more p c o _ cap b.length l.length (l.length % 64) (64 - l.length % 64) w l b T (absorb start l) ⟨hT, hrow⟩ rfl rfl rfl (by omega) (by omega) hl hc hb.le hb.max hsz rfl hTr he hp1 (run_drop c o b.length cap (64 - l.length % 64) (by omega)) ?_
      by_cases hcj : cap = 64 - l.length % 64
      · rw [if_pos hcj]
        have := hb.le
        rw [List.drop_of_length_le (by omega)]
        intro i hi
        simp at hi
      · rw [if_neg hcj]
        exact hl.drop _
end Go.Proofs.YtpaffncdfldnmaaDoor
