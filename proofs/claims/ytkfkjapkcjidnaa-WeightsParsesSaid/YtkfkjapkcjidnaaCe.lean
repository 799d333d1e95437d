import Derived.Test.YtkfkjapkcjidnaaCa
-- from Ce
namespace Go.Proofs.Ytkfkjapkcjidnaa.Cd
section
open Go.ChangeShapes Go.WideShapes Go.ChangeAt Go.RowKit
set_option maxRecDepth 100000 in
set_option maxHeartbeats 4000000 in
theorem ref_number (w : World) (n : Int) (h1 : -9223372036854775808 ≤ n) (h2 : n ≤ 9223372036854775807) :
    Calls Try.prog 38 #[.int .i64 n] w fun e w' => ∃ g, e = .returned (.slice (some ⟨g, 0, none⟩) 8 8) ∧ Bytes w' (some ⟨g, 0, none⟩) 8 (be 8 n) ∧ Below w.heap.size w w' := by
  go_enter Try.func38, Try.ntmps38
  go_wp2_with (refine wpList_makeN 24 5 1 (.int .u8 0) Try.underlying24 info5 (by decide) rfl (.const (.int .i64 8)) (.const (.int .i64 8)) rfl 8 rfl rfl (by omega) ?_)
  have hfl : Fl w w.heap.size 5 (wk n 0) (w.alloc (.cells (madeCells #[Value.int .u8 0] 8) 5)) := ⟨(Below.refl _ _).alloc (Nat.le_refl _) _, Nat.le_refl _, by rw [made_bytes]; exact heap_alloc_new _ _⟩
  go_loopw [0, 4] (fun x i wr => ∃ k : Nat, k ≤ 8 ∧ i = .int .i64 (7 - (k : Int)) ∧ x = .int .i64 (n / 256 ^ k) ∧ Fl w w.heap.size 5 (wk n k) wr) (fun _ i _ => (intOf i + 1).toNat)
  case atStart => exact ⟨0, by omega, rfl, by simp, hfl⟩
  case round =>
    clear hfl
    obtain ⟨k, hk, rfl, rfl, hfl⟩ := hrel
    have hpw : n / 256 ^ (k + 1) = n / 256 ^ k / 256 := by rw [Int.pow_succ, Int.ediv_ediv_of_nonneg (Int.le_of_lt (Int.pow_pos (by omega)))]
    have hxb : -9223372036854775808 ≤ n / 256 ^ k ∧ n / 256 ^ k ≤ 9223372036854775807 := div_in n _ (by have : (0 : Int) < 256 ^ k := Int.pow_pos (by omega); omega) h1 h2
    have HSt : Hid (k < 8 → (wk n k).set (7 - k) (n / 256 ^ k % 256) = wk n (k + 1)) := Lib.hid (fun h => wk_set n k h)
    have HL := Lib.hid (wk_length n k hk)
    obtain ⟨x, hx⟩ : ∃ x, n / 256 ^ k = x := ⟨_, rfl⟩
    rw [hx] at hpw hxb HSt ⊢
    have HPw := Lib.hid hpw
    clear hx hpw
    obtain ⟨hx1, hx2⟩ := hxb
    by_cases hlt : k < 8
    · have hdt : decide (0 ≤ 7 - (k : Int)) = true := by simp; omega
      have HS := Lib.hid (HSt.out hlt)
      have c1 := hfl.cell (7 - k) (by rw [HL.out]; omega)
      have f1 := hfl.free (7 - k)
      by_cases hs : 0 ≤ x ∨ x % 256 = 0
      · obtain ⟨t1, t2⟩ := tm_same x hs
        have hd2 : decide (x % 256 < 0) = false := by simp; omega
        clear hs
        go_wp2
        clear c1 f1 t1 t2
        go_roundw
        case rel => exact ⟨k + 1, by omega, by go_num, by rw [HPw.out], by rw [← HS.out]; exact hfl.put (7 - k) _⟩
        case measure => simp [intOf]; omega
      · obtain ⟨t1, t2⟩ := tm_less x hs
        have hr1 : 0 ≤ x % 256 := by omega
        have hr2 : x % 256 < 256 := by omega
        obtain ⟨r, hr⟩ : ∃ r, x % 256 = r := ⟨_, rfl⟩
        obtain ⟨y, hy⟩ : ∃ y, x / 256 = y := ⟨_, rfl⟩
        have hy1 : -9223372036854775808 ≤ y := by omega
        have hy2 : y ≤ 9223372036854775806 := by omega
        rw [hr] at t1 hr1 hr2 HS
        rw [hy] at t2 HPw
        have hd2 : decide (r - 256 < 0) = true := by simp; omega
        clear hs hr hy
        go_wp2
        clear c1 f1 t1 t2
        go_roundw
        case rel => exact ⟨k + 1, by omega, by go_num, by rw [HPw.out], by rw [← HS.out]; exact hfl.put (7 - k) _⟩
        case measure => simp [intOf]; omega
    · obtain rfl : k = 8 := by omega
      have hdf : decide (0 ≤ 7 - ((8 : Nat) : Int)) = false := by simp
      rw [wk_all] at hfl
      go_wp2
      go_ret
      refine ⟨w.heap.size, rfl, ⟨⟨by simp [be_length], by unfold maxLen; omega, (fun h => by cases h), fun _ => ⟨_, _, rfl, fun i v hv => ?_⟩⟩, be_range 8 n⟩, hfl.below⟩
      rw [cell_of_row _ _ _ _ _ _ hfl.row, ← hv]
      simp [rowB]
/-- how Numbers of the document's answer stands -/
structure Rr (w : World) (l : List Int) (k : Nat) (v : Value) (wr : World) : Prop where
  own : wr.ownsRow w.heap.size 5 1 v (8 * k) ((nums (l.take k)).map (Value.int .u8))
  below : Below w.heap.size w wr
set_option maxRecDepth 100000 in
set_option maxHeartbeats 4000000 in
theorem ref_numbersO (w : World) (sp : Option Addr) (cap N : Nat) (l : List Int) (hN : l.length = N) (hP : Nums w sp cap l) (hr : ∀ x ∈ l, -9223372036854775808 ≤ x ∧ x ≤ 9223372036854775807) (hs : N ≤ 1000) :
    Calls Try.prog 16 #[.slice sp N cap] w fun e w' => ∃ sp' cap', e = .returned (.slice sp' (8 * N) cap') ∧ w'.ownsRow w.heap.size 5 1 (.slice sp' (8 * N) cap') (8 * N) ((nums l).map (Value.int .u8)) ∧ Bytes w' sp' cap' (nums l) ∧ Below w.heap.size w w' := by
  have HP : Hid (Nums w sp cap l) := Lib.hid hP
  have HN := Lib.hid hN
  have HR := Lib.hid hr
  clear hP hN hr
  go_enter Try.func16, Try.ntmps16
  go_wp2
  have hst : Rr w l 0 (.slice none 0 0) w := ⟨World.ownsRow_nil _ _ _ _, Below.refl _ _⟩
  go_loopw [3, 4] (fun v i wr => ∃ j : Nat, j ≤ N ∧ i = .int .i64 j ∧ Rr w l j v wr) (fun _ i _ => N - (intOf i).toNat)
  case atStart => exact ⟨0, by omega, rfl, hst⟩
  case round =>
    clear hst
    obtain ⟨j, hjk, rfl, hj⟩ := hrel
    obtain ⟨sv, cv, rfl, hxl, hsl, hbase⟩ := Sl.all1 hj.own
    have HJn := Lib.hid hj
    have HSl := Lib.hid hsl
    clear hj hsl hxl
    by_cases hlt : j < N
    · have hdt : decide (j < N) = true := by simp; omega
      have hjl : j < l.length := by rw [HN.out]; exact hlt
      obtain ⟨c, o, rfl, hcell⟩ := HP.out.at_ j hjl
      have hjs : nums (l.take (j + 1)) = nums (l.take j) ++ be 8 (l.getD j 0) := by rw [take_snocI l j hjl, nums_snoc]
      have hpr : -9223372036854775808 ≤ l.getD j 0 ∧ l.getD j 0 ≤ 9223372036854775807 := HR.out _ (by simp [hjl])
      obtain ⟨P, hP⟩ : ∃ P, l.getD j 0 = P := ⟨_, rfl⟩
      rw [hP] at hcell hjs hpr
      have HJs := Lib.hid hjs
      have hcl : c < w.heap.size := block_lt_of_cell hcell
      have hcr : wr.cell? ⟨c, o + j, none⟩ = some (.int .i64 P) := (HJn.out.below.cell hcl).trans hcell
      have hsz := HJn.out.below.size
      clear hP hjs hcell hjl
      obtain ⟨n, hn⟩ : ∃ n, 8 * j = n := ⟨_, rfl⟩
      rw [hn]
      have hnb : n + 8 ≤ 1000000 := by omega
      have HNn := Lib.hid hn
      clear hn
      go_wp2_with fail
      refine (ref_number wr P hpr.1 hpr.2).mono ?_
      rintro e w1 ⟨g, rfl, hb1, hw1⟩
      have hsz1 : w.heap.size ≤ w1.heap.size := Nat.le_trans hsz hw1.size
      have HB1 := Lib.hid hb1
      have HBW := Lib.hid (HJn.out.below.trans (hw1.mono hsz))
      have HO := Lib.hid (owns_below HJn.out.own hw1)
      rw [HNn.out] at HO
      have HB4 := Lib.hid (show ((be 8 P).map (Value.int .u8)).length = 8 by rw [List.length_map, be_length])
      obtain ⟨D, hD⟩ : ∃ D, be 8 P = D := ⟨_, rfl⟩
      rw [hD] at HB1 HB4 HJs
      clear hD hb1 hw1 hcr
      go_wp2_with (refine wpList_append_sl 24 5 1 (.int .u8 0) Try.underlying24 info5 rfl (by decide) rfl (.tmp 11) (.tmp 16) rfl w.heap.size (.slice sv n cv) n 8 _ _ rfl HO.out (some ⟨g, 0, none⟩) 8 rfl HB4.out HB1.out.sl (map_one _) hnb hsz1 ?_; intro v2 w2 hown2 hg2)
      have HB4' := Lib.hid (HBW.out.trans (Below.ofGrown hg2 hsz1 (fun g e => (HO.out.lt g e).1)))
      have HO4 := Lib.hid hown2
      clear hg2 hown2
      go_roundw
      case rel =>
        refine ⟨j + 1, by omega, by go_num, ?_, HB4'.out⟩
        have := HO4.out
        rw [← List.map_append, ← HJs.out, ← HNn.out] at this
        exact this
      case measure => simp [intOf]; omega
    · obtain rfl : j = N := by omega
      have hdf2 : decide (j < j) = false := by simp
      have HSl2 := HSl
      rw [List.take_of_length_le (by rw [HN.out]; omega)] at HSl2
      have hown := HJn.out.own
      rw [List.take_of_length_le (by rw [HN.out]; omega)] at hown
      have HOw := Lib.hid hown
      clear hlt hown
      go_wp2
      go_ret
      exact ⟨sv, cv, rfl, HOw.out, ⟨HSl2.out, rng_nums l⟩, HJn.out.below⟩
theorem ref_numbers (w : World) (sp : Option Addr) (cap N : Nat) (l : List Int) (hN : l.length = N) (hP : Nums w sp cap l) (hr : ∀ x ∈ l, -9223372036854775808 ≤ x ∧ x ≤ 9223372036854775807) (hs : N ≤ 1000) :
    Calls Try.prog 16 #[.slice sp N cap] w fun e w' => ∃ sp' cap', e = .returned (.slice sp' (8 * N) cap') ∧ Bytes w' sp' cap' (nums l) ∧ Below w.heap.size w w' :=
  (ref_numbersO w sp cap N l hN hP hr hs).mono fun _ _ ⟨s, c, h1, _, h2, h3⟩ => ⟨s, c, h1, h2, h3⟩
end
section
open Go.ChangeShapes Go.WideShapes Go.ChangeAt Go.RowKit
theorem be4_list (n : Int) : be 4 n = [n / 16777216 % 256, n / 65536 % 256, n / 256 % 256, n % 256] := by
  rw [be_cons, be_cons, be_cons, be_cons]
  simp [be]
set_option maxRecDepth 100000 in
set_option maxHeartbeats 4000000 in
theorem ref_join (w : World) (sp : Option Addr) (cap N : Nat) (ls : List (List Int)) (hN : ls.length = N) (hP : Pieces w sp cap ls) (hs : (join ls).length ≤ 990000) :
    Calls Try.prog 17 #[.slice sp N cap] w fun e w' => ∃ sp' cap', e = .returned (.slice sp' (join ls).length cap') ∧ Bytes w' sp' cap' (join ls) ∧ Below w.heap.size w w' := by
  have hNm : N ≤ 9223372036854775807 := by rw [← hN]; exact hP.len
  have HP := Lib.hid hP
  have HN := Lib.hid hN
  obtain ⟨J, hJ2⟩ : ∃ J, (join ls).length = J := ⟨_, rfl⟩
  rw [hJ2] at hs
  have HJ2 := Lib.hid hJ2
  clear hP hN hJ2
  go_enter Try.func17, Try.ntmps17
  go_wp2
  have hst : Jn w ls 0 (.slice none 0 0) w := ⟨World.ownsRow_nil _ _ _ _, Below.refl _ _⟩
  go_loopw [3, 4] (fun v i wr => ∃ j : Nat, j ≤ N ∧ i = .int .i64 j ∧ Jn w ls j v wr) (fun _ i _ => N - (intOf i).toNat)
  case atStart => exact ⟨0, by omega, rfl, hst⟩
  case round =>
    clear hst
    obtain ⟨j, hjk, rfl, hj⟩ := hrel
    obtain ⟨sv, cv, rfl, hxl, hsl, hbase⟩ := Sl.all1 hj.own
    have HJn := Lib.hid hj
    have HSl := Lib.hid hsl
    have hle := jl_le ls j
    rw [HJ2.out] at hle
    clear hj hsl hxl
    by_cases hlt : j < N
    · have hdt : decide (j < N) = true := by simp; omega
      obtain ⟨c, o, s2, c2, rfl, hcell, hb⟩ := HP.out.at_ j (by rw [HN.out]; exact hlt)
      have hsu := jl_succ ls j (by rw [HN.out]; exact hlt)
      have hle2 := jl_le ls (j + 1)
      rw [HJ2.out] at hle2
      have hbl := hb.len
      have hts := take_snoc ls j (by rw [HN.out]; exact hlt)
      have hjs : join (ls.take (j + 1)) = join (ls.take j) ++ be 4 ((ls.getD j []).length : Int) ++ ls.getD j [] := by rw [hts, join_snoc]
      clear hts
      obtain ⟨P, hP⟩ : ∃ P, ls.getD j [] = P := ⟨_, rfl⟩
      rw [hP] at hcell hsu hbl hjs hb
      obtain ⟨m, hm⟩ : ∃ m, P.length = m := ⟨_, rfl⟩
      rw [hm] at hcell hsu hbl hjs
      have HSu := Lib.hid hsu
      have HM := Lib.hid hm
      have HJs := Lib.hid hjs
      have HBp := Lib.hid hb
      have hjm : jl ls j + 4 + m ≤ 990000 := by omega
      have hcl : c < w.heap.size := block_lt_of_cell hcell
      have HCell := Lib.hid hcell
      have hcr : wr.cell? ⟨c, o + j, none⟩ = some (.slice s2 m c2) := (HJn.out.below.cell hcl).trans hcell
      have hsz := HJn.out.below.size
      clear hm hsu hb hle2 hP hjs hcell
      obtain ⟨n, hn⟩ : ∃ n, jl ls j = n := ⟨_, rfl⟩
      rw [hn] at hjm HSu hle ⊢
      have HNn := Lib.hid hn
      have HO0 := Lib.hid HJn.out.own
      rw [hn] at HO0
      clear hn
      have HS4 := Lib.hid (Sl.new wr [.int .u8 ((m : Int) / 16777216 % 256), .int .u8 ((m : Int) / 65536 % 256), .int .u8 ((m : Int) / 256 % 256), .int .u8 ((m : Int) % 256)] #[.int .u8 ((m : Int) / 16777216 % 256), .int .u8 ((m : Int) / 65536 % 256), .int .u8 ((m : Int) / 256 % 256), .int .u8 ((m : Int) % 256)] 5 (0, 0) rfl (by simp))
      have HBa := Lib.hid ((Below.refl wr.heap.size wr).alloc (Nat.le_refl _) (.cells #[.int .u8 ((m : Int) / 16777216 % 256), .int .u8 ((m : Int) / 65536 % 256), .int .u8 ((m : Int) / 256 % 256), .int .u8 ((m : Int) % 256)] 5))
      have HO := Lib.hid (owns_below HO0.out HBa.out)
      have hszW : w.heap.size ≤ (wr.alloc (.cells #[.int .u8 ((m : Int) / 16777216 % 256), .int .u8 ((m : Int) / 65536 % 256), .int .u8 ((m : Int) / 256 % 256), .int .u8 ((m : Int) % 256)] 5)).heap.size := by rw [size_alloc']; omega
      go_upto_region 7 with (refine wpList_append_sl 24 5 1 (.int .u8 0) Try.underlying24 info5 rfl (by decide) rfl (.tmp 17) (.tmp 33) rfl w.heap.size (.slice sv n cv) n 4 _ [.int .u8 ((m : Int) / 16777216 % 256), .int .u8 ((m : Int) / 65536 % 256), .int .u8 ((m : Int) / 256 % 256), .int .u8 ((m : Int) % 256)] rfl HO.out (some ⟨wr.heap.size, 0, none⟩) 4 rfl rfl HS4.out (by simp [Value.oneCell']) (by omega) hszW ?_; intro v2 w2 hown2 hg2)
      have hb2 : Below w.heap.size wr w2 := (HBa.out.mono hsz).trans (Below.ofGrown hg2 hszW (fun g e => (HO.out.lt g e).1))
      have HBW2 := Lib.hid (HJn.out.below.trans hb2)
      obtain ⟨s3, c3, rfl, hl3, hsl3, hbs3⟩ := Sl.all1 hown2
      rw [show ([.int .u8 ((m : Int) / 16777216 % 256), .int .u8 ((m : Int) / 65536 % 256), .int .u8 ((m : Int) / 256 % 256), .int .u8 ((m : Int) % 256)] : List Value) = (be 4 (m : Int)).map (Value.int .u8) by rw [be4_list]; rfl] at hown2
      have HO2 := Lib.hid hown2
      have hsz2 : w.heap.size ≤ w2.heap.size := HBW2.out.size
      have HPb := Lib.hid (HBp.out.below HBW2.out)
      have HMm := Lib.hid (show (P.map (Value.int .u8)).length = m by rw [List.length_map, HM.out])
      clear hcr hg2 hb2 hown2 hsl3 hl3 hszW HS4 HBa HO
      have hcr2 : w2.cell? ⟨c, o + j, none⟩ = some (.slice s2 m c2) := (HBW2.out.cell hcl).trans HCell.out
      go_wp2_with (refine wpList_append_sl 24 5 1 (.int .u8 0) Try.underlying24 info5 rfl (by decide) rfl (.tmp 35) (.tmp 39) rfl w.heap.size (.slice s3 (n + 4) c3) (n + 4) m _ _ rfl HO2.out s2 c2 rfl HMm.out HPb.out.sl (map_one _) (by omega) hsz2 ?_; intro v4 w4 hown4 hg4)
      have HB4' := Lib.hid (HBW2.out.trans (Below.ofGrown hg4 hsz2 (fun g e => (HO2.out.lt g e).1)))
      have HO4 := Lib.hid hown4
      clear hg4 hown4 hcr2
      go_roundw
      case rel =>
        refine ⟨j + 1, by omega, by go_num, ?_, HB4'.out⟩
        have := HO4.out
        rw [← List.map_append, ← List.map_append, ← HJs.out] at this
        rw [HSu.out, ← Nat.add_assoc]
        exact this
      case measure => simp [intOf]; omega
    · obtain rfl : j = N := by omega
      have hdf2 : decide (j < j) = false := by simp
      have hJ : jl ls j = J := by unfold jl; rw [List.take_of_length_le (by rw [HN.out]; omega), HJ2.out]
      rw [hJ]
      have HSl2 := HSl
      rw [List.take_of_length_le (by rw [HN.out]; omega)] at HSl2
      have HR := Lib.hid (rng_join (ls := ls) (fun l hl => by
        obtain ⟨i, hi, rfl⟩ := List.getElem_of_mem hl
        obtain ⟨_, _, _, _, _, _, h⟩ := HP.out.at_ i hi
        have := h.rng
        simpa [hi] using this))
      clear hlt hle hJ
      go_wp2
      go_ret
      exact ⟨sv, cv, by rw [HJ2.out]; rfl, ⟨HSl2.out, HR.out⟩, HJn.out.below⟩
end
end Go.Proofs.Ytkfkjapkcjidnaa.Cd
