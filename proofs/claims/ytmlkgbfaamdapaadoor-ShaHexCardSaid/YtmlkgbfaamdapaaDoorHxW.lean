import Derived.Test.YtmlkgbfaamdapaaDoorHh
import Derived.Test.YtmlkgbfaamdapaaDoorL
import Derived.Test.YtmlkgbfaamdapaaDoorO
namespace Go.Proofs.YtmlkgbfaamdapaaDoor
open Go.ChangeShapes Go.WideShapes Go.ChangeAt Go.RowKit

theorem eq_row (l : List Int) (h : l.length = 32) (w : World) : (binOp .eql 25 (.agg (rowB l)) (.agg (rowB l))).run Tryd.prog w = .ok (.bool true) w := by
  rw [run_eql_row (P := Tryd.prog) 25 5 32 .u8 Tryd.underlying25 Tryd.underlying5 size5 l l h h w]
  simp
theorem neq_row (l : List Int) (h : l.length = 32) (w : World) : (binOp .neq 25 (.agg (rowB l)) (.agg (rowB l))).run Tryd.prog w = .ok (.bool false) w := by
  rw [run_neq_row (P := Tryd.prog) 25 5 32 .u8 Tryd.underlying25 Tryd.underlying5 size5 l l h h w]
  simp
theorem eq_str (s : ByteArray) (w : World) : (binOp .eql 9 (.string s) (.string s)).run Tryd.prog w = .ok (.bool true) w := by
  simp [go_sem]
theorem neq_str (s : ByteArray) (w : World) : (binOp .neq 9 (.string s) (.string s)).run Tryd.prog w = .ok (.bool false) w := by
  simp [go_sem]
theorem row32 (l : List Int) (h : l.length = 32) : (Tryd.prog.info? 25).map (·.size) = some (rowB l).size := by rw [rowB_size, h]; exact size25
theorem zero32 (l : List Int) (h : l.length = 32) : 32 = (rowB l).size := by rw [rowB_size, h]

set_option maxRecDepth 100000 in
set_option maxHeartbeats 4000000 in
theorem hex_walk (w : World) (d : List Int) (s : ByteArray) (hd : d.length = 32) (hb : Byt d) (hsm : s.size ≤ 9223372036854775807) (he : Env w) :
    Calls Tryd.prog 5 #[.agg (rowB d), .string s] w fun e w' => e = .returned (.bool true) ∧ Below w.heap.size w w' := by
  have HE := Lib.hid he
  have HD := Lib.hid hd
  have HB : Hid (Byt d) := hb
  clear he hd hb
  by_cases h1 : 100 < s.size
  · have hdt : decide ((100 : Int) < (s.size : Int)) = true := by simp; omega
    go_enter Tryd.func5, Tryd.ntmps5
    go_wp2_with fail
    have hb0 : Below w.heap.size w (w.alloc (.cells (rowB d) 25)) := (Below.refl _ _).alloc (Nat.le_refl _) _
    refine (awake_any _ (HE.out.below hb0)).mono ?_
    rintro e w1 ⟨rfl, hb1⟩
    have HB1 := Lib.hid (hb0.trans (hb1.mono hb0.size))
    clear hb0 hb1
    go_wp2
    go_ret
    exact ⟨rfl, HB1.out⟩
  have hdt : decide ((100 : Int) < (s.size : Int)) = false := by simp; omega
  have HZ := Lib.hid (row32 d HD.out)
  have HY := Lib.hid (zero32 d HD.out)
  have HX := Lib.hid (rowB_one d)
  obtain ⟨q1, q2, q3⟩ := un_hex d HD.out HB.out
  have Q1 := Lib.hid q1
  have Q2 : Hid (good (strOfNums (hx d 32)) 32) := q2
  have Q3 := Lib.hid q3
  clear q1 q2 q3
  go_enter Tryd.func5, Tryd.ntmps5
  go_upto_region 3 with fail
  refine gen_world (Q := fun w => Code.wp _ _ _ _ w) _ (Fl w w.heap.size 25 d) ⟨(Below.refl _ _).alloc (Nat.le_refl _) _, Nat.le_refl _, heap_alloc_new _ _⟩ ?_
  intro w0 hf0
  have HF0 := Lib.hid hf0
  have HR0 := Lib.hid hf0.row
  clear hf0
  go_wp2_with (refine wpList_load_row rfl 25 (.tmp 2) rfl w.heap.size rfl 25 (rowB d) (0, 0) _ HR0.out Tryd.underlying25 rfl HZ.out ?_)
  refine (hex_any w0 d HD.out HB.out).mono ?_
  rintro e w1 ⟨rfl, hb1⟩
  have HF1 := Lib.hid (HF0.out.later hb1)
  clear hb1 HF0 HR0
  obtain ⟨S, hS⟩ : ∃ S, strOfNums (hx d 32) = S := ⟨_, rfl⟩
  rw [hS] at Q1 Q2 Q3 ⊢
  have HS := Lib.hid hS
  clear hS
  go_wp2_with fail
  refine (unhex_64 w1 S Q3.out).mono ?_
  rintro e w2 ⟨hok, _, hb2⟩
  obtain rfl := hok Q2.out
  rw [Q1.out]
  clear hok
  have HF2 := Lib.hid (HF1.out.later hb2)
  clear hb2 HF1
  go_upto_region 5 with (refine wpList_store_row rfl 25 (.tmp 6) (.tmp 21) rfl w2.heap.size (rowB d) rfl rfl 25 _ (heap_alloc_new _ _) HZ.out HY.out HX.out ?_)
  refine gen_world (Q := fun w => Code.wp _ _ _ _ w) _ (fun W => Fl w w.heap.size 25 d W ∧ Fl w w2.heap.size 25 d W) ⟨HF2.out.later (below_setRow ((Below.refl _ _).alloc (Nat.le_refl _) _) (Nat.le_refl _) _), Fl.made HF2.out.below _ d 25⟩ ?_
  rintro w3 ⟨hf3, hg3⟩
  generalize w2.heap.size = g1 at hg3 ⊢
  have HF3 := Lib.hid hf3
  have HG3 := Lib.hid hg3
  have HR3 := Lib.hid hf3.row
  clear hf3 hg3 HF2
  go_wp2_with (refine wpList_load_row rfl 25 (.tmp 2) rfl w.heap.size rfl 25 (rowB d) (0, 0) _ HR3.out Tryd.underlying25 rfl HZ.out ?_)
  refine (rhex_any w3 d HD.out HB.out).mono ?_
  rintro e w4 ⟨rfl, hb4⟩
  rw [← hx_all, HS.out]
  have HF4 := Lib.hid (HF3.out.later hb4)
  have HG4 := Lib.hid (HG3.out.later hb4)
  have HR4 := Lib.hid HF4.out.row
  have HQ4 := Lib.hid HG4.out.row
  clear hb4 HF3 HG3 HR3
  have ns := neq_str S
  have nr := neq_row d HD.out
  go_upto_region 7 with (first
    | (refine BigFrame.wpList_want rfl (fun K hK => wp_load_row 25 (.tmp 6) rfl g1 rfl 25 (rowB d) (0, 0) _ HQ4.out Tryd.underlying25 rfl HZ.out (hK _ _ ?_)))
    | (refine BigFrame.wpList_want rfl (fun K hK => wp_load_row 25 (.tmp 2) rfl w.heap.size rfl 25 (rowB d) (0, 0) _ HR4.out Tryd.underlying25 rfl HZ.out (hK _ _ ?_))))
  by_cases hgd : s.size = 64 ∧ good s 32
  rotate_left
  · have C16 : Hid (∀ W, Calls Tryd.prog 16 #[.string s] W fun e W' => e = .returned (.tuple #[.agg (rowB (zs 32)), .int .i64 11]) ∧ Below W.heap.size W W') := fun W => by
      by_cases hs : s.size = 64
      · exact (unhex_64 W s hs).mono fun e W' ⟨_, h2, h3⟩ => ⟨h2 (fun h => hgd ⟨hs, h⟩), h3⟩
      · exact unhex_short W s hs (by omega)
    have C18 : Hid (∀ W, Calls Tryd.prog 18 #[.string s] W fun e W' => e = .returned (.tuple #[.agg (rowB (zs 32)), .bool false]) ∧ Below W.heap.size W W') := fun W => by
      by_cases hs : s.size = 64
      · exact (runhex_64 W s hs).mono fun e W' ⟨_, h2, h3⟩ => ⟨h2 (fun h => hgd ⟨hs, h⟩), h3⟩
      · exact runhex_short W s hs (by omega)
    clear hgd
    have HXl := Lib.hid (show (zs 32).length = 32 from rfl)
    obtain ⟨X, hX⟩ : ∃ X, zs 32 = X := ⟨_, rfl⟩
    rw [hX] at C16 C18 HXl
    have HXe := Lib.hid hX
    clear hX
    have HZx := Lib.hid (row32 X HXl.out)
    have HYx := Lib.hid (zero32 X HXl.out)
    have HXx := Lib.hid (rowB_one X)
    go_wp2_with fail
    refine (C16.out w4).mono ?_
    rintro e w5 ⟨rfl, hb5⟩
    have HW5 := Lib.hid (HF4.out.below.trans (hb5.mono HF4.out.below.size))
    clear hb5
    go_upto_region 8 with (refine wpList_store_row rfl 25 (.tmp 8) (.tmp 39) rfl w5.heap.size (rowB X) rfl rfl 25 _ (heap_alloc_new _ _) HZx.out HYx.out HXx.out ?_)
    refine gen_world (Q := fun w => Code.wp _ _ _ _ w) _ (Fl w w5.heap.size 25 X) (Fl.made HW5.out _ X 25) ?_
    intro w6 hf6
    generalize w5.heap.size = g2 at hf6 ⊢
    have HF6 := Lib.hid hf6
    clear hf6
    go_wp2_with fail
    refine (C18.out w6).mono ?_
    rintro e w7 ⟨rfl, hb7⟩
    have HF7 := Lib.hid (HF6.out.later hb7)
    clear hb7
    go_upto_region 9 with (refine wpList_store_row rfl 25 (.tmp 10) (.tmp 44) rfl w7.heap.size (rowB X) rfl rfl 25 _ (heap_alloc_new _ _) HZx.out HYx.out HXx.out ?_)
    refine gen_world (Q := fun w => Code.wp _ _ _ _ w) _ (fun W => Fl w g2 25 X W ∧ Fl w w7.heap.size 25 X W) ⟨HF7.out.later (below_setRow ((Below.refl _ _).alloc (Nat.le_refl _) _) (Nat.le_refl _) _), Fl.made HF7.out.below _ X 25⟩ ?_
    rintro w8 ⟨hf8, hg8⟩
    generalize w7.heap.size = g3 at hg8 ⊢
    have HF8 := Lib.hid hf8
    have HR8 := Lib.hid hf8.row
    have HQ8 := Lib.hid hg8.row
    have HE8 := Lib.hid (HE.out.below hf8.below)
    clear hf8 hg8 ns nr
    have er := eq_row X HXl.out
    have HB25 : Hid (∀ {ops : Array Oper} {rest : List Oper} {o : Oper} {a : Act} {W : World} {Q : Exit → Act → World → Prop}, o.guard = none → o.op = .build 25 #[] → wpList Tryd.prog ops Q rest (a.put o.dst (.agg (rowB X))) W → wpList Tryd.prog ops Q (o :: rest) a W) := fun h1 h2 h3 => wpList_build25 h1 h2 (by rw [HXe.out]; exact h3)
    go_wp2_with (first
      | (refine wpList_load_row rfl 25 (.tmp 8) rfl g2 rfl 25 (rowB X) (0, 0) _ HR8.out Tryd.underlying25 rfl HZx.out ?_)
      | (refine HB25.out rfl rfl ?_))
    refine (awake_any w8 HE8.out).mono ?_
    rintro e w9 ⟨rfl, hb9⟩
    have HW9 := Lib.hid (HF8.out.below.trans (hb9.mono HF8.out.below.size))
    clear hb9
    go_wp2
    go_ret
    exact ⟨rfl, HW9.out⟩
  · obtain ⟨hs, hg⟩ := hgd
    obtain ⟨r1, r2, r3⟩ := hex_un s hs hg
    have C16 : Hid (∀ W, Calls Tryd.prog 16 #[.string s] W fun e W' => e = .returned (.tuple #[.agg (rowB (un s 32)), .int .i64 0]) ∧ Below W.heap.size W W') := fun W =>
      (unhex_64 W s hs).mono fun e W' ⟨h2, _, h3⟩ => ⟨h2 hg, h3⟩
    have C18 : Hid (∀ W, Calls Tryd.prog 18 #[.string s] W fun e W' => e = .returned (.tuple #[.agg (rowB (un s 32)), .bool true]) ∧ Below W.heap.size W W') := fun W =>
      (runhex_64 W s hs).mono fun e W' ⟨h2, _, h3⟩ => ⟨h2 hg, h3⟩
    have HXl := Lib.hid r3
    have HXb : Hid (Byt (un s 32)) := r2
    have HXs := Lib.hid r1
    clear hs hg r1 r2 r3
    obtain ⟨X, hX⟩ : ∃ X, un s 32 = X := ⟨_, rfl⟩
    rw [hX] at C16 C18 HXl HXb HXs
    clear hX
    have HZx := Lib.hid (row32 X HXl.out)
    have HYx := Lib.hid (zero32 X HXl.out)
    have HXx := Lib.hid (rowB_one X)
    go_wp2_with fail
    refine (C16.out w4).mono ?_
    rintro e w5 ⟨rfl, hb5⟩
    have HW5 := Lib.hid (HF4.out.below.trans (hb5.mono HF4.out.below.size))
    clear hb5
    go_upto_region 8 with (refine wpList_store_row rfl 25 (.tmp 8) (.tmp 39) rfl w5.heap.size (rowB X) rfl rfl 25 _ (heap_alloc_new _ _) HZx.out HYx.out HXx.out ?_)
    refine gen_world (Q := fun w => Code.wp _ _ _ _ w) _ (Fl w w5.heap.size 25 X) (Fl.made HW5.out _ X 25) ?_
    intro w6 hf6
    generalize w5.heap.size = g2 at hf6 ⊢
    have HF6 := Lib.hid hf6
    clear hf6
    go_wp2_with fail
    refine (C18.out w6).mono ?_
    rintro e w7 ⟨rfl, hb7⟩
    have HF7 := Lib.hid (HF6.out.later hb7)
    clear hb7
    go_upto_region 9 with (refine wpList_store_row rfl 25 (.tmp 10) (.tmp 44) rfl w7.heap.size (rowB X) rfl rfl 25 _ (heap_alloc_new _ _) HZx.out HYx.out HXx.out ?_)
    refine gen_world (Q := fun w => Code.wp _ _ _ _ w) _ (fun W => Fl w g2 25 X W ∧ Fl w w7.heap.size 25 X W) ⟨HF7.out.later (below_setRow ((Below.refl _ _).alloc (Nat.le_refl _) _) (Nat.le_refl _) _), Fl.made HF7.out.below _ X 25⟩ ?_
    rintro w8 ⟨hf8, hg8⟩
    generalize w7.heap.size = g3 at hg8 ⊢
    have HF8 := Lib.hid hf8
    have HR8 := Lib.hid hf8.row
    have HQ8 := Lib.hid hg8.row
    have HE8 := Lib.hid (HE.out.below hf8.below)
    clear hf8 hg8 ns nr
    have er := eq_row X HXl.out
    have es := eq_str s
    go_wp2_with (first
      | (refine wpList_load_row rfl 25 (.tmp 10) rfl g3 rfl 25 (rowB X) (0, 0) _ HQ8.out Tryd.underlying25 rfl HZx.out ?_)
      | (refine BigFrame.wpList_want rfl (fun K hK => wp_load_row 25 (.tmp 8) rfl g2 rfl 25 (rowB X) (0, 0) _ HR8.out Tryd.underlying25 rfl HZx.out (hK _ _ ?_))))
    refine (hex_any w8 X HXl.out HXb.out).mono ?_
    rintro e w9 ⟨rfl, hb9⟩
    rw [HXs.out]
    have HW9 := Lib.hid (HF8.out.below.trans (hb9.mono HF8.out.below.size))
    have HE9 := Lib.hid (HE8.out.below hb9)
    clear hb9
    go_wp2_with fail
    refine (awake_any w9 HE9.out).mono ?_
    rintro e w10 ⟨rfl, hb10⟩
    have HW10 := Lib.hid (HW9.out.trans (hb10.mono HW9.out.size))
    clear hb10
    go_wp2
    go_ret
    exact ⟨rfl, HW10.out⟩
end Go.Proofs.YtmlkgbfaamdapaaDoor
