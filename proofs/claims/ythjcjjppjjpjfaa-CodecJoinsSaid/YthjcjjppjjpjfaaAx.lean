import Derived.Test.YthjcjjppjjpjfaaAw
import Derived.Test.YthjcjjppjjpjfaaFe
namespace Go.Proofs.Ythjcjjppjjpjfaa
open Go.ChangeShapes Go.WideShapes Go.ChangeAt Go.RowKit

theorem few_small {ls : List (List Int)} (h : Few ls) : small ls := fun l hl => by have := h.1 l hl; omega
theorem join_len_le : ∀ (ls : List (List Int)) (M : Nat), (∀ l ∈ ls, l.length ≤ M) → (join ls).length ≤ ls.length * (4 + M)
  | [], M, _ => by simp [join_nil]
  | l :: ls, M, h => by
    have h1 := h l (by simp)
    have h2 := join_len_le ls M (fun x hx => h x (by simp [hx]))
    rw [join_cons, List.length_append, List.length_append, be_length, List.length_cons, Nat.succ_mul]
    omega
theorem few_len {ls : List (List Int)} (h : Few ls) : (join ls).length ≤ 14080 := by
  have h1 := join_len_le ls 700 h.1
  have h2 := h.2
  exact Nat.le_trans h1 (Nat.le_trans (Nat.mul_le_mul_right 704 h2) (by decide))
theorem decide_join {a b : List (List Int)} (ha : small a) (hb : small b) : decide (join a = join b) = decide (a = b) := by
  by_cases h : a = b
  · rw [decide_eq_true h, decide_eq_true (by rw [h])]
  · rw [decide_eq_false h, decide_eq_false (fun e => h (join_inj ha hb e))]
/-- two rows of pieces, one behind the other -/
theorem Pieces.both {w w' : World} {sp : Option Addr} {cap : Nat} {a b : List (List Int)} {va vb : List Value} (h1 : va.length = a.length) (h2 : ∀ i v, va[i]? = some v → PcVal w v (a.getD i []))
    (h3 : vb.length = b.length) (h4 : ∀ i v, vb[i]? = some v → PcVal w v (b.getD i [])) (hb : Below w.heap.size w w') (hs : Sl w' sp cap (va ++ vb)) : Pieces w' sp cap (a ++ b) := by
  refine ⟨va ++ vb, by simp [h1, h3], hs, fun i v hv => ?_⟩
  by_cases hi : i < va.length
  · rw [List.getElem?_append_left hi] at hv
    have e : (a ++ b).getD i [] = a.getD i [] := by simp [List.getElem?_append, show i < a.length by omega]
    rw [e]
    exact (h2 i v hv).below hb
  · rw [List.getElem?_append_right (by omega)] at hv
    have e : (a ++ b).getD i [] = b.getD (i - va.length) [] := by simp [List.getElem?_append, show ¬ i < a.length by omega, h1]
    rw [e]
    exact (h4 _ v hv).below hb
theorem one_of {w : World} {a : List (List Int)} {va : List Value} (h2 : ∀ i v, va[i]? = some v → PcVal w v (a.getD i [])) : ∀ v ∈ va, v.oneCell' = true := by
  intro v hv
  obtain ⟨i, hi⟩ := List.getElem?_of_mem hv
  obtain ⟨_, _, rfl, _⟩ := h2 i v hi
  rfl
set_option maxRecDepth 100000 in
set_option maxHeartbeats 4000000 in
theorem apart_walk (w : World) (A B : Option Addr) (N M C D : Nat) (ls ms : List (List Int)) (hN : ls.length = N) (hM : ms.length = M) (hl : Pieces w A C ls) (hm : Pieces w B D ms) :
    Calls Try.prog 6 #[.slice A N C, .slice B M D] w fun e w' => e = .returned (.bool true) ∧ Below w.heap.size w w' := by
  have hNm : N ≤ 9223372036854775807 := by rw [← hN]; exact hl.len
  have hMm : M ≤ 9223372036854775807 := by rw [← hM]; exact hm.len
  have HN := Lib.hid hN
  have HM := Lib.hid hM
  have HL := Lib.hid hl
  have HMs := Lib.hid hm
  clear hN hM hl hm
  by_cases hf1 : Few ls
  · by_cases hf2 : Few ms
    · obtain ⟨va, ha1, ha2, ha3⟩ := HL.out.ex
      obtain ⟨vb, hb1, hb2, hb3⟩ := HMs.out.ex
      have hn20 : N ≤ 20 := by rw [← HN.out]; exact hf1.2
      have hm20 : M ≤ 20 := by rw [← HM.out]; exact hf2.2
      have HVa := Lib.hid (ha1.trans HN.out)
      have HVb := Lib.hid (hb1.trans HM.out)
      have HA2 := Lib.hid ha2
      have HB2 := Lib.hid hb2
      have HA3 := Lib.hid ha3
      have HB3 := Lib.hid hb3
      have HA1 := Lib.hid ha1
      have HB1 := Lib.hid hb1
      clear ha1 ha2 ha3 hb1 hb2 hb3
      have hj1 := few_len hf1
      have hj2 := few_len hf2
      have HD := Lib.hid (decide_join (few_small hf1) (few_small hf2))
      have HF1 := Lib.hid (decide_eq_true hf1)
      have HF2 := Lib.hid (decide_eq_true hf2)
      have HJ1 := Lib.hid hj1
      have HJ2 := Lib.hid hj2
      clear hf1 hf2 hj1 hj2
      go_enter Try.func6, Try.ntmps6
      go_wp2_with fail
      refine (few_any w A N C ls HN.out HL.out).mono ?_
      rintro e w' ⟨rfl, rfl⟩
      rw [HF1.out]
      go_wp2_with fail
      refine (few_any w B M D ms HM.out HMs.out).mono ?_
      rintro e w' ⟨rfl, rfl⟩
      rw [HF2.out]
      go_wp2_with fail
      refine (join_any w A C N ls HN.out HL.out (by have := HJ1.out; omega)).mono ?_
      rintro e w1 ⟨s1, c1, rfl, hb1, hw1⟩
      have HW1 := Lib.hid hw1
      have HBy1 := Lib.hid hb1
      clear hb1 hw1
      go_wp2_with fail
      refine (join_any w1 B D M ms HM.out (HMs.out.below HW1.out) (by have := HJ2.out; omega)).mono ?_
      rintro e w2 ⟨s2, c2, rfl, hb2, hw2⟩
      have HBy1b := Lib.hid (HBy1.out.below hw2)
      have HW2 := Lib.hid (HW1.out.trans (hw2.mono HW1.out.size))
      have HBy2 := Lib.hid hb2
      clear hb2 hw2 HBy1
      have HVA2 := Lib.hid (HA2.out.below (Nat.le_refl _) HW2.out)
      have hone1 := Lib.hid (one_of HA3.out)
      have hone2 := Lib.hid (one_of HB3.out)
      obtain ⟨J1, hJ1⟩ : ∃ J, (join ls).length = J := ⟨_, rfl⟩
      obtain ⟨J2, hJ2⟩ : ∃ J, (join ms).length = J := ⟨_, rfl⟩
      rw [hJ1, hJ2]
      have hJ1b : J1 ≤ 14080 := by rw [← hJ1]; exact HJ1.out
      have hJ2b : J2 ≤ 14080 := by rw [← hJ2]; exact HJ2.out
      have HJ1e := Lib.hid hJ1
      have HJ2e := Lib.hid hJ2
      clear hJ1 hJ2
      go_upto_region 7 with (refine wpList_append_sl 22 23 24 (.slice none 0 0) Try.underlying22 info23 rfl (by decide) rfl (.tmp 22) (.tmp 23) rfl w2.heap.size (.slice none 0 0) 0 N [] va rfl (World.ownsRow_nil _ _ _ _) A C rfl HVa.out HVA2.out hone1.out (by omega) (Nat.le_refl _) ?_; intro v3 w3 hown3 hg3)
      simp only [List.nil_append, Nat.zero_add] at hown3
      have hw3 : Below w2.heap.size w2 w3 := Below.ofGrown hg3 (Nat.le_refl _) (fun _ h => by cases h)
      obtain ⟨s3, c3, rfl, _, _, _⟩ := Sl.all1 hown3
      have HW3 := Lib.hid hw3
      have HO3 := Lib.hid hown3
      have hsz3 : w2.heap.size ≤ w3.heap.size := hw3.size
      have HVB3 := Lib.hid (HB2.out.below (Nat.le_refl _) (HW2.out.trans (hw3.mono HW2.out.size)))
      clear hw3 hown3 hg3 HVA2
      go_upto_region 8 with (refine wpList_append_sl 22 23 24 (.slice none 0 0) Try.underlying22 info23 rfl (by decide) rfl (.tmp 25) (.tmp 26) rfl w2.heap.size (.slice s3 N c3) N M va vb rfl HO3.out B D rfl HVb.out HVB3.out hone2.out (by omega) hsz3 ?_; intro v4 w4 hown4 hg4)
      have hw4 : Below w2.heap.size w3 w4 := Below.ofGrown hg4 hsz3 (fun g e => (HO3.out.lt g e).1)
      obtain ⟨s4, c4, rfl, _, hsl4, _⟩ := Sl.all1 hown4
      have HW4 := Lib.hid (HW2.out.trans ((HW3.out.trans hw4).mono HW2.out.size))
      have HP4 := Lib.hid (Pieces.both HA1.out HA3.out HB1.out HB3.out HW4.out hsl4)
      have HBy14 := Lib.hid (HBy1b.out.below (HW3.out.trans hw4))
      have HBy24 := Lib.hid (HBy2.out.below (HW3.out.trans hw4))
      clear hw4 hown4 hg4 hsl4 HW3 HO3 HVB3 HBy1b HBy2 hsz3 hone1 hone2 HA2 HB2 HA3 HB3 HVa HVb
      have HJm1 := Lib.hid (show ((join ls).map (Value.int .u8)).length = J1 by rw [List.length_map, HJ1e.out])
      have HJm2 := Lib.hid (show ((join ms).map (Value.int .u8)).length = J2 by rw [List.length_map, HJ2e.out])
      go_upto_region 10 with (refine wpList_append_sl 23 5 1 (.int .u8 0) Try.underlying23 info5 rfl (by decide) rfl (.tmp 28) (.tmp 29) rfl w4.heap.size (.slice none 0 0) 0 J1 [] _ rfl (World.ownsRow_nil _ _ _ _) s1 c1 rfl HJm1.out HBy14.out.sl (map_one _) (by omega) (Nat.le_refl _) ?_; intro v5 w5 hown5 hg5)
      simp only [List.nil_append, Nat.zero_add] at hown5
      have hw5 : Below w4.heap.size w4 w5 := Below.ofGrown hg5 (Nat.le_refl _) (fun _ h => by cases h)
      obtain ⟨s5, c5, rfl, _, _, _⟩ := Sl.all1 hown5
      have HW5 := Lib.hid hw5
      have HO5 := Lib.hid hown5
      have hsz5 : w4.heap.size ≤ w5.heap.size := hw5.size
      have HBy25 := Lib.hid (HBy24.out.below hw5)
      clear hw5 hown5 hg5
      go_upto_region 11 with (refine wpList_append_sl 23 5 1 (.int .u8 0) Try.underlying23 info5 rfl (by decide) rfl (.tmp 31) (.tmp 32) rfl w4.heap.size (.slice s5 J1 c5) J1 J2 _ _ rfl HO5.out s2 c2 rfl HJm2.out HBy25.out.sl (map_one _) (by omega) hsz5 ?_; intro v6 w6 hown6 hg6)
      have hw6 : Below w4.heap.size w4 w6 := HW5.out.trans (Below.ofGrown hg6 hsz5 (fun g e => (HO5.out.lt g e).1))
      obtain ⟨s6, c6, rfl, _, hsl6, _⟩ := Sl.all1 hown6
      rw [← List.map_append, ← join_append] at hsl6
      have HW6 := Lib.hid (HW4.out.trans (hw6.mono HW4.out.size))
      have HP6 := Lib.hid (HP4.out.below hw6)
      have HBy16 := Lib.hid (HBy14.out.below hw6)
      have HBy26 := Lib.hid (HBy24.out.below hw6)
      have HR : Hid (rng (join (ls ++ ms))) := Lib.hid (by rw [join_append]; exact rng_append.2 ⟨HBy14.out.rng, HBy24.out.rng⟩)
      have HAll : Hid (Bytes w6 s6 c6 (join (ls ++ ms))) := Lib.hid ⟨hsl6, HR.out⟩
      have HLen := Lib.hid (show (join (ls ++ ms)).length = J1 + J2 by rw [join_append, List.length_append, HJ1e.out, HJ2e.out])
      have HNM := Lib.hid (show (ls ++ ms).length = N + M by rw [List.length_append, HN.out, HM.out])
      clear hw6 hown6 hg6 hsl6 HW5 HO5 HBy25 hsz5 HP4 HBy14 HBy24 HJm1 HJm2 HR
      go_wp2_with fail
      refine (bytes_any w6 s1 s2 J1 J2 c1 c2 (join ls) (join ms) HJ1e.out HJ2e.out HBy16.out HBy26.out).mono ?_
      rintro e w7 ht
      obtain ⟨rfl, hb7⟩ := ht.below
      rw [HD.out]
      have HW7 := Lib.hid (HW6.out.trans (hb7.mono HW6.out.size))
      have HP7 := Lib.hid (HP6.out.below hb7)
      have HAll7 := Lib.hid (HAll.out.below hb7)
      clear ht hb7 HP6 HAll HBy16 HBy26 HW6
      obtain ⟨X, hX⟩ : ∃ X, decide (ls = ms) = X := ⟨_, rfl⟩
      rw [hX]
      have HX := Lib.hid hX
      clear hX
      go_wp2_with fail
      refine (pieces_any w7 A B N M C D ls ms HN.out HM.out (HL.out.below HW7.out) (HMs.out.below HW7.out)).mono ?_
      rintro e w8 ht
      obtain ⟨rfl, hb8⟩ := ht.below
      rw [HX.out]
      have HW8 := Lib.hid (HW7.out.trans (hb8.mono HW7.out.size))
      have HP8 := Lib.hid (HP7.out.below hb8)
      have HAll8 := Lib.hid (HAll7.out.below hb8)
      clear ht hb8 HP7 HAll7 HW7
      have hxx : (X == X) = true := by simp
      go_wp2_with fail
      refine (join_any w8 s4 c4 (N + M) (ls ++ ms) HNM.out HP8.out (by rw [HLen.out]; omega)).mono ?_
      rintro e w9 ⟨s9, c9, rfl, hb9, hw9⟩
      rw [HLen.out]
      have HW9 := Lib.hid (HW8.out.trans (hw9.mono HW8.out.size))
      have HAll9 := Lib.hid (HAll8.out.below hw9)
      have HB9 := Lib.hid hb9
      clear hb9 hw9 HP8 HAll8 HW8
      go_wp2_with fail
      refine (bytes_any w9 s9 s6 (J1 + J2) (J1 + J2) c9 c6 _ _ HLen.out HLen.out HB9.out HAll9.out).mono ?_
      rintro e w10 ht
      obtain ⟨rfl, hb10⟩ := ht.below
      rw [decide_eq_true rfl]
      have HW10 := Lib.hid (HW9.out.trans (hb10.mono HW9.out.size))
      clear ht hb10 HW9
      go_wp2_with fail
      refine (awake_any w10).mono ?_
      rintro e w11 ⟨rfl, hb11⟩
      have HW11 := Lib.hid (HW10.out.trans (hb11.mono HW10.out.size))
      clear hb11
      go_wp2
      go_ret
      exact ⟨rfl, HW11.out⟩
    · have HF1 := Lib.hid (decide_eq_true hf1)
      have HF2 := Lib.hid (decide_eq_false hf2)
      clear hf1 hf2
      go_enter Try.func6, Try.ntmps6
      go_wp2_with fail
      refine (few_any w A N C ls HN.out HL.out).mono ?_
      rintro e w' ⟨rfl, rfl⟩
      rw [HF1.out]
      go_wp2_with fail
      refine (few_any w B M D ms HM.out HMs.out).mono ?_
      rintro e w' ⟨rfl, rfl⟩
      rw [HF2.out]
      go_wp2_with fail
      refine (awake_any w).mono ?_
      rintro e w1 ⟨rfl, hb1⟩
      go_wp2
      go_ret
      exact ⟨rfl, hb1⟩
  · have HF1 := Lib.hid (decide_eq_false hf1)
    clear hf1
    go_enter Try.func6, Try.ntmps6
    go_wp2_with fail
    refine (few_any w A N C ls HN.out HL.out).mono ?_
    rintro e w' ⟨rfl, rfl⟩
    rw [HF1.out]
    go_wp2_with fail
    refine (awake_any w).mono ?_
    rintro e w1 ⟨rfl, hb1⟩
    go_wp2
    go_ret
    exact ⟨rfl, hb1⟩
end Go.Proofs.Ythjcjjppjjpjfaa
