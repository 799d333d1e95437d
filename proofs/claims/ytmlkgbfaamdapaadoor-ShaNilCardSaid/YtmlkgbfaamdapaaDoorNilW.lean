import Derived.Test.YtmlkgbfaamdapaaDoorO
namespace Go.Proofs.YtmlkgbfaamdapaaDoor
open Go.ChangeShapes Go.WideShapes Go.ChangeAt Go.RowKit

set_option maxRecDepth 100000 in
set_option maxHeartbeats 2000000 in
theorem nil_walk (w : World) (sp : Option Addr) (m cap : Nat) (he : Env w) (_hm : m ≤ 9223372036854775807) :
    Calls Tryd.prog 7 #[.slice sp m cap] w fun e w' => e = .returned (.bool true) ∧ Below w.heap.size w w' := by
  have HE := Lib.hid he
  clear he
  by_cases h : 200 < m
  · have hd : decide ((200 : Int) < (m : Int)) = true := by simp; omega
    go_enter Tryd.func7, Tryd.ntmps7
    go_wp2_with fail
    refine (awake_any w HE.out).mono ?_
    rintro e w1 ⟨rfl, hb1⟩
    go_wp2
    go_ret
    exact ⟨rfl, hb1⟩
  · have hd : decide ((200 : Int) < (m : Int)) = false := by simp; omega
    obtain ⟨F, hF⟩ : ∃ F, sum [] = F := ⟨_, rfl⟩
    have heq : ∀ w, (binOp .eql 25 (.agg (rowB F)) (.agg (rowB F))).run Tryd.prog w = .ok (.bool true) w := by rw [← hF]; exact eq_sum []
    have HF := Lib.hid hF
    clear hF
    go_enter Tryd.func7, Tryd.ntmps7
    go_wp2_with fail
    refine (write_nil w _).mono ?_
    rintro e w0 ⟨rfl, rfl⟩
    go_wp2_with fail
    refine (hash_sum_nil w HE.out).mono ?_
    rintro e w1 ⟨rfl, hb1⟩
    rw [HF.out]
    have HE1 := Lib.hid (HE.out.below hb1)
    go_wp2_with fail
    refine (sum_any w1 none 0 0 [] rfl (Bytes.nil _) HE1.out (by omega)).mono ?_
    rintro e w2 ⟨rfl, hb2⟩
    rw [HF.out]
    have HE2 := Lib.hid (HE1.out.below hb2)
    have HB2 := Lib.hid (hb1.trans (hb2.mono hb1.size))
    clear hb1 hb2 HE1
    go_wp2_with fail
    refine (len_nil w2).mono ?_
    rintro e w0 ⟨rfl, rfl⟩
    go_wp2_with fail
    refine (new_any w2 HE2.out).mono ?_
    rintro e w3 ⟨rfl, rfl⟩
    have hb3 : Below w2.heap.size w2 (w2.alloc (.cells newRow 53)) := (Below.refl _ _).alloc (Nat.le_refl _) _
    have HH := Lib.hid (HashAt.new w2)
    have HE3 := Lib.hid (HE2.out.below hb3)
    have HB3 := Lib.hid (HB2.out.trans (hb3.mono HB2.out.size))
    clear hb3
    go_wp2_with fail
    refine (hash_sum _ _ [] HH.out HE3.out (by simp)).mono ?_
    rintro e w4 ⟨rfl, hb4⟩
    rw [HF.out]
    have HE4 := Lib.hid (HE3.out.below hb4)
    have HB4 := Lib.hid (HB3.out.trans (hb4.mono HB3.out.size))
    clear hb4
    go_wp2_with fail
    refine (hash_sum_nil w4 HE4.out).mono ?_
    rintro e w5 ⟨rfl, hb5⟩
    rw [HF.out]
    have HE5 := Lib.hid (HE4.out.below hb5)
    have HB5 := Lib.hid (HB4.out.trans (hb5.mono HB4.out.size))
    clear hb5
    go_wp2_with fail
    refine (awake_any w5 HE5.out).mono ?_
    rintro e w6 ⟨rfl, hb6⟩
    have HB6 := Lib.hid (HB5.out.trans (hb6.mono HB5.out.size))
    clear hb6
    go_wp2
    go_ret
    exact ⟨rfl, HB6.out⟩
end Go.Proofs.YtmlkgbfaamdapaaDoor
