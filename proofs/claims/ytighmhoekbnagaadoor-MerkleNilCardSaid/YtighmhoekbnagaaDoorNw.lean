import Derived.Test.YtighmhoekbnagaaDoorNa
namespace Go.Proofs.YtighmhoekbnagaaDoor
open Go.ChangeShapes Go.WideShapes Go.ChangeAt Go.RowKit

set_option maxRecDepth 100000 in
set_option maxHeartbeats 4000000 in
theorem nil_walk (w : World) (i : Int) (s : Option Addr) (n c : Nat) (he : Env w) (hn : n ≤ 9223372036854775807) :
    Calls Tryd.prog 8 #[.int .i64 i, .slice s n c] w fun e w' => e = .returned (.bool true) ∧ Below w.heap.size w w' := by
  have HE := Lib.hid he
  clear he
  by_cases h100 : 100 < n
  · have hd : decide ((100 : Int) < (n : Int)) = true := by simp; omega
    go_enter Tryd.func8, Tryd.ntmps8
    go_wp2_with (go_at_call 10; refine (awake_any _ HE.out).mono ?_; rintro e w' ⟨rfl, hb⟩)
    go_ret
    exact ⟨rfl, hb⟩
  · have hd : decide ((100 : Int) < (n : Int)) = false := by simp; omega
    have hr := rootD_length []
    obtain ⟨R, hR⟩ : ∃ R, rootD [] = R := ⟨_, rfl⟩
    have HRt := Lib.hid (fun W v (hb : Below w.heap.size w W) hv => troot_none W v (HE.out.below hb) hv)
    have HRn := Lib.hid (fun W (hb : Below w.heap.size w W) => root_none W none 0 (HE.out.below hb))
    rw [hR] at hr HRt HRn
    clear hR
    have eR : ∀ W : World, (binOp .eql 24 (.agg (rowB R)) (.agg (rowB R))).run Tryd.prog W = .ok (.bool true) W := fun W => by
      rw [run_eql_row (P := Tryd.prog) 24 5 32 .u8 Tryd.underlying24 Tryd.underlying5 size5 R R hr hr W]
      simp
    clear hr
    go_enter Tryd.func8, Tryd.ntmps8
    go_upto_region 6 with (first
      | (go_at_call 30; refine (get_nil _ _).mono ?_; rintro e w' ⟨rfl, rfl⟩)
      | (go_at_call 26; refine (tprove_nil _ _).mono ?_; rintro e w1 ⟨rfl, hb1⟩; have HB1 := Lib.hid hb1; clear hb1))
    go_wp2_with fail
    refine (tlen_nil _).mono ?_
    rintro e w' ⟨rfl, rfl⟩
    go_wp2_with fail
    refine (set_nil _ _ _ _ _).mono ?_
    rintro e w' ⟨rfl, rfl⟩
    go_wp2_with fail
    refine (HRt.out _ _ HB1.out (.inl rfl)).mono ?_
    rintro e w2 ⟨rfl, hb2⟩
    have HB2 := Lib.hid (HB1.out.trans (hb2.mono HB1.out.size))
    clear hb2
    go_wp2_with fail
    refine (HRn.out _ HB2.out).mono ?_
    rintro e w3 ⟨rfl, hb3⟩
    have HB3 := Lib.hid (HB2.out.trans (hb3.mono HB2.out.size))
    clear hb3
    go_wp2_with fail
    refine (new_none _).mono ?_
    rintro e w4 ⟨⟨p, s4, c4, rfl, hc4⟩, hb4⟩
    have HB4 := Lib.hid (HB3.out.trans (hb4.mono HB3.out.size))
    have HC4 := Lib.hid hc4
    clear hb4 hc4
    go_wp2_with fail
    refine (HRt.out w4 (.pointer (some ⟨p, 0, none⟩)) HB4.out (.inr ⟨p, s4, c4, rfl, HC4.out⟩)).mono ?_
    rintro e w5 ⟨rfl, hb5⟩
    have HB5 := Lib.hid (HB4.out.trans (hb5.mono HB4.out.size))
    clear hb5
    go_wp2_with fail
    refine (HRt.out _ _ HB5.out (.inl rfl)).mono ?_
    rintro e w6 ⟨rfl, hb6⟩
    have HB6 := Lib.hid (HB5.out.trans (hb6.mono HB5.out.size))
    clear hb6
    go_wp2_with fail
    refine (awake_any _ (HE.out.below HB6.out)).mono ?_
    rintro e w7 ⟨rfl, hb7⟩
    have HB7 := Lib.hid (HB6.out.trans (hb7.mono HB6.out.size))
    clear hb7
    go_wp2
    go_ret
    exact ⟨rfl, HB7.out⟩
end Go.Proofs.YtighmhoekbnagaaDoor
