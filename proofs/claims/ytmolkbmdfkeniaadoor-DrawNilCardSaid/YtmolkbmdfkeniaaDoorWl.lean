import Derived.Test.YtmolkbmdfkeniaaDoorWa
namespace Go.Proofs.YtmolkbmdfkeniaaDoor.Dr
set_option maxRecDepth 100000
open Go.ChangeShapes Go.WideShapes Go.ChangeAt Go.RowKit Go.Proofs.YtmolkbmdfkeniaaDoor.Tn

set_option maxHeartbeats 4000000 in
theorem nil_walk {Pk : List Int → Prop} (T : DrawOK E8 numV St8 Pk) (hP : Pk [3, 9, 9]) (w : World) (sp : Option Addr) (cap N : Nat) (n : Int) (hNm : N ≤ 9223372036854775807) (he : E8 w) : Calls Tryd.prog 9 #[.slice sp N cap, .int .i64 n] w fun e w' => e = .returned (.bool true) ∧ Below w.heap.size w w' := by
  have HE := Lib.hid he
  have HT := Lib.hid T
  have HPk : Hid (Pk [3, 9, 9]) := Lib.hid hP
  have HB0 := Lib.hid (Below.refl w.heap.size w)
  clear he T hP
  by_cases hz : 20 < N
  · have d2 : decide ((20 : Int) < (N : Int)) = true := by simp; omega
    go_enter Tryd.func9, Tryd.ntmps9
    go_wp2_with fail
    refine (awake_any HT.out HPk.out _ HE.out).mono ?_
    rintro e wa ⟨rfl, hba⟩
    have HBa := Lib.hid ((HB0.out).trans (hba.mono (HB0.out).size))
    clear hba
    go_wp2
    go_ret
    exact ⟨rfl, HBa.out⟩
  · have d2 : decide ((20 : Int) < (N : Int)) = false := by simp; omega
    go_enter Tryd.func9, Tryd.ntmps9
    go_wp2_with fail
    refine (HT.out.nilNext _).mono ?_
    rintro e w1 ⟨rfl, hb1⟩
    have HB1 := Lib.hid (HB0.out.trans (hb1.mono HB0.out.size))
    clear hb1
    unfold two
    go_wp2_with fail
    refine (HT.out.nilBelow _ n).mono ?_
    rintro e w2 ⟨rfl, hb2⟩
    have HB2 := Lib.hid (HB1.out.trans (hb2.mono HB1.out.size))
    clear hb2
    unfold two
    go_wp2_with fail
    refine (HT.out.nilChoose _ sp N cap).mono ?_
    rintro e w3 ⟨rfl, hb3⟩
    have HB3 := Lib.hid (HB2.out.trans (hb3.mono HB2.out.size))
    clear hb3
    unfold two
    go_wp2_with fail
    refine (HT.out.nilPick _ sp N cap n).mono ?_
    rintro e w4 ⟨rfl, hb4⟩
    have HB4 := Lib.hid (HB3.out.trans (hb4.mono HB3.out.size))
    clear hb4
    unfold two
    go_wp2_with fail
    refine (HT.out.nilCount _).mono ?_
    rintro e w5 ⟨rfl, hb5⟩
    have HB5 := Lib.hid (HB4.out.trans (hb5.mono HB4.out.size))
    clear hb5
    go_wp2_with fail
    refine (awake_any HT.out HPk.out _ (HE.out.below HB5.out)).mono ?_
    rintro e wa ⟨rfl, hba⟩
    have HBa := Lib.hid ((HB5.out).trans (hba.mono (HB5.out).size))
    clear hba
    go_wp2
    go_ret
    exact ⟨rfl, HBa.out⟩
end Go.Proofs.YtmolkbmdfkeniaaDoor.Dr
