import Derived.Test.YtmolkbmdfkeniaaDoorNi
import Derived.Test.YtmolkbmdfkeniaaDoorRd
namespace Go.Proofs.YtmolkbmdfkeniaaDoor.Dr
set_option maxRecDepth 100000
open Go.ChangeShapes Go.WideShapes Go.ChangeAt Go.RowKit Go.Proofs.YtmolkbmdfkeniaaDoor.Tn

/-! ### the laws: what they stand on -/
theorem H1.grown {w W W' : World} {g : Nat} {s : List Int} (h : H1 w s W) (h2 : W.grownBy W' (some g)) (hg : w.heap.size < g) : H1 w s W' :=
  ⟨below_grown h.below h2 (by omega) (Nat.le_refl _), (h2.block _ h.d.lt (fun e => by have := Option.some.inj e; omega)).trans h.d⟩
theorem zs_seed : Seed (zs 32) := ⟨rfl, fun x hx => by have := List.eq_of_mem_replicate hx; omega⟩
theorem same_no (x : Int) : (x != x) = false := by simp
theorem same_yes (x : Int) : (x == x) = true := by simp
theorem wrap_in {x : Int} (h1 : -9223372036854775808 ≤ x) (h2 : x ≤ 9223372036854775807) : IntKind.i64.wrap x = x := IntWalk.i64_in _ ⟨h1, h2⟩
set_option maxHeartbeats 4000000 in
theorem awake_any {Pk : List Int → Prop} (T : DrawOK E8 numV St8 Pk) (hP : Pk [3, 9, 9]) (w : World) (he : E8 w) : Calls Tryd.prog 13 #[] w fun e w' => e = .returned (.bool true) ∧ Below w.heap.size w w' := by
  have HE := Lib.hid he
  have HT := Lib.hid T
  have HB1 := Lib.hid (below_one (numV (zs 32)) 4 (numV_in _ _).2 (by decide))
  have HP1 := Lib.hid (pick_first (numV (zs 32)) 5)
  have HPk : Hid (Pk [3, 9, 9]) := Lib.hid hP
  clear he T hP
  go_enter Tryd.func13, Tryd.ntmps13
  go_wp2_with (refine wpList_built rfl 23 _ rfl (rowB (zs 32)) (by kernel_rfl) ?_)
  refine (HT.out.new w (zs 32) 4 HE.out zs_seed (by omega) (by decide)).mono ?_
  rintro e w1 ⟨g, rfl, hg, hs1, hb1⟩
  have HS1 := Lib.hid hs1
  have HE1 := Lib.hid (HE.out.below hb1)
  have HBb := Lib.hid hb1
  clear hs1 hb1
  unfold ptV
  go_wp2_with fail
  refine (HT.out.below w1 g (zs 32) 4 1 HE1.out HS1.out (by omega) (by decide)).mono ?_
  rintro e w2 ⟨rfl, hs2, hg2⟩
  rw [HB1.out] at hs2 ⊢
  have HS2 : Hid (St8 w2 g (zs 32) 5) := Lib.hid hs2
  have HE2 := Lib.hid (HT.out.grown _ _ _ _ _ HE1.out HS1.out hg2)
  have HB2 := Lib.hid (below_grown HBb.out hg2 hg (Nat.le_refl _))
  clear hs2 hg2
  unfold two
  dsimp only
  go_wp2_with fail
  have hb3 : Below w2.heap.size w2 (w2.alloc (.cells #[.int .i64 3, .int .i64 9, .int .i64 9] 3)) := (Below.refl _ _).alloc (Nat.le_refl _) _
  have n3 := Tn.nums_new w2 [3, 9, 9] #[.int .i64 3, .int .i64 9, .int .i64 9] 3 rfl rfl (by omega)
  have HS3 := Lib.hid (HS2.out.later hb3)
  have HE3 := Lib.hid (HE2.out.below hb3)
  have HB3 := Lib.hid (HB2.out.trans (hb3.mono HB2.out.size))
  refine (HT.out.pick _ g (zs 32) 5 _ 3 [3, 9, 9] 1 HE3.out HS3.out n3 HPk.out (by omega) (by decide)).mono ?_
  rintro e w4 ⟨rfl, hs4, hg4⟩
  rw [HP1.out] at hs4 ⊢
  have HS4 : Hid (St8 w4 g (zs 32) 5) := Lib.hid hs4
  have HE4 := Lib.hid (HT.out.grown _ _ _ _ _ HE3.out HS3.out hg4)
  have HB4 := Lib.hid (below_grown HB3.out hg4 hg (Nat.le_refl _))
  clear hs4 hg4 hb3 n3
  unfold two
  dsimp only
  go_wp2_with fail
  refine (HT.out.count w4 g (zs 32) 5 HE4.out HS4.out).mono ?_
  rintro e w5 ⟨rfl, hb5⟩
  have HB5 := Lib.hid (HB4.out.trans (hb5.mono HB4.out.size))
  clear hb5
  go_wp2
  go_ret
  exact ⟨rfl, HB5.out⟩
end Go.Proofs.YtmolkbmdfkeniaaDoor.Dr
