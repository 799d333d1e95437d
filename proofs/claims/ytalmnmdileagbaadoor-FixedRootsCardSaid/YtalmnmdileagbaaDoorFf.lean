import Derived.Test.YtalmnmdileagbaaDoorFe
namespace Go.Proofs.YtalmnmdileagbaaDoor.Fx
open Go.ChangeShapes Go.WideShapes Go.ChangeAt Go.RowKit

/-- the worlds that a call may leave, as a type -/
structure Blw (w : World) where
  W : World
  h : Below w.heap.size w W
instance (w : World) : Nonempty (Blw w) := ⟨⟨w, Below.refl _ _⟩⟩
theorem Blw.size {w : World} (n : Blw w) : w.heap.size ≤ n.W.heap.size := n.h.size
theorem Blw.call {P : Program} {f : FuncId} {args : Array Value} {w : World} {n : Blw w} {v : Value}
    (h : Calls P f args n.W fun e w' => e = .returned v ∧ Below n.W.heap.size n.W w') : Calls P f args n.W fun e w'' => e = .returned v ∧ ∃ m : Blw w, w'' = m.W :=
  h.mono fun _ _ ⟨he, hb⟩ => ⟨he, ⟨_, n.h.trans (hb.mono n.h.size)⟩, rfl⟩
theorem Blw.same {P : Program} {f : FuncId} {args : Array Value} {w : World} {n : Blw w} {v : Value}
    (h : Calls P f args n.W fun e w' => e = .returned v ∧ n.W = w') : Calls P f args n.W fun e w'' => e = .returned v ∧ ∃ m : Blw w, w'' = m.W :=
  h.mono fun _ _ ⟨he, hb⟩ => ⟨he, n, hb.symm⟩
theorem Blw.env {w : World} (he : Env w) (n : Blw w) : Env n.W := he.below n.h
theorem Blw.first (w : World) : ∃ n : Blw w, ({ w with drawn := w.drawn + 1 } : World) = n.W := ⟨⟨{ w with drawn := w.drawn + 1 }, ⟨rfl, rfl, rfl, Nat.le_refl _, fun _ _ => rfl⟩⟩, rfl⟩

set_option maxRecDepth 100000 in
set_option maxHeartbeats 4000000 in
theorem awake_any (w : World) (he : Env w) : Calls Tryd.prog 14 #[] w fun e w' => e = .returned (.bool true) ∧ Below w.heap.size w w' := by
  have HE := Lib.hid he
  clear he
  go_enter Tryd.func14, Tryd.ntmps14
  go_wp2_with fail
  refine (mul_any _ 98304 131072).mono ?_
  rintro e w1 ⟨rfl, hb1⟩
  rw [show mulR 98304 131072 = 196608 by kernel_rfl, show mulE 98304 131072 = 0 by kernel_rfl]
  have HE1 := Lib.hid (HE.out.below hb1)
  have HB1 := Lib.hid hb1
  clear hb1
  go_wp2_with fail
  refine (root_any _ 131072).mono ?_
  rintro e w2 ⟨rfl, hb2⟩
  rw [show rootR 131072 = 92681 by kernel_rfl, show rootE 131072 = 0 by kernel_rfl]
  have HE2 := Lib.hid (HE1.out.below hb2)
  have HB2 := Lib.hid (HB1.out.trans (hb2.mono HB1.out.size))
  clear hb2
  go_wp2_with fail
  refine (exp_any _ (-65536) HE2.out (by omega)).mono ?_
  rintro e w3 ⟨rfl, rfl⟩
  rw [show expR (-65536) = 24109 by kernel_rfl, show expE (-65536) = 0 by kernel_rfl]
  go_wp2_with fail
  refine (gate_any _ 0 HE2.out).mono ?_
  rintro e w4 ⟨rfl, hb4⟩
  rw [show gateR 0 = 0 by kernel_rfl, show gateE 0 = 0 by kernel_rfl]
  have HB4 := Lib.hid (HB2.out.trans (hb4.mono HB2.out.size))
  clear hb4
  go_wp2
  go_ret
  exact ⟨rfl, HB4.out⟩
set_option maxRecDepth 100000 in
set_option maxHeartbeats 4000000 in
theorem told_any (w : World) (v : Int) : Calls Tryd.prog 15 #[.int .i64 (res v), .int .i64 (err v), .int .i64 v] w fun e w' => e = .returned (.bool true) ∧ w = w' := by
  unfold res err
  by_cases h : isN v
  · rw [if_pos h, if_pos h]
    have HI := Lib.hid (isB_yes h)
    clear h
    go_enter Tryd.func15, Tryd.ntmps15
    go_wp2_with fail
    refine (is_any _ v).mono ?_
    rintro e w' ⟨rfl, rfl⟩
    rw [HI.out]
    go_wp2
    go_ret
    exact ⟨rfl, rfl⟩
  · rw [if_neg h, if_neg h]
    have HI := Lib.hid (isB_no h)
    clear h
    go_enter Tryd.func15, Tryd.ntmps15
    go_wp2_with fail
    refine (is_any _ v).mono ?_
    rintro e w' ⟨rfl, rfl⟩
    rw [HI.out]
    go_wp2
    go_ret
    exact ⟨rfl, rfl⟩
theorem check_any (w : World) (n : Int) (c : Int) (h : (if isN n then 0 else 10) = c) : Calls Tryd.prog 13 #[.int .i64 n] w fun e w' => e = .returned (.int .i64 c) ∧ Below w.heap.size w w' := by
  by_cases hn : isN n
  · rw [if_pos hn] at h
    subst h
    exact chk_ok w n hn
  · rw [if_neg hn] at h
    subst h
    exact chk_no w n hn
end Go.Proofs.YtalmnmdileagbaaDoor.Fx
