/- Pools of rows in pages: the walk of KvNil. -/
import Derived.Test.YtacokklgmhmdeaaLc
import Derived.Test.YtacokklgmhmdeaaSh
import Derived.Test.YtacokklgmhmdeaaIg
namespace Go.Proofs.Ytacokklgmhmdeaa.Kv
set_option maxRecDepth 100000
open Go.ChangeShapes Go.WideShapes Go.ChangeAt Go.RowKit Go.Proofs.Ytacokklgmhmdeaa.Tn
def ns0 : Doc ByteArray := ⟨1, 1, []⟩
def ns1 : Doc ByteArray := ⟨1, 1, [some ([], [])]⟩
def ns2 (s : ByteArray) : Doc ByteArray := ⟨1, 1, [some ([s], [0])]⟩
theorem nsE0 : openD ns0 = ((0, 0), ns1) := by rfl
theorem nsE1 (s : ByteArray) : appendD ns1 0 s = (0, ns2 s) := by rfl
theorem nsE2 (s : ByteArray) : appendD (ns2 s) 0 s = (16, ns2 s) := by kernel_rfl
theorem nsE3 (s : ByteArray) : S.getD (ns2 s) 0 0 = (s, 0) := by rfl
set_option maxHeartbeats 4000000 in
theorem nil_walk (w : World) (s : ByteArray) (n : Int) : Calls Try.prog 7 #[.string s, .int .i64 n] w fun e w' => e = .returned (.bool true) ∧ Below w.heap.size w w' := by
  have hR := Lib.hid (callsIn_wide.1 (row_in w (.pointer none) n [] (by simp) (I.all_nil _ n)))
  go_enter Try.func7, Try.ntmps7
  go_wp2_with fail
  refine hR.out.mono ?_
  rintro e w1 ⟨sq, cq, b', rfl, _, _, k1⟩
  have B1 := Lib.hid k1
  clear k1 hR
  go_wp2_with fail
  refine (I.open_nil w1).mono ?_
  rintro e w2 ⟨rfl, rfl⟩
  go_wp2_with fail
  refine (I.share_nil w1 n n).mono ?_
  rintro e w2 ⟨rfl, rfl⟩
  go_wp2_with fail
  refine (I.get_nil w1 n n).mono ?_
  rintro e w2 ⟨rfl, rfl⟩
  go_wp2_with fail
  refine (I.len_nil w1 n).mono ?_
  rintro e w2 ⟨rfl, rfl⟩
  go_wp2_with fail
  refine (I.append_nil w1 n n).mono ?_
  rintro e w2 ⟨rfl, rfl⟩
  go_wp2_with fail
  refine (I.close_nil w1 n).mono ?_
  rintro e w2 ⟨rfl, rfl⟩
  go_wp2_with fail
  refine (I.pages_nil w1 n).mono ?_
  rintro e w2 ⟨rfl, rfl⟩
  go_wp2_with fail
  refine (I.count_nil w1 n).mono ?_
  rintro e w2 ⟨rfl, rfl⟩
  go_wp2_with fail
  refine (I.freeD_nil w1).mono ?_
  rintro e w2 ⟨rfl, rfl⟩
  go_wp2_with fail
  refine (S.new_any w1 bare (bare_fits w1) 1 1 (by omega) (by omega) (by omega) (by omega)).mono ?_
  rintro e w2 ⟨g, τ2, rfl, k1, k2⟩
  have H2 : Hid (Pool S.kind w2 τ2 g ns0) := Lib.hid k1
  have S2 : Hid (Step Tag.mine bare τ2 w1 w2) := Lib.hid (k2.mono fun _ _ => rfl)
  clear k1 k2
  have C2 := S.openD_any H2.out
  rw [nsE0] at C2
  have HC2 := Lib.hid C2
  clear C2
  go_wp2_with fail
  refine HC2.out.mono ?_
  rintro e w3 ⟨rfl, τ3, k1, k2⟩
  have H3 := Lib.hid k1
  have S3 := Lib.hid (S2.out.trans k2)
  clear k1 k2 HC2 H2 S2
  have C3 := S.append_any H3.out 0 s
  rw [nsE1] at C3
  have HC3 := Lib.hid C3
  clear C3
  go_wp2_with fail
  refine HC3.out.mono ?_
  rintro e w4 ⟨rfl, τ4, k1, k2⟩
  have H4 := Lib.hid k1
  have S4 := Lib.hid (S3.out.trans k2)
  clear k1 k2 HC3 H3 S3
  have C4 := S.append_any H4.out 0 s
  rw [nsE2] at C4
  have HC4 := Lib.hid C4
  clear C4
  go_wp2_with fail
  refine HC4.out.mono ?_
  rintro e w5 ⟨rfl, τ5, k1, k2⟩
  have H5 := Lib.hid k1
  have S5 := Lib.hid (S4.out.trans k2)
  clear k1 k2 HC4 H4 S4
  have C5 := S.getD_any H5.out 0 0
  rw [nsE3] at C5
  have HC5 := Lib.hid C5
  clear C5
  go_wp2_with fail
  refine HC5.out.mono ?_
  rintro e w6 ⟨rfl, m, rfl⟩
  have B5 : Hid (Below w.heap.size w (w5.drewN m)) := Lib.hid (below_drewN (B1.out.trans (S5.out.bare.mono B1.out.size)) m)
  clear HC5 H5 S5
  go_wp2_with fail
  refine (awake_any _).mono ?_
  rintro e w7 ⟨rfl, k1⟩
  have B7 := Lib.hid (B5.out.trans (k1.mono B5.out.size))
  clear k1
  go_wp2
  go_ret
  exact ⟨rfl, B7.out⟩
end Go.Proofs.Ytacokklgmhmdeaa.Kv
