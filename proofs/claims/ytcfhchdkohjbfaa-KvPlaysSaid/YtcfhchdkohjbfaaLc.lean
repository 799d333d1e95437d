/- Pools of rows in pages: the laws' ints, and awake. -/
import Derived.Test.YtcfhchdkohjbfaaLb
import Derived.Test.YtcfhchdkohjbfaaYg
namespace Go.Proofs.Ytcfhchdkohjbfaa.Kv
set_option maxRecDepth 100000
open Go.ChangeShapes Go.WideShapes Go.ChangeAt Go.RowKit Go.Proofs.Ytcfhchdkohjbfaa.Tn
theorem Row.nums {w : World} {sp : Option Addr} {n cap : Nat} {b : Option Nat} {l : List Int} (h : Row w 3 (.slice sp n cap) b (l.map (Value.int .i64))) : Nums w sp cap l ∧ l.length = n := by
  obtain ⟨sp', cap', e, hs⟩ := h.sl
  injection e with e1 e2 e3
  subst e1
  subst e3
  exact ⟨hs, by simpa using e2.symm⟩
theorem nat_row (P : List Nat) : P.map natV = (P.map fun k : Nat => (k : Int)).map (Value.int .i64) := by rw [List.map_map]; rfl
set_option maxHeartbeats 4000000 in
theorem ints_same (w : World) (sp sq : Option Addr) (cap caq N : Nat) (l : List Int) (hN : l.length = N) (hl : Nums w sp cap l) (hm : Nums w sq caq l) :
    Calls Try.prog 16 #[.slice sp N cap, .slice sq N caq] w fun e w' => e = .returned (.bool true) ∧ ∃ m, w' = w.drewN m := by
  have hNm : N ≤ 9223372036854775807 := by rw [← hN]; exact hl.len
  have HL := Lib.hid hl
  have HM := Lib.hid hm
  have HN := Lib.hid hN
  clear hl hm hN
  go_enter Try.func16, Try.ntmps16
  go_wp2
  go_loopw [5] (fun i wr => ∃ k m : Nat, k ≤ N ∧ i = .int .i64 k ∧ wr = w.drewN m) (fun i _ => N - (intOf i).toNat)
  case atStart => exact ⟨0, 0, by omega, rfl, rfl⟩
  case round =>
    obtain ⟨k, m, hk, rfl, rfl⟩ := hrel
    by_cases hlt : k < N
    · have hdt : decide (k < N) = true := by simp; omega
      obtain ⟨g, o, rfl, hc⟩ := HL.out.at_ k (by rw [HN.out]; exact hlt)
      obtain ⟨g2, o2, rfl, hc2⟩ := HM.out.at_ k (by rw [HN.out]; exact hlt)
      obtain ⟨x, hx⟩ : ∃ x, l.getD k 0 = x := ⟨_, rfl⟩
      rw [hx] at hc hc2
      have hxx : (x != x) = false := by simp
      clear hx
      go_wp2
      go_quiet (fail)
      go_wp2
      go_roundw
      case rel => exact ⟨k + 1, _, by omega, by go_num, rfl⟩
      case measure => simp [intOf]; omega
    · have hdf : decide (k < N) = false := by simp; omega
      go_wp2
      go_ret
      exact ⟨rfl, m, rfl⟩
theorem Step.mono {M M' : Tag → Bool} {τ τ' : Tags} {w w' : World} (h : Step M τ τ' w w') (hM : ∀ t, M' t = false → M t = false) : Step M' τ τ' w w' :=
  ⟨h.os, h.tape, h.output, h.size, h.tags, fun c hc ht => h.block c hc fun t htt => hM t (ht t htt)⟩
/-- nothing is tagged -/
def bare : Tags := fun _ => none
theorem bare_fits (w : World) : Fits bare w := fun _ _ h => by cases h
theorem Step.bare {M : Tag → Bool} {τ' : Tags} {w w' : World} (h : Step M bare τ' w w') : Below w.heap.size w w' := ⟨h.os, h.tape, h.output, h.size, fun c hc => h.block c hc fun _ ht => by cases ht⟩
def aw0 : Doc Int := ⟨2, 2, []⟩
def aw1 : Doc Int := ⟨2, 2, [some ([], [])]⟩
def aw2 : Doc Int := ⟨2, 2, [some ([97], [0])]⟩
def aw3 : Doc Int := ⟨2, 2, [some ([97, 98], [0])]⟩
def aw4 : Doc Int := ⟨2, 2, [some ([97, 98, 99], [0, 1])]⟩
def aw5 : Doc Int := ⟨2, 2, [some ([97, 98, 99], [0, 1]), some ([97, 98, 99], [0, 1])]⟩
def aw6 : Doc Int := ⟨2, 2, [none, some ([97, 98, 99], [0, 1])]⟩
def aw7 : Doc Int := ⟨2, 2, [none, some ([97, 98, 99, 100], [0, 1])]⟩
theorem awE0 : openD aw0 = ((0, 0), aw1) := by rfl
theorem awE1 : appendD aw1 0 97 = (0, aw2) := by rfl
theorem awE2 : appendD aw2 0 98 = (0, aw3) := by rfl
theorem awE3 : appendD aw3 0 99 = (0, aw4) := by rfl
theorem awE4 : shareD aw4 0 3 = ((1, 0), aw5) := by rfl
theorem awE5 : appendD aw5 1 100 = (16, aw5) := by rfl
theorem awE6 : closeD aw5 0 = (0, aw6) := by rfl
theorem awE7 : appendD aw6 1 100 = (0, aw7) := by rfl
theorem awE8 : (rowAt aw7 1).elim [] (·.2) = [0, 1] := by rfl
set_option maxHeartbeats 4000000 in
theorem awake_any (w : World) : Calls Try.prog 8 #[] w fun e w' => e = .returned (.bool true) ∧ Below w.heap.size w w' := by
  go_enter Try.func8, Try.ntmps8
  go_wp2_with fail
  refine (Y.new_any w bare (bare_fits w) 2 2 (by omega) (by omega) (by omega) (by omega)).mono ?_
  rintro e w1 ⟨g, τ1, rfl, k1, k2⟩
  have H1 : Hid (Pool Y.kind w1 τ1 g aw0) := Lib.hid k1
  have S1 : Hid (Step Tag.mine bare τ1 w w1) := Lib.hid (k2.mono fun _ _ => rfl)
  clear k1 k2
  have C1 := Y.openD_any H1.out
  rw [awE0] at C1
  have HC1 := Lib.hid C1
  clear C1
  go_wp2_with fail
  refine HC1.out.mono ?_
  rintro e w2 ⟨rfl, τ2, k1, k2⟩
  have H2 := Lib.hid k1
  have S2 := Lib.hid (S1.out.trans k2)
  clear k1 k2 HC1 H1 S1
  have C2 := Y.append_any H2.out 0 97
  rw [awE1] at C2
  have HC2 := Lib.hid C2
  clear C2
  go_wp2_with fail
  refine HC2.out.mono ?_
  rintro e w3 ⟨rfl, τ3, k1, k2⟩
  have H3 := Lib.hid k1
  have S3 := Lib.hid (S2.out.trans k2)
  clear k1 k2 HC2 H2 S2
  have C3 := Y.append_any H3.out 0 98
  rw [awE2] at C3
  have HC3 := Lib.hid C3
  clear C3
  go_wp2_with fail
  refine HC3.out.mono ?_
  rintro e w4 ⟨rfl, τ4, k1, k2⟩
  have H4 := Lib.hid k1
  have S4 := Lib.hid (S3.out.trans k2)
  clear k1 k2 HC3 H3 S3
  have C4 := Y.append_any H4.out 0 99
  rw [awE3] at C4
  have HC4 := Lib.hid C4
  clear C4
  go_wp2_with fail
  refine HC4.out.mono ?_
  rintro e w5 ⟨rfl, τ5, k1, k2⟩
  have H5 := Lib.hid k1
  have S5 := Lib.hid (S4.out.trans k2)
  clear k1 k2 HC4 H4 S4
  have C5 := Y.shareD_any H5.out 0 3
  rw [awE4] at C5
  have HC5 := Lib.hid C5
  clear C5
  go_wp2_with fail
  refine HC5.out.mono ?_
  rintro e w6 ⟨rfl, τ6, k1, k2⟩
  have H6 := Lib.hid k1
  have S6 := Lib.hid (S5.out.trans k2)
  clear k1 k2 HC5 H5 S5
  have C6 := Y.append_any H6.out 1 100
  rw [awE5] at C6
  have HC6 := Lib.hid C6
  clear C6
  go_wp2_with fail
  refine HC6.out.mono ?_
  rintro e w7 ⟨rfl, τ7, k1, k2⟩
  have H7 := Lib.hid k1
  have S7 := Lib.hid (S6.out.trans k2)
  clear k1 k2 HC6 H6 S6
  have C7 := Y.closeD_any H7.out 0
  rw [awE6] at C7
  have HC7 := Lib.hid C7
  clear C7
  go_wp2_with fail
  refine HC7.out.mono ?_
  rintro e w8 ⟨rfl, τ8, k1, k2⟩
  have H8 := Lib.hid k1
  have S8 := Lib.hid (S7.out.trans k2)
  clear k1 k2 HC7 H7 S7
  have C8 := Y.append_any H8.out 1 100
  rw [awE7] at C8
  have HC8 := Lib.hid C8
  clear C8
  go_wp2_with fail
  refine HC8.out.mono ?_
  rintro e w9 ⟨rfl, τ9, k1, k2⟩
  have H9 := Lib.hid k1
  have S9 := Lib.hid (S8.out.trans k2)
  clear k1 k2 HC8 H8 S8
  have C9 := Y.pages_any H9.out 1
  rw [awE8] at C9
  have HC9 := Lib.hid C9
  clear C9
  go_wp2_with fail
  refine HC9.out.mono ?_
  rintro e w10 ⟨sq, cq, b', rfl, k1, k2⟩
  have K1 := Lib.hid k1
  have K2 := Lib.hid k2
  clear k1 k2
  go_wp2_with fail
  have hb10 : Below w10.heap.size w10 (w10.alloc (.cells #[Value.int IntKind.i64 0, Value.int IntKind.i64 1] 3)) := (Below.refl _ _).alloc (Nat.le_refl _) _
  have h1 : Nums (w10.alloc (.cells #[Value.int IntKind.i64 0, Value.int IntKind.i64 1] 3)) sq cq [0, 1] := (Row.nums (l := [0, 1]) K1.out).1.below hb10
  have h2 : Nums (w10.alloc (.cells #[Value.int IntKind.i64 0, Value.int IntKind.i64 1] 3)) (some ⟨w10.heap.size, 0, none⟩) 2 [0, 1] := Sl.new w10 [.int .i64 0, .int .i64 1] _ 3 (0, 0) rfl (by simp)
  refine (ints_same _ _ _ _ _ 2 [0, 1] rfl h1 h2).mono ?_
  rintro e w11 ⟨rfl, m, rfl⟩
  have hb : Hid (Below w.heap.size w ((w10.alloc (.cells #[Value.int IntKind.i64 0, Value.int IntKind.i64 1] 3)).drewN m)) := Lib.hid (by
    have b9 := S9.out.bare
    exact below_drewN ((b9.trans (K2.out.mono b9.size)).trans (hb10.mono (Nat.le_trans b9.size K2.out.size))) m)
  clear hb10 h1 h2
  go_wp2
  go_ret
  exact ⟨rfl, hb.out⟩
end Go.Proofs.Ytcfhchdkohjbfaa.Kv
