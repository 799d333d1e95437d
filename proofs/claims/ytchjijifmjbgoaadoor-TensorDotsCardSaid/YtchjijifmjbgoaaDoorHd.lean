import Derived.Test.YtchjijifmjbgoaaDoorGv
namespace Go.Proofs.YtchjijifmjbgoaaDoor.Tn
open Go.ChangeShapes Go.WideShapes Go.ChangeAt Go.RowKit Go.Proofs.YtchjijifmjbgoaaDoor.Fx Go.Proofs.YtchjijifmjbgoaaDoor.Rf

set_option maxRecDepth 100000 in
set_option maxHeartbeats 4000000 in
theorem dots_walk {E : World → Prop} (T : TensorOK E) (w : World) (sp sq : Option Addr) (cap caq N M : Nat) (row v : List Int) (hN : row.length = N) (hM : v.length = M) (hr : Nums w sp cap row) (hv : Nums w sq caq v) (he : E w) : Calls Tryd.prog 4 #[.slice sp N cap, .slice sq M caq] w fun e w' => e = .returned (.bool true) ∧ Below w.heap.size w w' := by
  have HE := Lib.hid he
  have HT := Lib.hid T
  clear he T
  have HB0 := Lib.hid (Below.refl w.heap.size w)
  have hNm : N ≤ 9223372036854775807 := by rw [← hN]; exact hr.len
  have hMm : M ≤ 9223372036854775807 := by rw [← hM]; exact hv.len
  have HD := Lib.hid (fun W he hr hv => HT.out.dot W sp sq cap caq row v he hr hv)
  rw [hN, hM] at HD
  have HRf := Lib.hid (fun W hr hv => rdot_any W sp sq cap caq N M row v hN hM hr hv)
  have HR := Lib.hid hr
  have HV := Lib.hid hv
  obtain ⟨x, hx⟩ : ∃ x, dotR row v = x := ⟨_, rfl⟩
  obtain ⟨y, hy⟩ : ∃ x, dotE row v = x := ⟨_, rfl⟩
  rw [hx, hy] at HD HRf
  clear hr hv hx hy hN hM
  by_cases h1 : 100 < N
  · have d1 : decide ((100 : Int) < (N : Int)) = true := by simp; omega
    go_enter Tryd.func4, Tryd.ntmps4
    go_wp2_with fail
    refine (awake_any HT.out _ (HT.out.env _ _ HE.out HB0.out)).mono ?_
    rintro e w1 ⟨rfl, hb1⟩
    have HB1 := Lib.hid (HB0.out.trans (hb1.mono HB0.out.size))
    clear hb1
    go_wp2
    go_ret
    exact ⟨rfl, HB1.out⟩
  · have d1 : decide ((100 : Int) < (N : Int)) = false := by simp; omega
    by_cases h2 : 100 < M
    · have d2 : decide ((100 : Int) < (M : Int)) = true := by simp; omega
      go_enter Tryd.func4, Tryd.ntmps4
      go_wp2_with fail
      refine (awake_any HT.out _ (HT.out.env _ _ HE.out HB0.out)).mono ?_
      rintro e w1 ⟨rfl, hb1⟩
      have HB1 := Lib.hid (HB0.out.trans (hb1.mono HB0.out.size))
      clear hb1
      go_wp2
      go_ret
      exact ⟨rfl, HB1.out⟩
    · have d2 : decide ((100 : Int) < (M : Int)) = false := by simp; omega
      clear h1 h2
      go_enter Tryd.func4, Tryd.ntmps4
      go_wp2_with fail
      refine (HD.out _ (HT.out.env _ _ HE.out HB0.out) (HR.out.below HB0.out) (HV.out.below HB0.out)).mono ?_
      rintro e w1 ⟨rfl, hb1⟩
      have HB1 := Lib.hid (HB0.out.trans (hb1.mono HB0.out.size))
      clear hb1
      go_wp2_with fail
      refine (HRf.out _ (HR.out.below HB1.out) (HV.out.below HB1.out)).mono ?_
      rintro e w2 ⟨rfl, hb2⟩
      have HB2 := Lib.hid (HB1.out.trans (hb2.mono HB1.out.size))
      clear hb2
      go_wp2_with fail
      refine (awake_any HT.out _ (HT.out.env _ _ HE.out HB2.out)).mono ?_
      rintro e w3 ⟨rfl, hb3⟩
      have HB3 := Lib.hid (HB2.out.trans (hb3.mono HB2.out.size))
      clear hb3
      go_wp2
      go_ret
      exact ⟨rfl, HB3.out⟩
end Go.Proofs.YtchjijifmjbgoaaDoor.Tn
