import Derived.Test.YtkfkjapkcjidnaaEb
import Derived.Test.YtkfkjapkcjidnaaBo
namespace Go.Proofs.Ytkfkjapkcjidnaa.Wg
set_option maxRecDepth 100000
open Go.Deep Go.ChangeShapes Go.WideShapes Go.ChangeAt Go.RowKit Go.Proofs.Ytkfkjapkcjidnaa.Tn

/-! ### what came in: numbers, bytes, a turn -/
section
variable {H : Type} {enc : TypeId × Value → H} {W : World} {base : Nat} {v : Value} {d : DataW H} {p : List MemPlace}
theorem open_numsI1 {fuel : Nat} {x : DataW H × List MemPlace} (hf : DataW.trod enc Try.prog W 0 (fun _ => true) true fuel 26 [v] = some x) : ∃ (sp : Option Addr) (cap : Nat) (l : List Int), v = .slice sp l.length cap ∧ Nums W sp cap l ∧ i64 l := by
  rcases open_ints Try.underlying26 Try.underlying3 cells3 hf with ⟨hcs, _⟩ | ⟨a, len', cap', zs, hcs, _, hl, hm, hz, _, hcell, hwf⟩
  · simp only [List.cons.injEq, and_true] at hcs
    exact ⟨none, 0, [], hcs, Nums.nil W, fun x hx => by cases hx⟩
  · simp only [List.cons.injEq, and_true] at hcs
    simp only [if_true] at hz
    have hlen : (zs.take len').length = len' := by simp; omega
    exact ⟨some a, cap', zs.take len', by rw [hlen]; exact hcs, Bp.sl_of hl hm hz hcell, fun n hn => int_wfT (hwf n (List.mem_of_mem_take hn))⟩
theorem open_numsI (hv : Value.okWide Try.prog W .any base 26 v) (h : DataW.Trod enc Try.prog W 0 (fun _ => true) true 26 v d p) : ∃ (sp : Option Addr) (cap : Nat) (l : List Int), v = .slice sp l.length cap ∧ Nums W sp cap l ∧ i64 l := by
  obtain ⟨a0, len, cap, rfl⟩ := okWide_slice Try.underlying26 hv
  obtain ⟨fuel, hf⟩ := h
  exact open_numsI1 (v := .slice a0 len cap) hf
theorem open_bytsP (hv : Value.okWide Try.prog W .any base 24 v) (h : DataW.Trod enc Try.prog W 0 (fun _ => true) true 24 v d p) : ∃ (sp : Option Addr) (cap : Nat) (l : List Int), v = .slice sp l.length cap ∧ Bp.Byts W sp cap l := by
  obtain ⟨a0, len, cap, rfl⟩ := okWide_slice Try.underlying24 hv
  obtain ⟨fuel, hf⟩ := h
  exact Bp.open_byts1 (v := .slice a0 len cap) hf
end
end Go.Proofs.Ytkfkjapkcjidnaa.Wg
namespace Go.Proofs.Ytkfkjapkcjidnaa.Wg
set_option maxRecDepth 100000
open Go.Deep Go.ChangeShapes Go.WideShapes Go.ChangeAt Go.RowKit Go.Proofs.Ytkfkjapkcjidnaa.Tn

/-! ### what came in: a turn -/
section
variable {H : Type} {enc : TypeId × Value → H} {W : World} {base : Nat} {v : Value} {d : DataW H} {p : List MemPlace}
theorem cellsU8 : Try.prog.cellsOf 24 = 1 := by kernel_rfl
theorem cellsB : Try.prog.cellsOf 4 = 1 := by kernel_rfl
theorem open_turn (hv : Value.okWide Try.prog W .any base 33 v) (h : DataW.Trod enc Try.prog W 0 (fun _ => true) true 33 v d p) : ∃ (at_ : Int) (st : Option Addr) (ct : Nat) (l : List Int) (aw : Bool) (cu : Int), v = .agg #[.int .i64 at_, .slice st l.length ct, .bool aw, .int .i64 cu] ∧ Bp.Byts W st ct l ∧ (-9223372036854775808 ≤ cu ∧ cu ≤ 9223372036854775807) := by
  obtain ⟨cs, rfl, hsz⟩ := okWide_struct Try.underlying33 hv
  obtain ⟨fuel, hf⟩ := h
  obtain ⟨xs, n, _, _, hlen, hxl, hat⟩ := DataW.trod_struct Try.underlying33 hf
  obtain ⟨z0, h0, _⟩ := open_field hxl hat 0 rfl rfl
  obtain ⟨z3, h3, hr⟩ := open_field hxl hat 3 rfl rfl
  have hs4 : cs.size = 4 := hsz.trans (by kernel_rfl)
  have hx4 : xs.length = 4 := hxl
  obtain ⟨l⟩ := cs
  replace h0 : l[0]? = some _ := h0
  replace h3 : l[3]? = some _ := h3
  replace hs4 : l.length = 4 := hs4
  replace hat : ∀ (i : Nat) (f : Field), _ → DataW.trod enc Try.prog W 0 (fun _ => true) true n f.type ((l.drop f.offset).take (Try.prog.cellsOf f.type)) = xs[i]? := hat
  rcases l with _ | ⟨a0, _ | ⟨a1, _ | ⟨a2, _ | ⟨a3, _ | ⟨a4, l⟩⟩⟩⟩⟩ <;> simp at hs4
  have at_ : ∀ i, (hi : i < 4) → xs[i]? = some (xs[i]'(by omega)) := fun i hi => List.getElem?_eq_getElem _
  have hb := (show DataW.trod enc Try.prog W 0 (fun _ => true) true n 24 ((([a0, a1, a2, a3] : List Value).drop 1).take (Try.prog.cellsOf 24)) = xs[1]? from hat 1 _ rfl).trans (at_ 1 (by omega))
  rw [cellsU8] at hb
  replace hb : DataW.trod enc Try.prog W 0 (fun _ => true) true n 24 [a1] = _ := hb
  obtain ⟨sp, cap, bl, rfl, hby⟩ := Bp.open_byts1 hb
  have hw := (show DataW.trod enc Try.prog W 0 (fun _ => true) true n 4 ((([a0, .slice sp bl.length cap, a2, a3] : List Value).drop 2).take (Try.prog.cellsOf 4)) = xs[2]? from hat 2 _ rfl).trans (at_ 2 (by omega))
  rw [cellsB] at hw
  replace hw : DataW.trod enc Try.prog W 0 (fun _ => true) true n 4 [a2] = _ := hw
  obtain ⟨bo, hbo, _⟩ := DataW.trod_bool Try.underlying4 hw
  simp at hbo h0 h3
  subst hbo h0 h3
  exact ⟨z0, sp, cap, bl, bo, z3, rfl, hby, hr⟩
end
end Go.Proofs.Ytkfkjapkcjidnaa.Wg
