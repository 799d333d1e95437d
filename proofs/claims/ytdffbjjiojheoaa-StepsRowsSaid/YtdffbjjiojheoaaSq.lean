/- Steps: what came in: a small model's sizes and numbers, three numbers. -/
import Derived.Test.YtdffbjjiojheoaaEa
import Derived.Test.YtdffbjjiojheoaaSa
namespace Go.Proofs.Ytdffbjjiojheoaa.St
set_option maxRecDepth 100000
open Go.Deep Go.ChangeShapes Go.WideShapes Go.ChangeAt Go.RowKit Go.Proofs.Ytdffbjjiojheoaa.Tn Go.Proofs.Ytdffbjjiojheoaa.Wg
theorem cell_plain {W : World} {a : Addr} {v : Value} (h : W.cell? a = some v) : a.spot = none := by
  obtain ⟨b, o, s⟩ := a
  cases s with
  | none => rfl
  | some k =>
    exfalso
    simp [World.cell?] at h
    split at h <;> cases h
theorem add_zero (a : Addr) : a.add 0 = a := by
  obtain ⟨b, o, s⟩ := a
  unfold Addr.add
  simp
/-- a slice of whole numbers, out of its cells -/
theorem sl_of {W : World} {a : Addr} {len cap : Nat} {k : IntKind} {zs : List Int} (hl : len ≤ cap) (hm : cap ≤ maxLen) (hz : zs.length = cap) (hcell : ∀ i, i < zs.length → W.cell? (a.add i) = some (.int k (zs.getD i 0))) : Sl W (some a) cap ((zs.take len).map (Value.int k)) := by
  refine ⟨by simp; omega, hm, (fun h => by cases h), fun hp => ?_⟩
  simp at hp
  have h0 := cell_plain (hcell 0 (by omega))
  rw [add_zero] at h0
  obtain ⟨b, o, s⟩ := a
  have hs : s = none := h0
  subst hs
  refine ⟨b, o, rfl, fun i v hv => ?_⟩
  have hi : i < len ∧ i < zs.length := by
    have := (List.getElem?_eq_some_iff.1 hv).1
    simp at this
    omega
  have := hcell i hi.2
  rw [Tn.add_plain] at this
  rw [this, ← hv]
  simp [hi.1, hi.2]
/-- one cell that holds a slice of numbers -/
theorem open_nums1 {H : Type} {enc : TypeId × Value → H} {W : World} {fuel : Nat} {v : Value} {x : DataW H × List MemPlace} (hf : DataW.trod enc Try.prog W 0 (fun _ => true) true fuel 23 [v] = some x) : ∃ l, VecVal W v l := by
  rcases open_ints Try.underlying23 Try.underlying3 cells3 hf with ⟨hcs, _⟩ | ⟨a, len', cap', zs, hcs, _, hl, hm, hz, _, hcell, _⟩
  · simp only [List.cons.injEq, and_true] at hcs
    exact ⟨[], none, 0, hcs, Nums.nil W⟩
  · simp only [List.cons.injEq, and_true] at hcs
    simp only [if_true] at hz
    have hlen : (zs.take len').length = len' := by simp; omega
    exact ⟨zs.take len', some a, cap', by rw [hlen]; exact hcs, sl_of hl hm hz hcell⟩

theorem cells_arr6 : Try.prog.cellsOf 22 = 6 := by kernel_rfl
theorem cells_ints : Try.prog.cellsOf 23 = 1 := by kernel_rfl
/-- an array of whole numbers, out of its cells -/
theorem ints_of {H : Type} {enc : TypeId × Value → H} {W : World} {fuel n : Nat} {t : TypeId} {cs : List Value} {x : DataW H × List MemPlace} (ht : Try.prog.underlying t = some (.array n 3)) (hc : Try.prog.cellsOf t = n) (hf : DataW.trod enc Try.prog W 0 (fun _ => true) true fuel t cs = some x) :
    cs.length = n ∧ ∀ i, i < n → ∃ z : Int, cs[i]? = some (.int .i64 z) := by
  obtain ⟨xs, m, _, _, hl, hxl, hx⟩ := DataW.trod_array ht hf
  rw [hc] at hl
  refine ⟨hl, fun i hi => ?_⟩
  have h1 := hx i hi
  rw [Wg.cells3, Nat.mul_one, List.getElem?_eq_getElem (by omega)] at h1
  have h2 : (cs.drop i).take 1 = [cs[i]'(by omega)] := by
    have e := List.drop_eq_getElem_cons (l := cs) (i := i) (by omega)
    rw [e]
    rfl
  rw [h2] at h1
  obtain ⟨z, hz, _⟩ := Wg.open_int1T h1
  refine ⟨z, ?_⟩
  rw [List.getElem?_eq_getElem (by omega)]
  simp at hz
  rw [hz]
section
variable {H : Type} {enc : TypeId × Value → H} {W : World} {base : Nat} {v : Value} {d : DataW H} {p : List MemPlace}
theorem open_spec (hv : Value.okWide Try.prog W .any base 25 v) (h : DataW.Trod enc Try.prog W 0 (fun _ => true) true 25 v d p) : ∃ (s0 s1 s2 s3 s4 s5 : Int) (sf : Option Addr) (cf : Nat) (fl : List Int), v = .agg #[.int .i64 s0, .int .i64 s1, .int .i64 s2, .int .i64 s3, .int .i64 s4, .int .i64 s5, .slice sf fl.length cf] ∧ Nums W sf cf fl := by
  obtain ⟨cs, rfl, hsz⟩ := okWide_struct Try.underlying25 hv
  obtain ⟨fuel, hf⟩ := h
  obtain ⟨xs, n, _, _, hlen, hxl, hat⟩ := DataW.trod_struct Try.underlying25 hf
  have hs7 : cs.size = 7 := hsz.trans (by kernel_rfl)
  have hx2 : xs.length = 2 := hxl
  obtain ⟨l⟩ := cs
  replace hs7 : l.length = 7 := hs7
  replace hat : ∀ (i : Nat) (f : Field), _ → DataW.trod enc Try.prog W 0 (fun _ => true) true n f.type ((l.drop f.offset).take (Try.prog.cellsOf f.type)) = xs[i]? := hat
  have at_ : ∀ i, (hi : i < 2) → xs[i]? = some (xs[i]'(by omega)) := fun i hi => List.getElem?_eq_getElem _
  have ha := (show DataW.trod enc Try.prog W 0 (fun _ => true) true n 22 ((l.drop 0).take (Try.prog.cellsOf 22)) = xs[0]? from hat 0 _ rfl).trans (at_ 0 (by omega))
  have hb := (show DataW.trod enc Try.prog W 0 (fun _ => true) true n 23 ((l.drop 6).take (Try.prog.cellsOf 23)) = xs[1]? from hat 1 _ rfl).trans (at_ 1 (by omega))
  rw [cells_arr6] at ha
  rw [cells_ints] at hb
  obtain ⟨_, hz⟩ := ints_of Try.underlying22 cells_arr6 ha
  rcases l with _ | ⟨a0, _ | ⟨a1, _ | ⟨a2, _ | ⟨a3, _ | ⟨a4, _ | ⟨a5, _ | ⟨a6, _ | ⟨a7, l⟩⟩⟩⟩⟩⟩⟩⟩ <;> simp at hs7
  obtain ⟨z0, h0⟩ := hz 0 (by omega)
  obtain ⟨z1, h1⟩ := hz 1 (by omega)
  obtain ⟨z2, h2⟩ := hz 2 (by omega)
  obtain ⟨z3, h3⟩ := hz 3 (by omega)
  obtain ⟨z4, h4⟩ := hz 4 (by omega)
  obtain ⟨z5, h5⟩ := hz 5 (by omega)
  simp at h0 h1 h2 h3 h4 h5
  subst h0 h1 h2 h3 h4 h5
  replace hb : DataW.trod enc Try.prog W 0 (fun _ => true) true n 23 [a6] = _ := hb
  obtain ⟨fl, sf, cf, rfl, hN⟩ := open_nums1 hb
  exact ⟨z0, z1, z2, z3, z4, z5, sf, cf, fl, rfl, hN⟩
theorem cells_arr3 : Try.prog.cellsOf 68 = 3 := by kernel_rfl
theorem open_three (hv : Value.okWide Try.prog W .any base 68 v) (h : DataW.Trod enc Try.prog W 0 (fun _ => true) true 68 v d p) : ∃ a b k : Int, v = .agg #[.int .i64 a, .int .i64 b, .int .i64 k] := by
  simp only [Value.okWide, Try.underlying68] at hv
  obtain ⟨cs, rfl, hsz, _⟩ := hv
  rw [cells_arr3] at hsz
  obtain ⟨fuel, hf⟩ := h
  obtain ⟨l⟩ := cs
  replace hf : DataW.trod enc Try.prog W 0 (fun _ => true) true fuel 68 l = _ := hf
  obtain ⟨hl, hz⟩ := ints_of Try.underlying68 cells_arr3 hf
  obtain ⟨z0, h0⟩ := hz 0 (by omega)
  obtain ⟨z1, h1⟩ := hz 1 (by omega)
  obtain ⟨z2, h2⟩ := hz 2 (by omega)
  rcases l with _ | ⟨a0, _ | ⟨a1, _ | ⟨a2, _ | ⟨a3, l⟩⟩⟩⟩ <;> simp at hl
  simp at h0 h1 h2
  subst h0 h1 h2
  exact ⟨z0, z1, z2, rfl⟩
end
end Go.Proofs.Ytdffbjjiojheoaa.St
