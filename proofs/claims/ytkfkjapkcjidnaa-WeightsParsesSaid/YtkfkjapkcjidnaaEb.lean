import Derived.Test.YtkfkjapkcjidnaaEa
import Derived.Test.YtkfkjapkcjidnaaBo
import Derived.Test.YtkfkjapkcjidnaaOl
namespace Go.Proofs.Ytkfkjapkcjidnaa.Wg
set_option maxRecDepth 100000
open Go.Deep Go.ChangeShapes Go.WideShapes Go.ChangeAt Go.RowKit Go.Proofs.Ytkfkjapkcjidnaa.Tn

/-! ### what came in: a model -/
theorem cells26 : Try.prog.cellsOf 26 = 1 := by kernel_rfl
theorem cells24 : Try.prog.cellsOf 24 = 1 := by kernel_rfl
theorem cells25 : Try.prog.cellsOf 25 = 1 := by kernel_rfl
theorem cells29 : Try.prog.cellsOf 29 = 1 := by kernel_rfl
theorem cells28 : Try.prog.cellsOf 28 = 3 := by kernel_rfl
theorem cells23 : Try.prog.cellsOf 23 = 6 := by kernel_rfl
theorem cells67 : Try.prog.cellsOf 65 = 23 := by kernel_rfl
theorem cells31 : Try.prog.cellsOf 31 = 16 := by kernel_rfl
section
variable {H : Type} {enc : TypeId × Value → H} {W : World} {base : Nat} {v : Value} {d : DataW H} {p : List MemPlace} {fuel : Nat} {cs : List Value} {x : DataW H × List MemPlace}
theorem one_cell (h : cs.length = 1) : ∃ v, cs = [v] := by
  match cs, h with
  | [v], _ => exact ⟨v, rfl⟩
/-- pairs, with how great their numbers are -/
theorem open_prsW {v : Value} (hf : DataW.trod enc Try.prog W 0 (fun _ => true) true fuel 25 [v] = some x) :
    ∃ (sp : Option Addr) (cap : Nat) (ps : List (Int × Int)), v = .slice sp ps.length cap ∧ Bp.Prs W sp cap ps ∧ ∀ p ∈ ps, (-9223372036854775808 ≤ p.1 ∧ p.1 ≤ 9223372036854775807) ∧ (-9223372036854775808 ≤ p.2 ∧ p.2 ≤ 9223372036854775807) := by
  rcases Bp.open_slice_fields Try.underlying25 Try.underlying82 (by kernel_rfl) (by kernel_rfl) hf with ⟨hcs, _⟩ | ⟨a, len, cap, m, D, Pl, hcs, _, hl, hm, hmm, _, hx⟩
  · simp only [List.cons.injEq, and_true] at hcs
    exact ⟨none, 0, [], hcs, ⟨by simp, by unfold maxLen; omega, (fun _ => rfl), fun h => by simp at h⟩, fun p hp => by cases hp⟩
  · simp only [List.cons.injEq, and_true] at hcs
    simp only [if_true] at hmm
    obtain ⟨ps, hps, hk⟩ := Bp.list_of' (P := fun i (x : Int × Int) => (W.cell? (a.add (i * 2 + 0)) = some (.int .i64 x.1) ∧ W.cell? (a.add (i * 2 + 1)) = some (.int .i64 x.2)) ∧ (-9223372036854775808 ≤ x.1 ∧ x.1 ≤ 9223372036854775807) ∧ (-9223372036854775808 ≤ x.2 ∧ x.2 ≤ 9223372036854775807)) len (fun i hi => by
      obtain ⟨ys, n, _, _, hyl, hff⟩ := hx i (by omega)
      obtain ⟨v0, y0, c0, _, t0⟩ := hff 0 _ rfl
      obtain ⟨v1, y1, c1, _, t1⟩ := hff 1 _ rfl
      obtain ⟨N, rfl, b0⟩ := Bp.open_int1T t0
      obtain ⟨I, rfl, b1⟩ := Bp.open_int1T t1
      exact ⟨(N, I), ⟨c0, c1⟩, b0, b1⟩)
    have hx0 : 0 < ps.length → ∃ c o, a = ⟨c, o, none⟩ := fun h0 => by
      have c0 := Bp.cell_plain (hk 0 h0).1.1
      rw [Nat.zero_mul, Nat.zero_add, Bp.add_zero] at c0
      obtain ⟨b, o, s⟩ := a
      have hs : s = none := c0
      subst hs
      exact ⟨b, o, rfl⟩
    refine ⟨some a, cap, ps, by rw [hps]; exact hcs, ⟨by omega, hm, (fun e => by cases e), fun h0 => ?_⟩, fun p hp => ?_⟩
    · obtain ⟨c, o, rfl⟩ := hx0 h0
      refine ⟨c, o, rfl, fun k hki => ?_⟩
      obtain ⟨⟨c0, c1⟩, _⟩ := hk k hki
      have e : ps.getD k (0, 0) = ps[k] := by simp [hki]
      rw [e]
      rw [Tn.add_plain] at c0 c1
      intro j v hv
      rcases j with _ | _ | j
      · cases hv
        rw [← c0]
        congr 2
      · cases hv
        rw [← c1]
        congr 2
      · cases hv
    · obtain ⟨i, hi, rfl⟩ := List.getElem_of_mem hp
      exact (hk i hi).2
theorem open_sl1 (hf : DataW.trod enc Try.prog W 0 (fun _ => true) true fuel 26 cs = some x) (h : cs.length = 1) : ∃ (l : List Int) (sp : Option Addr) (cap : Nat), cs = [.slice sp l.length cap] ∧ Nums W sp cap l := by
  obtain ⟨v, rfl⟩ := one_cell h
  obtain ⟨l, sp, cap, e, hn⟩ := Bp.open_nums1 hf
  exact ⟨l, sp, cap, by rw [e], hn⟩
theorem open_mt (hf : DataW.trod enc Try.prog W 0 (fun _ => true) true fuel 28 cs = some x) : ∃ (p : Mt) (sp : Option Addr) (cap : Nat), cs = [.int .i64 p.r, .int .i64 p.c, .slice sp p.l.length cap] ∧ Nums W sp cap p.l := by
  obtain ⟨xs, n, _, _, hlen, hxl, hat⟩ := DataW.trod_struct Try.underlying28 hf
  rw [cells28] at hlen
  obtain ⟨z0, h0, _⟩ := open_field hxl hat 0 rfl rfl
  obtain ⟨z1, h1, _⟩ := open_field hxl hat 1 rfl rfl
  have h := hat 2 _ rfl
  have hi : 2 < xs.length := by rw [hxl]; decide
  rw [List.getElem?_eq_getElem hi] at h
  obtain ⟨l, sp, cap, e, hn⟩ := open_sl1 h (by rw [List.length_take, List.length_drop, hlen]; rfl)
  match cs, hlen with
  | [a, b, c], _ =>
    replace h0 : [a, b, c][0]? = some _ := h0
    replace h1 : [a, b, c][1]? = some _ := h1
    have e' : ([a, b, c].drop 2).take 1 = [Value.slice sp l.length cap] := e
    simp at h0 h1 e'
    exact ⟨⟨z0, z1, l⟩, sp, cap, by rw [h0, h1, e'], hn⟩
/-- a part among cells -/
def CellsP (W : World) (cs : List Value) (o k : Nat) (p : Mt) : Prop := if isVec k then (∃ sp cap, cs[o]? = some (.slice sp p.l.length cap) ∧ Nums W sp cap p.l) ∧ p.r = 0 ∧ p.c = 0 else cs[o]? = some (.int .i64 p.r) ∧ cs[o + 1]? = some (.int .i64 p.c) ∧ ∃ sp cap, cs[o + 2]? = some (.slice sp p.l.length cap) ∧ Nums W sp cap p.l
theorem vec_cells {o : Nat} (k : Nat) (hk : isVec k = true) (hf : DataW.trod enc Try.prog W 0 (fun _ => true) true fuel 26 ((cs.drop o).take (Try.prog.cellsOf 26)) = some x) (ho : o + 1 ≤ cs.length) : ∃ p, CellsP W cs o k p := by
  rw [cells26] at hf
  obtain ⟨l, sp, cap, e, hn⟩ := open_sl1 hf (by rw [List.length_take, List.length_drop]; omega)
  refine ⟨⟨0, 0, l⟩, ?_⟩
  unfold CellsP
  rw [if_pos hk]
  refine ⟨⟨sp, cap, ?_, hn⟩, rfl, rfl⟩
  have h2 := congrArg (fun l : List Value => l[0]?) e
  simp only [List.getElem?_take, List.getElem?_drop] at h2
  simpa using h2
theorem mat_cells {o : Nat} (k : Nat) (hk : isVec k = false) (hf : DataW.trod enc Try.prog W 0 (fun _ => true) true fuel 28 ((cs.drop o).take (Try.prog.cellsOf 28)) = some x) : ∃ p, CellsP W cs o k p := by
  rw [cells28] at hf
  obtain ⟨p, sp, cap, e, hn⟩ := open_mt hf
  refine ⟨p, ?_⟩
  unfold CellsP
  rw [if_neg (by rw [hk]; decide)]
  have h0 := congrArg (fun l : List Value => l[0]?) e
  have h1 := congrArg (fun l : List Value => l[1]?) e
  have h2 := congrArg (fun l : List Value => l[2]?) e
  simp only [List.getElem?_take, List.getElem?_drop] at h0 h1 h2
  exact ⟨by simpa using h0, by simpa using h1, sp, cap, by simpa using h2, hn⟩
theorem open_ly (hf : DataW.trod enc Try.prog W 0 (fun _ => true) true fuel 65 cs = some x) : ∀ k, 2 ≤ k → k ≤ 10 → ∃ p, CellsP W cs (offK k) k p := by
  obtain ⟨xs, n, _, _, hlen, hxl, hat⟩ := DataW.trod_struct Try.underlying65 hf
  rw [cells67] at hlen
  have hx9 : xs.length = 9 := hxl
  have some_at : ∀ i, (hi : i < 9) → xs[i]? = some (xs[i]'(by omega)) := fun i hi => List.getElem?_eq_getElem _
  intro k h2 h3
  obtain rfl | rfl | rfl | rfl | rfl | rfl | rfl | rfl | rfl : k = 2 ∨ k = 3 ∨ k = 4 ∨ k = 5 ∨ k = 6 ∨ k = 7 ∨ k = 8 ∨ k = 9 ∨ k = 10 := by omega
  · exact vec_cells 2 rfl ((hat 0 _ rfl).trans (some_at 0 (by decide))) (by rw [hlen]; decide)
  · exact mat_cells 3 rfl ((hat 1 _ rfl).trans (some_at 1 (by decide)))
  · exact mat_cells 4 rfl ((hat 2 _ rfl).trans (some_at 2 (by decide)))
  · exact mat_cells 5 rfl ((hat 3 _ rfl).trans (some_at 3 (by decide)))
  · exact mat_cells 6 rfl ((hat 4 _ rfl).trans (some_at 4 (by decide)))
  · exact vec_cells 7 rfl ((hat 5 _ rfl).trans (some_at 5 (by decide))) (by rw [hlen]; decide)
  · exact mat_cells 8 rfl ((hat 6 _ rfl).trans (some_at 6 (by decide)))
  · exact mat_cells 9 rfl ((hat 7 _ rfl).trans (some_at 7 (by decide)))
  · exact mat_cells 10 rfl ((hat 8 _ rfl).trans (some_at 8 (by decide)))
theorem open_lays {v : Value} (hf : DataW.trod enc Try.prog W 0 (fun _ => true) true fuel 29 [v] = some x) : ∃ (sl : Option Addr) (n cap : Nat) (ly : Nat → Nat → Mt), v = .slice sl n cap ∧ n ≤ cap ∧ cap ≤ maxLen ∧ LaysAt W sl n ly := by
  rcases open_slice Try.underlying29 hf with ⟨hcs, _⟩ | ⟨a, len, cap, m, n, D, Pl, hcs, _, hl, hm, hmm, _, hx⟩
  · simp only [List.cons.injEq, and_true] at hcs
    exact ⟨none, 0, 0, fun _ _ => ⟨0, 0, []⟩, hcs, Nat.le_refl _, by unfold maxLen; omega, fun h => by omega⟩
  · simp only [List.cons.injEq, and_true] at hcs
    simp only [if_true] at hmm
    have hly : ∀ y k, ∃ p : Mt, y < len → 2 ≤ k → k ≤ 10 → ∃ cs', cs'.length = 23 ∧ (∀ j, j < 23 → W.cell? ((a.add (y * 23)).add j) = cs'[j]?) ∧ CellsP W cs' (offK k) k p := fun y k => by
      by_cases h : y < len ∧ 2 ≤ k ∧ k ≤ 10
      · obtain ⟨cs', hc, ht⟩ := hx y (by omega)
        rw [cells67] at hc
        obtain ⟨_, hcl, hat⟩ := World.cells?_some hc
        obtain ⟨p, hp⟩ := open_ly ht k h.2.1 h.2.2
        exact ⟨p, fun _ _ _ => ⟨cs', hcl, hat, hp⟩⟩
      · exact ⟨⟨0, 0, []⟩, fun h1 h2 h3 => absurd ⟨h1, h2, h3⟩ h⟩
    obtain ⟨ly, hly⟩ := Classical.axiomOfChoice fun y => Classical.axiomOfChoice (hly y)
    refine ⟨some a, len, cap, ly, hcs, hl, hm, fun h0 => ?_⟩
    obtain ⟨cs0, hl0, hat0, hp0⟩ := hly 0 2 h0 (by omega) (by omega)
    have hs : a.spot = none := by
      unfold CellsP at hp0
      rw [if_pos (by decide)] at hp0
      obtain ⟨⟨sp0, cap0, h1, _⟩, _⟩ := hp0
      have h2 := (hat0 0 (by decide)).trans h1
      rw [Nat.zero_mul, Bp.add_zero, Bp.add_zero] at h2
      exact Bp.cell_plain h2
    obtain ⟨b, o, s⟩ := a
    have hs : s = none := hs
    subst hs
    refine ⟨b, o, rfl, fun y k hy h2 h3 => ?_⟩
    obtain ⟨cs', hl', hat', hp'⟩ := hly y k hy h2 h3
    have hat2 : ∀ j, j < 23 → W.cell? ⟨b, o + y * 23 + j, none⟩ = cs'[j]? := fun j hj => by
      have := hat' j hj
      rw [Tn.add_plain, Tn.add_plain] at this
      exact this
    have hof : offK k + 2 < 23 := by
      obtain rfl | rfl | rfl | rfl | rfl | rfl | rfl | rfl | rfl : k = 2 ∨ k = 3 ∨ k = 4 ∨ k = 5 ∨ k = 6 ∨ k = 7 ∨ k = 8 ∨ k = 9 ∨ k = 10 := by omega
      all_goals decide
    unfold CellsP at hp'
    unfold PartAt
    cases hv : isVec k with
    | true =>
      rw [hv, if_pos rfl] at hp'
      rw [if_pos rfl]
      obtain ⟨⟨sp, cap', h4, h5⟩, _⟩ := hp'
      exact ⟨sp, cap', (hat2 _ (by omega)).trans h4, h5⟩
    | false =>
      rw [hv, if_neg (by decide)] at hp'
      rw [if_neg (by decide)]
      obtain ⟨h6, h7, sp, cap', h4, h5⟩ := hp'
      exact ⟨(hat2 _ (by omega)).trans h6, (hat2 (offK k + 1) (by omega)).trans h7, sp, cap', (hat2 (offK k + 2) hof).trans h4, h5⟩
/-- a model that came in -/
theorem open_wts (hv : Value.okWide Try.prog W .any base 31 v) (h : DataW.Trod enc Try.prog W 0 (fun _ => true) true 31 v d p) : ∃ (u : Wv) (m : Md), v = .agg u.cells ∧ WvOK W u m ∧ i64 (flatP m.ps) := by
  obtain ⟨cs, rfl, hsz⟩ := okWide_struct Try.underlying31 hv
  obtain ⟨fuel, hf⟩ := h
  obtain ⟨xs, n, _, _, hlen, hxl, hat⟩ := DataW.trod_struct Try.underlying31 hf
  have hs : cs.size = 16 := hsz.trans cells31
  have hx7 : xs.length = 7 := hxl
  have at_ : ∀ i, (hi : i < 7) → xs[i]? = some (xs[i]'(by omega)) := fun i hi => List.getElem?_eq_getElem _
  obtain ⟨l⟩ := cs
  replace hat : ∀ (i : Nat) (f : Field), _ → DataW.trod enc Try.prog W 0 (fun _ => true) true n f.type ((l.drop f.offset).take (Try.prog.cellsOf f.type)) = xs[i]? := hat
  replace hs : l.length = 16 := hs
  obtain ⟨a0, a1, a2, a3, a4, a5, a6, a7, a8, a9, a10, a11, a12, a13, a14, a15, rfl⟩ : ∃ a0 a1 a2 a3 a4 a5 a6 a7 a8 a9 a10 a11 a12 a13 a14 a15, l = [a0, a1, a2, a3, a4, a5, a6, a7, a8, a9, a10, a11, a12, a13, a14, a15] := by
    match l, hs with
    | [a0, a1, a2, a3, a4, a5, a6, a7, a8, a9, a10, a11, a12, a13, a14, a15], _ => exact ⟨_, _, _, _, _, _, _, _, _, _, _, _, _, _, _, _, rfl⟩
  have hc := (show DataW.trod enc Try.prog W 0 (fun _ => true) true n 23 ((([a0, a1, a2, a3, a4, a5, a6, a7, a8, a9, a10, a11, a12, a13, a14, a15] : List Value).drop 0).take (Try.prog.cellsOf 23)) = xs[0]? from hat 0 _ rfl).trans (at_ 0 (by decide))
  rw [cells23] at hc
  have ha := (show DataW.trod enc Try.prog W 0 (fun _ => true) true n 24 ((([a0, a1, a2, a3, a4, a5, a6, a7, a8, a9, a10, a11, a12, a13, a14, a15] : List Value).drop 6).take (Try.prog.cellsOf 24)) = xs[1]? from hat 1 _ rfl).trans (at_ 1 (by decide))
  rw [cells24] at ha
  replace ha : DataW.trod enc Try.prog W 0 (fun _ => true) true n 24 [a6] = _ := ha
  have hp := (show DataW.trod enc Try.prog W 0 (fun _ => true) true n 25 ((([a0, a1, a2, a3, a4, a5, a6, a7, a8, a9, a10, a11, a12, a13, a14, a15] : List Value).drop 7).take (Try.prog.cellsOf 25)) = xs[2]? from hat 2 _ rfl).trans (at_ 2 (by decide))
  rw [cells25] at hp
  replace hp : DataW.trod enc Try.prog W 0 (fun _ => true) true n 25 [a7] = _ := hp
  have he := (show DataW.trod enc Try.prog W 0 (fun _ => true) true n 28 ((([a0, a1, a2, a3, a4, a5, a6, a7, a8, a9, a10, a11, a12, a13, a14, a15] : List Value).drop 8).take (Try.prog.cellsOf 28)) = xs[3]? from hat 3 _ rfl).trans (at_ 3 (by decide))
  rw [cells28] at he
  replace he : DataW.trod enc Try.prog W 0 (fun _ => true) true n 28 [a8, a9, a10] = _ := he
  have ho := (show DataW.trod enc Try.prog W 0 (fun _ => true) true n 28 ((([a0, a1, a2, a3, a4, a5, a6, a7, a8, a9, a10, a11, a12, a13, a14, a15] : List Value).drop 13).take (Try.prog.cellsOf 28)) = xs[6]? from hat 6 _ rfl).trans (at_ 6 (by decide))
  rw [cells28] at ho
  replace ho : DataW.trod enc Try.prog W 0 (fun _ => true) true n 28 [a13, a14, a15] = _ := ho
  have hn := (show DataW.trod enc Try.prog W 0 (fun _ => true) true n 26 ((([a0, a1, a2, a3, a4, a5, a6, a7, a8, a9, a10, a11, a12, a13, a14, a15] : List Value).drop 12).take (Try.prog.cellsOf 26)) = xs[5]? from hat 5 _ rfl).trans (at_ 5 (by decide))
  rw [cells26] at hn
  replace hn : DataW.trod enc Try.prog W 0 (fun _ => true) true n 26 [a12] = _ := hn
  have hl := (show DataW.trod enc Try.prog W 0 (fun _ => true) true n 29 ((([a0, a1, a2, a3, a4, a5, a6, a7, a8, a9, a10, a11, a12, a13, a14, a15] : List Value).drop 11).take (Try.prog.cellsOf 29)) = xs[4]? from hat 4 _ rfl).trans (at_ 4 (by decide))
  rw [cells29] at hl
  replace hl : DataW.trod enc Try.prog W 0 (fun _ => true) true n 29 [a11] = _ := hl
  -- the sizes
  obtain ⟨ys, n', _, _, _, hyl, hat'⟩ := DataW.trod_struct Try.underlying23 hc
  obtain ⟨z0, h0, _⟩ := open_field hyl hat' 0 rfl rfl
  obtain ⟨z1, h1, _⟩ := open_field hyl hat' 1 rfl rfl
  obtain ⟨z2, h2, _⟩ := open_field hyl hat' 2 rfl rfl
  obtain ⟨z3, h3, _⟩ := open_field hyl hat' 3 rfl rfl
  obtain ⟨z4, h4, _⟩ := open_field hyl hat' 4 rfl rfl
  obtain ⟨z5, h5, _⟩ := open_field hyl hat' 5 rfl rfl
  replace h0 : some a0 = some _ := h0
  replace h1 : some a1 = some _ := h1
  replace h2 : some a2 = some _ := h2
  replace h3 : some a3 = some _ := h3
  replace h4 : some a4 = some _ := h4
  replace h5 : some a5 = some _ := h5
  cases h0; cases h1; cases h2; cases h3; cases h4; cases h5
  -- letters, pairs
  obtain ⟨sa, ca, al, rfl, hal⟩ := Bp.open_byts1 ha
  obtain ⟨sp, cp, ps, rfl, hps, hpi⟩ := open_prsW hp
  -- Embed, Out
  obtain ⟨em, se, ce, ee, hem⟩ := open_mt he
  simp only [List.cons.injEq, and_true] at ee
  obtain ⟨rfl, rfl, rfl⟩ := ee
  obtain ⟨ou, so, co, eo, hou⟩ := open_mt ho
  simp only [List.cons.injEq, and_true] at eo
  obtain ⟨rfl, rfl, rfl⟩ := eo
  -- Norm
  obtain ⟨nm, sn, cn, en, hnm⟩ := open_sl1 hn rfl
  simp only [List.cons.injEq, and_true] at en
  subst en
  -- layers
  obtain ⟨sl, nl, cl, ly, rfl, hl1, hl2, hla⟩ := open_lays hl
  exact ⟨⟨⟨z0, z1, z2, z3, z4, z5⟩, sa, al.length, ca, sp, ps.length, cp, em.r, em.c, se, em.l.length, ce, sl, nl, cl, sn, nm.length, cn, ou.r, ou.c, so, ou.l.length, co⟩, ⟨⟨z0, z1, z2, z3, z4, z5⟩, al, ps, em, nl, ly, nm, ou⟩, rfl,
    ⟨rfl, hal, rfl, hps, rfl, rfl, rfl, hem, rfl, hla, rfl, ⟨hl1, hl2⟩, hnm, rfl, rfl, rfl, hou, rfl⟩, flatP_i64 hpi⟩
end
end Go.Proofs.Ytkfkjapkcjidnaa.Wg
