import Derived.Test.YtkfkjapkcjidnaaBh
import Derived.Lib.Hide
import Derived.Laws.BytesArg
import Derived.Great.BuildSlice
import Derived.Deep.MidRow
import Derived.Laws.StructEq
import Derived.ChangeMaps5
import Derived.Lib.ConvBytes
import Derived.Lib.AtoiErrMem
import Derived.Deep.DeepHandedRow
import Derived.Deep.Slices
import Derived.Deep.Fields
import Derived.ChangeSame
import Derived.Lib.SmallJoins
import Derived.Lib.LaidTab
import Derived.Carry
import Derived.Lay
import Derived.Stop.LaidErr
-- from Ba
namespace Go.Proofs.Ytkfkjapkcjidnaa.Bp
end Go.Proofs.Ytkfkjapkcjidnaa.Bp
-- from Bb
namespace Go.Proofs.Ytkfkjapkcjidnaa.Bp
end Go.Proofs.Ytkfkjapkcjidnaa.Bp
-- from Bn
namespace Go.Proofs.Ytkfkjapkcjidnaa.Bp
set_option maxRecDepth 100000
open Go.ChangeShapes Go.WideShapes Go.ChangeAt Go.RowKit Go.Proofs.Ytkfkjapkcjidnaa.Tn
end Go.Proofs.Ytkfkjapkcjidnaa.Bp
-- from Bm
namespace Go.Proofs.Ytkfkjapkcjidnaa.Bp
set_option maxRecDepth 100000
open Go.ChangeShapes Go.WideShapes Go.ChangeAt Go.RowKit Go.Proofs.Ytkfkjapkcjidnaa.Tn
end Go.Proofs.Ytkfkjapkcjidnaa.Bp
-- from Bs
namespace Go.Proofs.Ytkfkjapkcjidnaa.Bp
set_option maxRecDepth 100000
open Go.ChangeShapes Go.WideShapes Go.ChangeAt Go.RowKit Go.Proofs.Ytkfkjapkcjidnaa.Tn
section
variable {w w' : World} {sp : Option Addr} {cap : Nat}
end
section
variable {w W W' : World} {st sq : Option Addr} {nt ct nq cq n : Nat}
end
end Go.Proofs.Ytkfkjapkcjidnaa.Bp
-- from Be
namespace Go.Proofs.Ytkfkjapkcjidnaa.Bp
set_option maxRecDepth 100000
open Go.ChangeShapes Go.WideShapes Go.ChangeAt Go.RowKit Go.Proofs.Ytkfkjapkcjidnaa.Tn
end Go.Proofs.Ytkfkjapkcjidnaa.Bp
-- from Bf
namespace Go.Proofs.Ytkfkjapkcjidnaa.Bp
set_option maxRecDepth 100000
open Go.ChangeShapes Go.WideShapes Go.ChangeAt Go.RowKit Go.Proofs.Ytkfkjapkcjidnaa.Tn
end Go.Proofs.Ytkfkjapkcjidnaa.Bp
-- from Bg
namespace Go.Proofs.Ytkfkjapkcjidnaa.Bp
set_option maxRecDepth 100000
open Go.ChangeShapes Go.WideShapes Go.ChangeAt Go.RowKit Go.Proofs.Ytkfkjapkcjidnaa.Tn
section
variable {w W W' : World} {n : Nat} {T : List (List Int)} {seen : List (Int × Int)} {sv qv sv' qv' : Value}
end
section
variable {W : World} {ops : Array Oper} {rest : List Oper} {o : Oper} {a : Act} {Q : Exit → Act → World → Prop}
end
end Go.Proofs.Ytkfkjapkcjidnaa.Bp
-- from Bq
namespace Go.Proofs.Ytkfkjapkcjidnaa.Bp
set_option maxRecDepth 100000
open Go.ChangeShapes Go.WideShapes Go.ChangeAt Go.RowKit Go.Proofs.Ytkfkjapkcjidnaa.Tn
open Go.ChangeMaps (setBlock heap_setBlock_same heap_setBlock_other)
end Go.Proofs.Ytkfkjapkcjidnaa.Bp
-- from Bc
namespace Go.Proofs.Ytkfkjapkcjidnaa.Bp
set_option maxRecDepth 100000
open Go.ChangeShapes Go.WideShapes Go.ChangeAt Go.RowKit Go.Proofs.Ytkfkjapkcjidnaa.Tn
open Go.ChangeMaps (setBlock heap_setBlock_same heap_setBlock_other)
section
variable {W W' : World} {g m : Nat} {al : List Int} {ps : List (Int × Int)} {sv : Value}
end
end Go.Proofs.Ytkfkjapkcjidnaa.Bp
-- from Bv
namespace Go.Proofs.Ytkfkjapkcjidnaa.Bp
set_option maxRecDepth 100000
open Go.ChangeShapes Go.WideShapes Go.ChangeAt Go.RowKit Go.Proofs.Ytkfkjapkcjidnaa.Tn
open Go.ChangeMaps (setBlock heap_setBlock_same heap_setBlock_other)
section
variable {W W' : World} {lo g m B : Nat} {al : List Int} {ps : List (Int × Int)} {T : List (List Int)} {sv sv' : Value}
end
section
variable {a : Act} {o : Oper} {W : World}
end
end Go.Proofs.Ytkfkjapkcjidnaa.Bp
-- from Bd
namespace Go.Proofs.Ytkfkjapkcjidnaa.Bp
set_option maxRecDepth 100000
open Go.ChangeShapes Go.WideShapes Go.ChangeAt Go.RowKit Go.Proofs.Ytkfkjapkcjidnaa.Tn
open Go.ChangeMaps (setBlock heap_setBlock_same heap_setBlock_other)
end Go.Proofs.Ytkfkjapkcjidnaa.Bp
-- from Bk
namespace Go.Proofs.Ytkfkjapkcjidnaa.Bp
set_option maxRecDepth 100000
open Go.ChangeShapes Go.WideShapes Go.ChangeAt Go.RowKit Go.Proofs.Ytkfkjapkcjidnaa.Tn
open Go.ChangeMaps (setBlock heap_setBlock_same heap_setBlock_other)
section
variable {W W' : World} {b : Nat} {x y : Int}
end
end Go.Proofs.Ytkfkjapkcjidnaa.Bp
-- from Bw
namespace Go.Proofs.Ytkfkjapkcjidnaa.Bp
set_option maxRecDepth 100000
open Go.ChangeShapes Go.WideShapes Go.ChangeAt Go.RowKit Go.Proofs.Ytkfkjapkcjidnaa.Tn
open Go.ChangeMaps (setBlock heap_setBlock_same heap_setBlock_other)
end Go.Proofs.Ytkfkjapkcjidnaa.Bp
-- from Bx
namespace Go.Proofs.Ytkfkjapkcjidnaa.Bp
set_option maxRecDepth 100000
open Go.ChangeShapes Go.WideShapes Go.ChangeAt Go.RowKit Go.Proofs.Ytkfkjapkcjidnaa.Tn
open Go.ChangeMaps (setBlock heap_setBlock_same heap_setBlock_other)
end Go.Proofs.Ytkfkjapkcjidnaa.Bp
-- from De
namespace Go.Proofs.Ytkfkjapkcjidnaa.Bp
set_option maxRecDepth 100000
open Go.ChangeShapes Go.WideShapes Go.ChangeAt Go.RowKit Go.Proofs.Ytkfkjapkcjidnaa.Tn
section
variable {T : List (List Int)}
end
section
variable {b n : Nat} {W W' : World}
theorem Own5.store (h : Own5 b n W) (j : Nat) (x : Int) : Own5 b n (W.setCell ⟨b, j, none⟩ (.int .u8 x)) := by
  obtain ⟨cs, fr, h1, h2, h3⟩ := h
  refine ⟨cs.setIfInBounds j (.int .u8 x), fr, by simp [World.setCell, Array.getElem?_modify, h1], h2, fun k hk => ?_⟩
  obtain ⟨y, hy⟩ := h3 k hk
  by_cases hkj : j = k
  · subst hkj
    exact ⟨x, by rw [Array.getElem?_setIfInBounds_self, if_pos (Array.getElem?_eq_some_iff.1 hy).1]⟩
  · exact ⟨y, by rw [Array.getElem?_setIfInBounds_ne hkj]; exact hy⟩
end
end Go.Proofs.Ytkfkjapkcjidnaa.Bp
-- from Bj
namespace Go.Proofs.Ytkfkjapkcjidnaa.Bp
set_option maxRecDepth 100000
open Go.ChangeShapes Go.WideShapes Go.ChangeAt Go.RowKit Go.Proofs.Ytkfkjapkcjidnaa.Tn
section
variable {W W' : World} {b : Nat} {x y : Int}
end
end Go.Proofs.Ytkfkjapkcjidnaa.Bp
-- from Bh
namespace Go.Proofs.Ytkfkjapkcjidnaa.Bp
set_option maxRecDepth 100000
open Go.ChangeShapes Go.WideShapes Go.ChangeAt Go.RowKit Go.Proofs.Ytkfkjapkcjidnaa.Tn
end Go.Proofs.Ytkfkjapkcjidnaa.Bp
-- from Di
namespace Go.Proofs.Ytkfkjapkcjidnaa.Bp
set_option maxRecDepth 100000
open Go.ChangeShapes Go.WideShapes Go.ChangeAt Go.RowKit Go.Proofs.Ytkfkjapkcjidnaa.Tn
section
variable {a : Act} {o : Oper} {W W' : World}
end
section
variable {B n c1 P c2 : Nat} {s1 s2 : Option Addr} {w W W' : World}
end
end Go.Proofs.Ytkfkjapkcjidnaa.Bp
-- from Dg
namespace Go.Proofs.Ytkfkjapkcjidnaa.Bp
set_option maxRecDepth 100000
open Go.Deep Go.ChangeShapes Go.WideShapes Go.ChangeAt Go.RowKit Go.Proofs.Ytkfkjapkcjidnaa.Tn
/-! ### what came in: numbers, bytes, pairs, a book -/
theorem own : ownKnob Try.prog.godebug = none := by kernel_rfl
theorem add_zero (a : Addr) : a.add 0 = a := by
  obtain ⟨b, o, s⟩ := a
  unfold Addr.add
  simp
section
variable {H : Type} {enc : TypeId × Value → H} {W : World} {base : Nat} {v : Value} {d : DataW H} {p : List MemPlace}
end
section
variable {H : Type} {enc : TypeId × Value → H} {P : Program} {w : World} {base : Nat} {spare : Nat → Bool} {held : Bool}
end
end Go.Proofs.Ytkfkjapkcjidnaa.Bp
-- from Dh
namespace Go.Proofs.Ytkfkjapkcjidnaa.Bp
set_option maxRecDepth 100000
open Go.ChangeShapes Go.WideShapes Go.ChangeAt Go.RowKit Go.Proofs.Ytkfkjapkcjidnaa.Tn
end Go.Proofs.Ytkfkjapkcjidnaa.Bp
-- from Nk
namespace Go.Proofs.Ytkfkjapkcjidnaa.Bp
set_option maxRecDepth 100000
open Go.ChangeShapes Go.WideShapes Go.ChangeAt Go.RowKit Go.Proofs.Ytkfkjapkcjidnaa.Tn
/-! ### rows of one's own that are written over, and what stays -/
/-- a block whose first n cells are numbers of one kind, and may be written -/
def Blk (t : TypeId) (kd : IntKind) (b n : Nat) (W : World) : Prop := ∃ (cs : Array Value) (fr : Nat × Nat), W.heap[b]? = some (.cells cs t fr) ∧ (fr = (0, 0) ∨ n ≤ fr.1) ∧ ∀ j, j < n → ∃ x : Int, cs[j]? = some (.int kd x)
section
variable {W W' : World} {t : TypeId} {kd : IntKind} {b n : Nat}
theorem set_at {cs : Array Value} {fr : Nat × Nat} (h : W.heap[b]? = some (.cells cs t fr)) (j : Nat) (v : Value) : (W.setCell ⟨b, j, none⟩ v).heap[b]? = some (.cells (cs.setIfInBounds j v) t fr) := by
  simp [World.setCell, Array.getElem?_modify, h]
theorem Blk.at_ (h : Blk t kd b n W) {j : Nat} (hj : j < n) : (∃ x : Int, W.cell? ⟨b, j, none⟩ = some (.int kd x)) ∧ W.frozen? ⟨b, j, none⟩ = false := by
  obtain ⟨cs, fr, h1, h2, h3⟩ := h
  obtain ⟨x, hx⟩ := h3 j hj
  refine ⟨⟨x, ?_⟩, ?_⟩
  · rw [cell_of_row _ _ _ _ _ _ h1]
    exact hx
  · obtain ⟨lo, hi⟩ := fr
    simp [World.frozen?, h1]
    rcases h2 with h2 | h2
    · cases h2
      omega
    · intro h9
      exact absurd h2 (by omega)
theorem Blk.store (h : Blk t kd b n W) (j : Nat) (x : Int) : Blk t kd b n (W.setCell ⟨b, j, none⟩ (.int kd x)) := by
  obtain ⟨cs, fr, h1, h2, h3⟩ := h
  refine ⟨_, fr, set_at h1 j _, h2, fun k hk => ?_⟩
  obtain ⟨y, hy⟩ := h3 k hk
  by_cases hkj : j = k
  · subst hkj
    exact ⟨x, by rw [Array.getElem?_setIfInBounds_self, if_pos (Array.getElem?_eq_some_iff.1 hy).1]⟩
  · exact ⟨y, by rw [Array.getElem?_setIfInBounds_ne hkj]; exact hy⟩
end
theorem infoP : (Try.prog.info? 82).map (fun i => (i.zero, i.size, i.bytes)) = some (some (.agg #[.int .i64 0, .int .i64 0]), 2, 16) := by kernel_rfl
theorem own_blk5 {W : World} {base n : Nat} {sp : Option Addr} {cap : Nat} {l : List Int} (h : W.ownsRow base 5 1 (.slice sp n cap) n (l.map (Value.int .u8))) : n = 0 ∨ ∃ b, sp = some ⟨b, 0, none⟩ ∧ base ≤ b ∧ Blk 5 .u8 b n W := by
  obtain ⟨h0, ⟨_, h1⟩ | ⟨g, cap', cur, e, hb, hg, hle, hmx, hsz, htk⟩⟩ := h
  · exact Or.inl h1
  · cases e
    refine Or.inr ⟨g, rfl, hb, cur, (0, 0), hg, Or.inl rfl, fun j hj => ?_⟩
    rw [List.length_map] at h0
    refine ⟨l.getD j 0, ?_⟩
    have h9 : (l.map (Value.int .u8))[j]? = some (.int .u8 (l.getD j 0)) := by
      rw [List.getElem?_map, List.getD_eq_getElem?_getD, List.getElem?_eq_getElem (by omega)]
      rfl
    rw [← htk, List.getElem?_take, if_pos (by omega), Array.getElem?_toList] at h9
    exact h9
theorem own_blkP {W : World} {base n : Nat} {v : Value} {ps : List (Int × Int)} (h : W.ownsRow base 82 2 v n (pcs ps)) : ∃ sp cap, v = .slice sp n cap ∧ ps.length = n ∧ Prs W sp cap ps ∧ (n = 0 ∨ ∃ b, sp = some ⟨b, 0, none⟩ ∧ base ≤ b ∧ Blk 82 .i64 b (n * 2) W) := by
  have hl := pcs_length ps
  obtain ⟨h0, ⟨rfl, rfl⟩ | ⟨g, cap, cur, rfl, hb, hg, hle, hmx, hsz, htk⟩⟩ := h
  · have : ps.length = 0 := by omega
    exact ⟨none, 0, rfl, this, ⟨by omega, by unfold maxLen; omega, fun _ => rfl, fun h => by omega⟩, Or.inl rfl⟩
  · have hcell : ∀ j, j < n * 2 → cur[j]? = (pcs ps)[j]? := fun j hj => by
      rw [← htk, List.getElem?_take, if_pos hj, Array.getElem?_toList]
    refine ⟨_, cap, rfl, by omega, ⟨by omega, hmx, fun e => by (cases e), fun _ => ⟨g, 0, rfl, fun k hk => ?_⟩⟩, Or.inr ⟨g, rfl, hb, cur, (0, 0), hg, Or.inl rfl, fun j hj => ?_⟩⟩
    · have hat := pcs_at ps k hk
      intro j u hu
      rcases j with _ | _ | j
      · rw [cell_of_row _ _ _ _ _ _ hg, Nat.zero_add, Nat.add_zero, hcell _ (by omega), hat.1]
        simpa using hu
      · rw [cell_of_row _ _ _ _ _ _ hg, Nat.zero_add, Nat.zero_add, hcell _ (by omega), hat.2]
        simpa using hu
      · simp at hu
    · rw [hcell j hj]
      have hat := pcs_at ps (j / 2) (by omega)
      rcases Nat.mod_two_eq_zero_or_one j with h2 | h2
      · exact ⟨_, (show (j / 2 * 2 = j) by omega) ▸ hat.1⟩
      · exact ⟨_, (show (j / 2 * 2 + 1 = j) by omega) ▸ hat.2⟩
theorem Prs.cell {w : World} {c o cap : Nat} {ps : List (Int × Int)} (h : Prs w (some ⟨c, o, none⟩) cap ps) (j : Nat) (u : Value) (hj : (pcs ps)[j]? = some u) : w.cell? ⟨c, o + j, none⟩ = some u := by
  have hlt : j < (pcs ps).length := (List.getElem?_eq_some_iff.1 hj).1
  rw [pcs_length] at hlt
  obtain ⟨c', o', e, hr⟩ := h.at_ (j / 2) (by omega)
  cases e
  have hat := pcs_at ps (j / 2) (by omega)
  rcases Nat.mod_two_eq_zero_or_one j with h2 | h2
  · rw [show j / 2 * 2 = j by omega, hj] at hat
    have h9 := hr 0 _ rfl
    rw [show o + j / 2 * 2 + 0 = o + j by omega] at h9
    rw [h9, ← hat.1]
  · rw [show j / 2 * 2 + 1 = j by omega, hj] at hat
    have h9 := hr 1 _ rfl
    rw [show o + j / 2 * 2 + 1 = o + j by omega] at h9
    rw [h9, ← hat.2]
section
variable {W : World} {ops : Array Oper} {rest : List Oper} {o : Oper} {a : Act} {Q : Exit → Act → World → Prop}
theorem wpList_app_byts (hgd : o.guard = none) (s x : Operand) (ho : o.op = .call { callee := .builtin .append, args := #[s, x], argTypes := #[24, 24] }) (hs : a.eval s = .slice none 0 0) (sp : Option Addr) (cap n : Nat) (al : List Int) (hx : a.eval x = .slice sp n cap) (hn : al.length = n) (hb : Byts W sp cap al) (hn6 : n ≤ 1000000)
    (h : ∀ sp' cap' w', Below W.heap.size W w' → Byts w' sp' cap' al → (n = 0 ∨ ∃ b, sp' = some ⟨b, 0, none⟩ ∧ W.heap.size ≤ b ∧ Blk 5 .u8 b n w') → wpList Try.prog ops Q rest (a.put o.dst (.slice sp' n cap')) w') : wpList Try.prog ops Q (o :: rest) a W := by
  refine wpList_append_sl 24 5 1 (.int .u8 0) Try.underlying24 info5 rfl (by decide) hgd s x ho W.heap.size (.slice none 0 0) 0 n [] (al.map (Value.int .u8)) hs (World.ownsRow_nil _ _ _ _) sp cap hx (by simpa using hn) hb.sl (fun v hv => by obtain ⟨y, _, rfl⟩ := List.mem_map.1 hv; rfl) (by omega) (Nat.le_refl _) ?_
  intro v' w' h1 h2
  rw [Nat.zero_add, List.nil_append] at h1
  obtain ⟨sp', cap', rfl, _, hsl, _⟩ := Tn.Sl.all1 h1
  exact h sp' cap' w' ⟨h2.os, h2.tape, h2.output, h2.size, fun k hk => h2.block k hk (by simp [Value.ownBlock])⟩ ⟨hsl, hb.rng⟩ (own_blk5 h1)
theorem wpList_app_prs (hgd : o.guard = none) (s x : Operand) (ho : o.op = .call { callee := .builtin .append, args := #[s, x], argTypes := #[25, 25] }) (hs : a.eval s = .slice none 0 0) (sp : Option Addr) (cap n : Nat) (ps : List (Int × Int)) (hx : a.eval x = .slice sp n cap) (hn : ps.length = n) (hb : Prs W sp cap ps) (hn6 : n ≤ 1000000)
    (h : ∀ sp' cap' w', Below W.heap.size W w' → Prs w' sp' cap' ps → (n = 0 ∨ ∃ b, sp' = some ⟨b, 0, none⟩ ∧ W.heap.size ≤ b ∧ Blk 82 .i64 b (n * 2) w') → wpList Try.prog ops Q rest (a.put o.dst (.slice sp' n cap')) w') : wpList Try.prog ops Q (o :: rest) a W := by
  obtain ⟨i0, hi, hz0, hz1, hz2⟩ := info_parts infoP
  rcases sp with _ | ad
  · obtain rfl := hb.nul rfl
    have hle := hb.le
    obtain rfl : n = 0 := by omega
    obtain rfl : ps = [] := List.eq_nil_of_length_eq_zero hn
    refine wpList_append_own_none hgd s x 25 ho W.heap.size 82 i0 2 Try.underlying25 hi (.slice none 0 0) 0 [] hs (World.ownsRow_nil _ _ _ _) hx ?_
    exact h none 0 W (Below.refl _ _) hb (Or.inl rfl)
  · refine wpList_append_own _ hgd s x 25 ho W.heap.size 82 i0 _ 2 16 Try.underlying25 hi hz0 hz1 hz2 rfl (by decide) (.slice none 0 0) 0 [] hs (World.ownsRow_nil _ _ _ _) ad n cap (pcs ps) hx (by rw [pcs_length, hn]) (fun j u hj => ?_) (fun u hu => ?_) (by unfold maxLen; omega) (by omega) (Nat.le_refl _) ?_
    · have hlt : j < (pcs ps).length := (List.getElem?_eq_some_iff.1 hj).1
      rw [pcs_length] at hlt
      obtain ⟨c, o9, e, _⟩ := hb.lies (by omega)
      cases e
      rw [Tn.add_plain]
      exact hb.cell j u hj
    · unfold pcs at hu
      obtain ⟨p, _, hp⟩ := List.mem_flatMap.1 hu
      simp [pv] at hp
      rcases hp with rfl | rfl <;> rfl
    · intro v' w' h1 h2 _
      rw [Nat.zero_add, List.nil_append] at h1
      obtain ⟨sp', cap', rfl, _, hsl, hbl⟩ := own_blkP h1
      exact h sp' cap' w' ⟨h2.os, h2.tape, h2.output, h2.size, fun k hk => h2.block k hk (by simp [Value.ownBlock])⟩ hsl hbl
end
end Go.Proofs.Ytkfkjapkcjidnaa.Bp
