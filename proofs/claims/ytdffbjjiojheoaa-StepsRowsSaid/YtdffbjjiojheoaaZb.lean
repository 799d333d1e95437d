/- Small models that a law makes: matrices of the filler's numbers. -/
import Derived.Test.YtdffbjjiojheoaaZa
namespace Go.Proofs.Ytdffbjjiojheoaa.Mk
set_option maxRecDepth 100000
open Go.ChangeShapes Go.WideShapes Go.ChangeAt Go.RowKit Go.Proofs.Ytdffbjjiojheoaa.Tn
theorem results_cellM {P : Program} {fn : Func} {p : Tmp} {ty : TypeId} (h : fn.results = #[.cell p ty]) (tmps : Array Value) (w : World) (g : Nat) (t : TypeId) (cs : Array Value) (fr : Nat × Nat) (d : TypeDesc)
    (hp : tmps.getD p undef = .pointer (some ⟨g, 0, none⟩)) (hg : w.heap[g]? = some (.cells cs t fr))
    (hu : P.underlying ty = some d) (hd : (match d with | .struct _ | .array _ _ => true | _ => false) = true) (hi : (P.info? ty).map (·.size) = some cs.size) :
    (results fn tmps).run P w = .ok (.agg cs) w := by
  have hp' : tmps[p]?.getD undef = .pointer (some ⟨g, 0, none⟩) := by simpa using hp
  simp [results, h, hp', asAddr, run_loadVar_row w g t ty cs fr d hg hu hd hi]
theorem size_matM : (Try.prog.info? 35).map (·.size) = some 3 := by kernel_rfl
theorem owns_base {w : World} {b b' e k n : Nat} {v : Value} {xs : List Value} (h : w.ownsRow b e k v n xs) (hb : b' ≤ b) : w.ownsRow b' e k v n xs :=
  ⟨h.1, h.2.imp id fun ⟨g, cap, cur, h1, h2, h3⟩ => ⟨g, cap, cur, h1, Nat.le_trans hb h2, h3⟩⟩
theorem set3 {W : World} {g : Nat} {T : TypeId} {a b c : Value} (h : W.heap[g]? = some (.cells #[a, b, c] T (0, 0))) (x y z : Value) : (((W.setCell ⟨g, 0, none⟩ x).setCell ⟨g, 1, none⟩ y).setCell ⟨g, 2, none⟩ z).heap[g]? = some (.cells #[x, y, z] T (0, 0)) := by
  rw [heap_setCell_same _ _ _ _ _ _ (heap_setCell_same _ _ _ _ _ _ (heap_setCell_same _ _ _ _ _ _ h))]
  rfl
theorem Fil.set {w0 W : World} {fb : Nat} {sf : Option Addr} {cf : Nat} {fl : List Int} {at_ g i : Nat} (h : Fil w0 fb sf cf fl at_ W) (h0 : w0.heap.size ≤ g) (hne : fb ≠ g) (v : Value) : Fil w0 fb sf cf fl at_ (W.setCell ⟨g, i, none⟩ v) := by
  refine ⟨⟨h.below.os, h.below.tape, h.below.output, by simp; exact h.below.size, fun k hk => ?_⟩, h.hb, ?_⟩
  · rw [heap_setCell_other _ _ _ _ (by simp; omega)]
    exact h.below.block k hk
  · rw [heap_setCell_other _ _ _ _ (by simpa using hne)]
    exact h.row
set_option maxHeartbeats 4000000 in
theorem matrix_any {w0 : World} {fb : Nat} {sf : Option Addr} {cf : Nat} {fl : List Int} {at_ : Nat} (hN : Nums w0 sf cf fl) (h1 : 1 ≤ fl.length) (h2 : fl.length ≤ 80) (w : World) (hF : Fil w0 fb sf cf fl at_ w) (ha : at_ ≤ 100000) (r c n : Nat) (hn : r * c = n) (hn2 : n ≤ 1000) :
    Calls Try.prog 46 #[.pointer (some ⟨fb, 0, none⟩), .int .i64 (r : Int), .int .i64 (c : Int)] w fun e W' => ∃ sq cq, e = .returned (.agg #[.int .i64 (r : Int), .int .i64 (c : Int), .slice sq n cq]) ∧ Fil w0 fb sf cf fl (at_ + n) W' ∧ w.grownBy W' (some fb) ∧ W'.ownsRow w.heap.size 3 1 (.slice sq n cq) n ((fillN fl at_ n).map (Value.int .i64)) := by
  have hfbw : fb < w.heap.size := (Array.getElem?_eq_some_iff.1 hF.row).1
  obtain ⟨O, hO⟩ : ∃ O, (Obj.cells #[.int .i64 0, .int .i64 0, .slice none 0 0] 35 (0, 0)) = O := ⟨_, rfl⟩
  have hal : Below w.heap.size w (w.alloc O) := (Below.refl _ _).alloc (Nat.le_refl _) _
  have HC := Lib.hid (next_any hN h1 h2 (w.alloc O) (hF.later hal) ha n hn2)
  have HRo : Hid ((w.alloc O).heap[w.heap.size]? = some (.cells #[.int .i64 0, .int .i64 0, .slice none 0 0] 35 (0, 0))) := Lib.hid (by rw [heap_alloc_new, hO])
  have HAl := Lib.hid hal
  have HFb := Lib.hid hfbw
  have H0w := Lib.hid hF.below.size
  have HSz : Hid ((w.alloc O).heap.size = w.heap.size + 1) := Lib.hid (by simp)
  have hm : (r : Int) * (c : Int) = (n : Int) := by rw [← hn]; exact (Int.natCast_mul r c).symm
  have hw2 : IntKind.i64.wrap ((r : Int) * (c : Int)) = (n : Int) := by rw [hm]; exact IntWalk.i64_in _ (by omega)
  have hw : wrap64 ((r : Int) * (c : Int)) = (n : Int) := by rw [hm]; unfold wrap64; omega
  clear hN h1 h2 hF ha hn hn2 hal hfbw hm
  go_enter Try.func46, Try.ntmps46
  go_wp2_with fail
  refine HC.out.mono ?_
  rintro e W ⟨sq, cq, rfl, k1, k2, k3⟩
  have hrow : W.heap[w.heap.size]? = some (.cells #[.int .i64 0, .int .i64 0, .slice none 0 0] 35 (0, 0)) := (k2.block w.heap.size (by rw [HSz.out]; omega) (fun e => by cases e; have := HFb.out; omega)).trans HRo.out
  have f0 : W.frozen? ⟨w.heap.size, 0, none⟩ = false := frozen_of_row _ _ _ _ _ hrow
  have f1 : W.frozen? ⟨w.heap.size, 1, none⟩ = false := frozen_of_row _ _ _ _ _ hrow
  have f2 : W.frozen? ⟨w.heap.size, 2, none⟩ = false := frozen_of_row _ _ _ _ _ hrow
  have c0 : W.cell? ⟨w.heap.size, 0, none⟩ = some (.int .i64 0) := by rw [cell_of_row _ _ _ _ _ _ hrow]; rfl
  have c1 : W.cell? ⟨w.heap.size, 1, none⟩ = some (.int .i64 0) := by rw [cell_of_row _ _ _ _ _ _ hrow]; rfl
  have c2 : W.cell? ⟨w.heap.size, 2, none⟩ = some (.slice none 0 0) := by rw [cell_of_row _ _ _ _ _ _ hrow]; rfl
  have HK1 := Lib.hid k1
  have HK2 := Lib.hid k2
  have HK3 := Lib.hid k3
  have HRw := Lib.hid hrow
  clear k1 k2 k3 hrow HC
  go_wp2
  refine bodyPost_ret (v := .agg #[.int .i64 (r : Int), .int .i64 (c : Int), .slice sq n cq]) (results_cellM Try.results46 _ _ w.heap.size 35 _ (0, 0) _ rfl (set3 HRw.out _ _ _) Try.underlying35 rfl size_matM) rfl ⟨sq, cq, rfl, ?_, ?_, ?_⟩
  · exact ((HK1.out.set H0w.out (fun e => by have := HFb.out; omega) _).set H0w.out (fun e => by have := HFb.out; omega) _).set H0w.out (fun e => by have := HFb.out; omega) _
  · exact ⟨HK2.out.os, HK2.out.tape, HK2.out.output, by simp; have := HK2.out.size; have := HSz.out; omega, fun k hk hne => by
      rw [heap_setCell_other _ _ _ _ (by simp; omega), heap_setCell_other _ _ _ _ (by simp; omega), heap_setCell_other _ _ _ _ (by simp; omega)]
      exact (HK2.out.block k (by rw [HSz.out]; omega) hne).trans (HAl.out.block k hk)⟩
  · refine owns_base (b := (w.alloc O).heap.size) ?_ HAl.out.size
    have hne : (Value.slice sq n cq).ownBlock = none ∨ (Value.slice sq n cq).ownBlock ≠ some w.heap.size := Or.inr fun e => by have := (HK3.out.lt _ e).1; have := HSz.out; omega
    exact ((HK3.out.kept (grownM_set _ _ _ _) hne).kept (grownM_set _ _ _ _) hne).kept (grownM_set _ _ _ _) hne
end Go.Proofs.Ytdffbjjiojheoaa.Mk
