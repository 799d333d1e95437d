import Derived.Test.YtdffbjjiojheoaaWb
import Derived.Laws.Rows
import Derived.Laws.Tables
namespace Go.Proofs.Ytdffbjjiojheoaa.Wg
set_option maxRecDepth 100000
open Go.ChangeShapes Go.WideShapes Go.ChangeAt Go.RowKit Go.Proofs.Ytdffbjjiojheoaa.Tn

/-! ### the closures that tell where a part stands -/
theorem gen_w {Q : World → Prop} (w2 : World) (P : World → Prop) (h : P w2) (k : ∀ w, P w → Q w) : Q w2 := k w2 h
/-- a function without captured variables -/
def fnV (f : Nat) : Value := .func (.func f) #[] #[]
def blV (k y r c : Int) (vf mf : Value) : Value := .agg #[.int .i64 k, .int .i64 y, .int .i64 r, .int .i64 c, vf, mf]
def zblk : Array Value := #[.int .i64 0, .int .i64 0, .int .i64 0, .int .i64 0, .nilFunc, .nilFunc]
theorem size_blk : (Try.prog.info? 117).map (·.size) = some 6 := by kernel_rfl
/-- a box and a result's cell, in blocks of their own -/
structure Bx2 (w : World) (f : Nat) (tb : TypeId) (W : World) : Prop where
  below : Below w.heap.size w W
  box : W.heap[w.heap.size]? = some (.cells #[fnV f] tb (0, 0))
  res : W.heap[w.heap.size + 1]? = some (.cells zblk 117 (0, 0))
theorem Bx2.made (w : World) (f : Nat) (tb : TypeId) : Bx2 w f tb ((w.alloc (.cells #[fnV f] tb)).alloc (.cells zblk 117)) := by
  refine ⟨((Below.refl _ _).alloc (Nat.le_refl _) _).alloc (by simp) _, ?_, ?_⟩
  · rw [heap_alloc_old _ _ (by simp)]
    exact heap_alloc_new _ _
  · have := heap_alloc_new (w.alloc (.cells #[fnV f] tb)) (.cells zblk 117)
    rwa [World.size_alloc] at this
theorem Bx2.out {w : World} {f : Nat} {tb : TypeId} {W : World} (h : Bx2 w f tb W) (cs : Array Value) : (W.setRow (w.heap.size + 1) cs).heap[w.heap.size]? = some (.cells #[fnV f] tb (0, 0)) ∧ Below w.heap.size w (W.setRow (w.heap.size + 1) cs) := by
  refine ⟨?_, h.below.trans ⟨rfl, rfl, rfl, by simp, fun k hk => setRow_other W _ k cs (by omega)⟩⟩
  rw [setRow_other _ _ _ _ (by simp)]
  exact h.box
def blC (k y r c : Int) (vf mf : Value) : Array Value := #[.int .i64 k, .int .i64 y, .int .i64 r, .int .i64 c, vf, mf]
theorem blC_one {vf mf : Value} (k y r c : Int) (h1 : vf.oneCell' = true) (h2 : mf.oneCell' = true) : (blC k y r c vf mf).all (·.oneCell') = true := by
  simp [blC, h1, h2]
  exact ⟨rfl, rfl, rfl, rfl⟩
set_option maxHeartbeats 4000000 in
theorem vec_any (w : World) (bl bc f : Nat) (k y d : Int) (cl : w.cell? ⟨bl, 0, none⟩ = some (.int .i64 y)) (cd : w.cell? ⟨bc, 1, none⟩ = some (.int .i64 d)) :
    Calls Try.prog 84 #[.int .i64 k, .func (.func f) #[] #[], .pointer (some ⟨bl, 0, none⟩), .pointer (some ⟨bc, 0, none⟩)] w fun e w' => e = .returned (blV k y 1 d (.func (.func 85) #[] #[.pointer (some ⟨w.heap.size, 0, none⟩), .pointer (some ⟨bl, 0, none⟩)]) .nilFunc) ∧ w'.heap[w.heap.size]? = some (.cells #[fnV f] 140 (0, 0)) ∧ Below w.heap.size w w' := by
  have HB := Lib.hid (Bx2.made w f 140)
  unfold fnV zblk at HB
  go_enter Try.func84, Try.ntmps84
  go_upto_region 1 with fail
  refine gen_w (Q := fun w => Code.wp _ _ _ _ w) _ (Bx2 w f 140) HB.out ?_
  clear HB
  intro W hx
  have HX := Lib.hid hx
  have HR := Lib.hid hx.res
  have c1 := (hx.below.cell (block_lt_of_cell cl)).trans cl
  have c2 := (hx.below.cell (block_lt_of_cell cd)).trans cd
  clear hx cl cd
  go_wp2_with (refine wpList_store_row rfl 117 (.tmp 6) (.tmp 12) rfl (w.heap.size + 1) (blC k y 1 d (.func (.func 85) #[] #[.pointer (some ⟨w.heap.size, 0, none⟩), .pointer (some ⟨bl, 0, none⟩)]) .nilFunc) rfl rfl 117 zblk HR.out size_blk rfl (blC_one _ _ _ _ rfl rfl) ?_)
  (try simp only [Exit.inBlock, Exit.then])
  refine bodyPost_ret (v := blV k y 1 d (.func (.func 85) #[] #[.pointer (some ⟨w.heap.size, 0, none⟩), .pointer (some ⟨bl, 0, none⟩)]) .nilFunc) (results_cell_row Try.results84 _ _ (w.heap.size + 1) 117 (blC k y 1 d (.func (.func 85) #[] #[.pointer (some ⟨w.heap.size, 0, none⟩), .pointer (some ⟨bl, 0, none⟩)]) .nilFunc) (0, 0) _ rfl (setRow_heap _ _ _ _ _ _ HX.out.res) Try.underlying117 rfl size_blk) rfl ?_
  exact ⟨rfl, (HX.out.out _).1, (HX.out.out _).2⟩
set_option maxHeartbeats 4000000 in
theorem mat_any (w : World) (bl f : Nat) (k y r c : Int) (cl : w.cell? ⟨bl, 0, none⟩ = some (.int .i64 y)) :
    Calls Try.prog 86 #[.int .i64 k, .int .i64 r, .int .i64 c, .func (.func f) #[] #[], .pointer (some ⟨bl, 0, none⟩)] w fun e w' => e = .returned (blV k y r c .nilFunc (.func (.func 87) #[] #[.pointer (some ⟨w.heap.size, 0, none⟩), .pointer (some ⟨bl, 0, none⟩)])) ∧ w'.heap[w.heap.size]? = some (.cells #[fnV f] 142 (0, 0)) ∧ Below w.heap.size w w' := by
  have HB := Lib.hid (Bx2.made w f 142)
  unfold fnV zblk at HB
  go_enter Try.func86, Try.ntmps86
  go_upto_region 1 with fail
  refine gen_w (Q := fun w => Code.wp _ _ _ _ w) _ (Bx2 w f 142) HB.out ?_
  clear HB
  intro W hx
  have HX := Lib.hid hx
  have HR := Lib.hid hx.res
  have c1 := (hx.below.cell (block_lt_of_cell cl)).trans cl
  clear hx cl
  go_wp2_with (refine wpList_store_row rfl 117 (.tmp 9) (.tmp 15) rfl (w.heap.size + 1) (blC k y r c .nilFunc (.func (.func 87) #[] #[.pointer (some ⟨w.heap.size, 0, none⟩), .pointer (some ⟨bl, 0, none⟩)])) rfl rfl 117 zblk HR.out size_blk rfl (blC_one _ _ _ _ rfl rfl) ?_)
  (try simp only [Exit.inBlock, Exit.then])
  refine bodyPost_ret (v := blV k y r c .nilFunc (.func (.func 87) #[] #[.pointer (some ⟨w.heap.size, 0, none⟩), .pointer (some ⟨bl, 0, none⟩)])) (results_cell_row Try.results86 _ _ (w.heap.size + 1) 117 (blC k y r c .nilFunc (.func (.func 87) #[] #[.pointer (some ⟨w.heap.size, 0, none⟩), .pointer (some ⟨bl, 0, none⟩)])) (0, 0) _ rfl (setRow_heap _ _ _ _ _ _ HX.out.res) Try.underlying117 rfl size_blk) rfl ?_
  exact ⟨rfl, (HX.out.out _).1, (HX.out.out _).2⟩
end Go.Proofs.Ytdffbjjiojheoaa.Wg
