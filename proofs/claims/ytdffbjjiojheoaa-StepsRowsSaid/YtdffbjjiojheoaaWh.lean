import Derived.Test.YtdffbjjiojheoaaWg
namespace Go.Proofs.Ytdffbjjiojheoaa.Wg
set_option maxRecDepth 100000
open Go.ChangeShapes Go.WideShapes Go.ChangeAt Go.RowKit Go.Shelf Go.Proofs.Ytdffbjjiojheoaa.Tn
attribute [local go_sem] Oper.semAt_some

/-! ### how many leaves there are -/
theorem FnOK.one {n0 : Nat} {W : World} {x : Bk} (h : FnOK n0 W x) : x.vf.oneCell' = true ∧ x.mf.oneCell' = true := by
  rcases h with ⟨_, h1, h2⟩ | ⟨_, h1, h2⟩ | ⟨_, h1, h2⟩ | ⟨_, bi, bl, _, _, _, _, h5, h6⟩
  · rw [h1, h2]; exact ⟨rfl, rfl⟩
  · rw [h1, h2]; exact ⟨rfl, rfl⟩
  · rw [h1, h2]; exact ⟨rfl, rfl⟩
  · cases hk : isVec x.b.k with
    | true => obtain ⟨h1, h2⟩ := h5 hk; rw [h1, h2]; exact ⟨rfl, rfl⟩
    | false => obtain ⟨h1, h2⟩ := h6 hk; rw [h1, h2]; exact ⟨rfl, rfl⟩
theorem LayFn.own {n0 B : Nat} {x : Bk} : OwnFrom B (fun (_ : Unit) W => LayFn n0 W x) := fun _ X Y row hs hg hr => by
  have keep : ∀ (k : Nat) (cs : Array Value) (t : TypeId), X.heap[k]? = some (Obj.cells cs t (0, 0)) → Y.heap[k]? = some (Obj.cells cs t (0, 0)) := fun k cs t hk =>
    (hg.block k (Array.getElem?_eq_some_iff.1 hk).1 (fun e => by obtain ⟨_, o, ho, hc⟩ := hr k e.symm; rw [hk] at ho; cases ho; cases hc)).trans hk
  obtain ⟨bi, bl, h1, h2, h3, h4, h5⟩ := hs
  exact ⟨bi, bl, h1, h2, keep _ _ _ h3, keep _ _ _ h4, h5⟩
theorem FnOK.own {n0 B : Nat} {x : Bk} : OwnFrom B (fun (_ : Unit) W => FnOK n0 W x) := fun s X Y row hs hg hr => by
  rcases hs with h | h | h | ⟨h1, h2⟩
  · exact Or.inl h
  · exact Or.inr (Or.inl h)
  · exact Or.inr (Or.inr (Or.inl h))
  · exact Or.inr (Or.inr (Or.inr ⟨h1, LayFn.own s X Y row h2 hg hr⟩))
theorem FnOK.later {n0 : Nat} {W W' : World} {x : Bk} (h : FnOK n0 W x) (hb : Below W.heap.size W W') : FnOK n0 W' x := by
  rcases h with h | h | h | ⟨h1, h2⟩
  · exact Or.inl h
  · exact Or.inr (Or.inl h)
  · exact Or.inr (Or.inr (Or.inl h))
  · exact Or.inr (Or.inr (Or.inr ⟨h1, h2.later hb⟩))
/-- a part's box, in a round -/
def BoxB (B Bx : Nat) (x : Bk) (W : World) : Prop := B ≤ Bx ∧ W.heap[Bx]? = some (.cells x.cells 117 (0, 0))
theorem row_own' {B Bx : Nat} {cs : Array Value} {t : TypeId} {fr : Nat × Nat} : OwnFrom B (fun (_ : Unit) W => W.heap[Bx]? = some (.cells cs t fr)) := fun _ X Y row hs hg hr =>
  (hg.block Bx (Array.getElem?_eq_some_iff.1 hs).1 (fun e => by obtain ⟨_, o, ho, hc⟩ := hr Bx e.symm; rw [hs] at ho; cases ho; cases hc)).trans hs
theorem row_ownI {α : Type} {B Bx : Nat} {f : α → Array Value} {t : TypeId} {fr : Nat × Nat} : OwnFrom B (fun (s : α) W => W.heap[Bx]? = some (.cells (f s) t fr)) := fun _ X Y row hs hg hr =>
  (hg.block Bx (Array.getElem?_eq_some_iff.1 hs).1 (fun e => by obtain ⟨_, o, ho, hc⟩ := hr Bx e.symm; rw [hs] at ho; cases ho; cases hc)).trans hs
theorem BoxB.own {B B' Bx : Nat} {x : Bk} : OwnFrom B (fun (_ : Unit) W => BoxB B' Bx x W) := fun s X Y row hs hg hr => ⟨hs.1, row_own' s X Y row hs.2 hg hr⟩
theorem KpB.cell {n0 bc : Nat} {W : World} {a : Addr} {v : Value} (hk : a.block < n0) (hc : a.block ≠ bc) : KpB n0 bc W (W.setCell a v) :=
  ⟨by simp [World.setCell], fun j cs t hj _ e => by
    have hne : j ≠ a.block := by rintro rfl; rcases hj with h | h <;> omega
    exact (by simp [World.setCell, Array.getElem?_modify, Ne.symm hne] : (W.setCell a v).heap[j]? = W.heap[j]?).trans e⟩
theorem keepsFrom_cell {B : Nat} {W : World} {a : Addr} {v : Value} : KeepsFrom B W (W.setCell a v) := (KeepsOthers.setCell _ _ _).from _
/-- the blocks' function -/
theorem blocks_any (w : World) (c : Cfg) : Calls Try.prog 54 #[.agg c.cells] w fun e w' => e = .returned (.func (.func 72) #[] #[.pointer (some ⟨w.heap.size, 0, none⟩)]) ∧ w' = w.alloc (.cells c.cells 31) := by
  unfold Cfg.cells
  go_enter Try.func54, Try.ntmps54
  go_wp2
  go_ret
  exact ⟨rfl, rfl⟩
theorem blocks_tells (m : Nat) (hm : 1 ≤ m) (bc V D L I : Nat) (ch cx : Int) (hL : L ≤ 4) (w : World) (cb : w.heap[bc]? = some (.cells (Cfg.cells ⟨V, D, ch, L, cx, I⟩) 31 (0, 0))) :
    SeqTells Fence.wide m Try.prog 72 #[.pointer (some ⟨bc, 0, none⟩)] (fun x : Bk => #[x.val]) (KpB w.heap.size bc) (fun pre x W => (blks V D L I)[pre.length]? = some x.b ∧ FnOK w.heap.size W x) (fun ys => ys.map (·.b) = blks V D L I) (fun _ => True) w := fun l J Jx W hW hJ hJx hY h0 => by
  refine (blocks1_in m hm l bc w.heap.size V D L I ch cx hL J Jx (fun pre x W hj hg => (hY pre x W hj hg).imp fun fn h => ?_) W hW.size hJ hJx ((hW.block _ (Array.getElem?_eq_some_iff.1 cb).1).trans cb) h0)
  exact h
end Go.Proofs.Ytdffbjjiojheoaa.Wg
