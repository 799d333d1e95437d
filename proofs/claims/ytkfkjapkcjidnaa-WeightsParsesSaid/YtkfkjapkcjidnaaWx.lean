import Derived.Test.YtkfkjapkcjidnaaOm
import Derived.Test.YtkfkjapkcjidnaaOn
namespace Go.Proofs.Ytkfkjapkcjidnaa.Wg
set_option maxRecDepth 100000
open Go.ChangeShapes Go.WideShapes Go.ChangeAt Go.RowKit Go.Shelf Go.Proofs.Ytkfkjapkcjidnaa.Tn
attribute [local go_sem] Oper.semAt_some

/-! ### WeightsOwn -/
theorem few_m {w : World} {v : Wv} {m : Md} (hv : WvOK w v m) (hF : FewV v m) (hE : m.chk = 0) : FewM m := by
  obtain ⟨h1, h2, h3, h4, h5, h6, h7⟩ := hF
  obtain ⟨hH, _⟩ := chk_zero hE
  obtain ⟨hck, _, _, hnl⟩ := headE_zero hH
  obtain ⟨V, D, I, e, _, _, _, k1, k2, k3, k4, k5, k6⟩ := cfg_blks (Cfg.ok_of_chk hck)
  refine ⟨by rw [← hv.na]; exact h1, by rw [← hv.np]; exact h2, fun b hb => ?_⟩
  rw [e] at hb
  unfold Md.part
  rcases blks_okL hb with ⟨q1, _⟩ | ⟨q1, _⟩ | ⟨q1, _⟩ | ⟨q1, q2, q3⟩
  · rw [if_pos q1, ← hv.ne]; exact h4
  · rw [if_neg (by omega), if_pos q1]
    dsimp only
    rw [← hv.nn]; omega
  · rw [if_neg (by omega), if_neg (by omega), if_pos q1, ← hv.no]; exact h5
  · rw [if_neg (by omega), if_neg (by omega), if_neg (by omega)]
    exact h7 _ _ (by rw [hv.nl]; omega) q2 q3
/-- bytes that are written over, one by one -/
structure OwI (W : World) (bb cap N : Nat) (wr : World) : Prop where
  fr : Fr (fun j => j = bb) W.heap.size W wr
  row : ∃ cur, wr.heap[bb]? = some (.cells cur 5 (0, 0)) ∧ cur.size = cap ∧ ∀ j, j < N → ∃ z, cur[j]? = some (.int .u8 z)
theorem OwI.cell {W wr : World} {bb cap N i : Nat} (h : OwI W bb cap N wr) (hi : i < N) : ∃ z, wr.cell? ⟨bb, i, none⟩ = some (.int .u8 z) ∧ wr.frozen? ⟨bb, i, none⟩ = false := by
  obtain ⟨cur, h1, h2, h3⟩ := h.row
  obtain ⟨z, hz⟩ := h3 i hi
  exact ⟨z, by rw [cell_of_row _ _ _ _ _ _ h1]; exact hz, by simp [World.frozen?, h1]⟩
theorem OwI.set {W wr : World} {bb cap N i : Nat} (h : OwI W bb cap N wr) (z : Int) : OwI W bb cap N (wr.setCell ⟨bb, i, none⟩ (.int .u8 z)) := by
  obtain ⟨cur, h1, h2, h3⟩ := h.row
  refine ⟨h.fr.trans (Fr.setCell _ (Or.inr rfl)), _, heap_setCell_row h1, by simp [h2], fun j hj => ?_⟩
  by_cases e : i = j
  · subst e
    obtain ⟨z0, hz⟩ := h3 i hj
    have hlt := (Array.getElem?_eq_some_iff.1 hz).1
    exact ⟨z, by simp [hlt]⟩
  · obtain ⟨z0, hz⟩ := h3 j hj
    exact ⟨z0, by rw [Array.getElem?_setIfInBounds_ne e]; exact hz⟩
end Go.Proofs.Ytkfkjapkcjidnaa.Wg
