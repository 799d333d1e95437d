/- Pools of rows in pages (I): take. -/
import Derived.Test.YtcfhchdkohjbfaaIb
namespace Go.Proofs.Ytcfhchdkohjbfaa.Kv.I
set_option maxRecDepth 100000
open Go.ChangeShapes Go.WideShapes Go.ChangeAt Go.RowKit Go.Proofs.Ytcfhchdkohjbfaa.Tn
open Go.ChangeMaps (setBlock heap_setBlock_same heap_setBlock_other)
section
variable {w : World} {τ : Tags} {g : Nat} {ly : Lay} {s op : Nat} {pg : Pg Int} {ro : Ro}
theorem tellFree_any (w : World) (g : Nat) : Calls Try.prog 46 #[.pointer (some ⟨g, 0, none⟩)] w fun e w' => e = .returned (.func (.func 61) #[] #[.pointer (some ⟨w.heap.size, 0, none⟩)]) ∧ w' = w.alloc (.cells #[.pointer (some ⟨g, 0, none⟩)] 25) := by
  go_enter Try.func46, Try.ntmps46
  go_wp2
  go_ret
  exact ⟨rfl, rfl⟩
/-- no page ahead of the k-th one is free -/
def NoFree (pg : Pg Int) (k : Nat) : Prop := ∀ i c, i < k → pg[i]? = some c → c.2 ≠ 0
theorem free1_at (pg : Pg Int) (k : Nat) (c : List Int × Nat) (hk : pg[k]? = some c) (h : NoFree pg k) (h0 : c.2 = 0) : free1 pg 0 = some k := by
  cases hf : free1 pg 0 with
  | none => exact absurd h0 (free1_none pg 0 hf k c hk)
  | some a =>
    obtain ⟨j, c', e, h1, h2, h3⟩ := free1_some pg 0 a hf
    rw [Nat.zero_add] at e
    subst e
    rcases Nat.lt_trichotomy a k with hlt | rfl | hgt
    · exact absurd h2 (h a c' hlt h1)
    · rfl
    · exact absurd h0 (h3 k c hgt hk)
theorem free1_far (pg : Pg Int) (h : NoFree pg pg.length) : free1 pg 0 = none := by
  cases hf : free1 pg 0 with
  | none => rfl
  | some a =>
    obtain ⟨c, h1, h2⟩ := free1_lt hf
    exact absurd h2 (h a c (List.getElem?_eq_some_iff.1 h1).1 h1)
/-- what take answers and leaves -/
def Taken (w : World) (τ : Tags) (g : Nat) (ly : Lay) (s op : Nat) (pg : Pg Int) (ro : Ro) (e : Ending) (w' : World) : Prop :=
  match free1 pg 0 with
  | none => e = .returned (.tuple #[.int .i64 0, .int .i64 16]) ∧ PoolAt kind w' τ g ly s op pg ro ∧ Below w.heap.size w w'
  | some a => e = .returned (.tuple #[.int .i64 (a : Int), .int .i64 0]) ∧ PoolAt kind w' τ g ly s op (pg.set a ((pageOf pg a).1, 1)) ro ∧ Step Tag.mine τ τ w w'
set_option maxHeartbeats 4000000 in
theorem take_any (h : PoolAt kind w τ g ly s op pg ro) (hm : pg.length ≤ 1000000) : Calls Try.prog 60 #[.pointer (some ⟨g, 0, none⟩)] w fun e w' => Taken w τ g ly s op pg ro e w' := by
  obtain ⟨G, hG⟩ : ∃ G, pg.length = G := ⟨_, rfl⟩
  have HG := Lib.hid hG
  have H := Lib.hid h
  rw [hG] at hm
  clear h hG
  go_enter Try.func60, Try.ntmps60
  go_wp2
  try go_step3
  go_wp2_with fail
  refine (tellFree_any _ _).mono ?_
  rintro e w1 ⟨rfl, hw1⟩
  have HW1 := Lib.hid hw1
  clear hw1
  have hq : w1.heap[w.heap.size]? = some (.cells #[.pointer (some ⟨g, 0, none⟩)] 25 (0, 0)) := by rw [HW1.out]; exact alloc_new _ _
  have hbel : Below w.heap.size w w1 := by rw [HW1.out]; exact (Below.refl _ _).alloc (Nat.le_refl _) _
  have H1 := Lib.hid (H.out.below hbel)
  have HQ := Lib.hid hq
  have HBel := Lib.hid hbel
  clear H HW1 hq hbel
  obtain ⟨q, hqq⟩ : ∃ q, w.heap.size = q := ⟨_, rfl⟩
  rw [hqq] at HQ ⊢
  have HQq := Lib.hid hqq
  clear hqq
  obtain ⟨_, c1, _, _⟩ := H1.out.cells
  rw [HG.out] at c1
  go_wp2
  go_step3
  go_wp2
  go_loop [5] (fun pv => ∃ k : Nat, k ≤ G ∧ pv = .int .i64 k ∧ NoFree pg k) (fun pv => G - (intOf pv).toNat)
  case atStart => exact ⟨0, by omega, rfl, fun i c hi => by omega⟩
  case round =>
    obtain ⟨k, hk, rfl, hno⟩ := hrel
    have HNo := Lib.hid hno
    clear hno
    by_cases hkG : k < G
    · have hd : ((k : Int) == (G : Int)) = false := by
        have : (k : Int) ≠ (G : Int) := by omega
        simpa using this
      obtain ⟨c, hc⟩ : ∃ c, pg[k]? = some c := ⟨_, List.getElem?_eq_getElem (by rw [HG.out]; exact hkG)⟩
      have HC := Lib.hid hc
      clear hc
      obtain ⟨q1, q2⟩ := H1.out.page HC.out
      have q3 := (H1.out.free (k * 2 + 1)).2.1
      by_cases h0 : c.2 = 0
      · have hB : (c.2 == 0) = true := by simpa using h0
        have HF := Lib.hid (free1_at pg k c HC.out HNo.out h0)
        clear h0
        go_wp2_with fail
        refine (free_any H1.out k c HC.out q HQ.out).mono ?_
        rintro e w2 ⟨rfl, rfl⟩
        rw [hB]
        clear hB hd
        have HW := Lib.hid (H1.out.setCount HC.out 1)
        have HSt : Hid (Step Tag.mine τ τ w1 (w1.setCell ⟨ly.b, k * 2 + 1, none⟩ (.int .i64 ((1 : Nat) : Int)))) := Lib.hid (step_set H1.out.tpages rfl)
        go_wp2
        rw [Exit.noGoto_ret]
        go_ret2
        show Taken _ _ _ _ _ _ _ _ _ _
        unfold Taken
        rw [HF.out]
        refine ⟨rfl, ?_, (Step.below (HQq.out ▸ HBel.out)).trans HSt.out⟩
        rw [pageOf_eq HC.out]
        exact HW.out
      · have hB : (c.2 == 0) = false := by simpa using h0
        have HN0 := Lib.hid h0
        clear h0
        go_wp2_with fail
        refine (free_any H1.out k c HC.out q HQ.out).mono ?_
        rintro e w2 ⟨rfl, rfl⟩
        rw [hB]
        clear hB hd
        go_wp2
        go_round
        case rel => exact ⟨k + 1, by omega, by go_num, fun i c' hi hc' => by
          rcases Nat.lt_succ_iff_lt_or_eq.1 hi with h | rfl
          · exact HNo.out i c' h hc'
          · rw [HC.out] at hc'; cases hc'; exact HN0.out⟩
        case measure => simp [intOf]; omega
    · obtain rfl : k = G := by omega
      have hd : ((k : Int) == (k : Int)) = true := by simp
      go_wp2
      try rw [Exit.noGoto_ret]
      go_ret2
      show Taken _ _ _ _ _ _ _ _ _ _
      unfold Taken
      rw [free1_far pg (by rw [HG.out]; exact HNo.out)]
      exact ⟨rfl, H1.out, HQq.out ▸ HBel.out⟩
end
end Go.Proofs.Ytcfhchdkohjbfaa.Kv.I
