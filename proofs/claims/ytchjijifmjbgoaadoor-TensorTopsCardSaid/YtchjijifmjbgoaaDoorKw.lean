import Derived.Test.YtchjijifmjbgoaaDoorKv
namespace Go.Proofs.YtchjijifmjbgoaaDoor.Tn
set_option maxRecDepth 100000
open Go.ChangeShapes Go.WideShapes Go.ChangeAt Go.RowKit Go.Sort Go.Proofs.YtchjijifmjbgoaaDoor.Fx Go.Proofs.YtchjijifmjbgoaaDoor.Rf

theorem srtW_range {wb W : World} {P n : Nat} (hb : RowKit.Below wb.heap.size wb W) (hr : W.heap[P]? = some (.cells (rowN (List.range n)) 3 (0, 0))) (hP : wb.heap.size ≤ P) : SrtW wb P n W (List.range n).toArray W :=
  ⟨hb, ⟨rfl, rfl, rfl, Nat.le_refl _, fun _ _ _ => rfl⟩, by rw [hr, rowN_rowA], by simp, fun i hi => by
    rw [getElem!_pos _ i (by simpa using hi)]
    simpa using hi, hP⟩
/-- s[:k] of a slice of numbers -/
theorem run_head2 (sp : Option Addr) (m cap k : Nat) (hk : k ≤ cap) (w : World) : (Instr.slice 22 (.slice sp m cap) none (some (.int .i64 (k : Int))) none).run Tryd.prog w = .ok (.slice sp k cap) w := by
  cases hq : Tryd.prog.info? 3 with
  | none => have := size3; simp [hq] at this
  | some i =>
    have hi : i.size = 1 := by have := size3; simpa [hq] using this
    simp only [Instr.slice, run_underlying Tryd.underlying22, Instr.sliceBounds, Instr.sliceBound, asIntOf, sizeOf, typeInfo, Sem.run_bind, Result.andThen_ok, Sem.run_pure, Sem.run_ite]
    have h0 : sp.map (·.add 0) = sp := by
      cases sp with
      | none => rfl
      | some a => obtain ⟨b, o, s⟩ := a; simp [Addr.add]
    simp [hq, hi, hk, h0]
theorem nums_top {W : World} {wb w0 : World} {P n k : Nat} {d' : Array Nat} (h : SrtW wb P n w0 d' W) (hn : n ≤ 1000) (hk : k ≤ n) : Nums W (some ⟨P, 0, none⟩) n ((d'.toList.take k).map fun i : Nat => (i : Int)) := by
  have hsz := h.size
  refine ⟨by simp; omega, by unfold maxLen; omega, (fun e => by cases e), fun _ => ⟨P, 0, rfl, fun i v hv => ?_⟩⟩
  have hi : i < k ∧ i < d'.size := by
    have := (List.getElem?_eq_some_iff.1 hv).1
    simp at this
    omega
  rw [Nat.zero_add, h.cell i (by omega), ← hv]
  simp [hi.1, hi.2]
set_option maxHeartbeats 4000000 in
theorem topm_any (w : World) (sp : Option Addr) (cap N P k : Nat) (l : List Int) (hN : l.length = N) (h1 : 1 ≤ N) (h5 : N ≤ 512) (_k1 : 1 ≤ k) (k2 : k ≤ N) (wb : World) (_hl : Nums wb sp cap l) (hP : wb.heap.size ≤ P) (hb : RowKit.Below wb.heap.size wb w) (hr : w.heap[P]? = some (.cells (rowN (List.range N)) 3 (0, 0)))
    (hp : PdqOK wb P N 78 (.agg #[.slice sp N cap, .slice (some ⟨P, 0, none⟩) N N]) (cfI l)) :
    Calls Tryd.prog 63 #[.agg #[.slice sp N cap, .slice (some ⟨P, 0, none⟩) N N], .int .i64 (k : Int)] w fun e w' => ∃ s c, e = .returned (.slice s k c) ∧ Nums w' s c (topI l k) ∧ RowKit.Below wb.heap.size wb w' := by
  have hPlt := (Array.getElem?_eq_some_iff.1 hr).1
  have HSo : Hid (∀ W, w.heap.size ≤ W.heap.size → RowKit.Below w.heap.size w W → Calls Tryd.prog 77 #[.slice (some ⟨P, 0, none⟩) N N, .func (.func 78) #[.agg #[.slice sp N cap, .slice (some ⟨P, 0, none⟩) N N]] #[]] W fun e w' => e = .returned (.tuple #[]) ∧ W.grownBy w' (some P) ∧ RowKit.Below wb.heap.size wb w' ∧ Nums w' (some ⟨P, 0, none⟩) N (topI l k)) := Lib.hid (fun W _ hW => by
    have hs := srtW_range (n := N) (hb.trans (hW.mono hb.size)) ((hW.block _ hPlt).trans hr) hP
    refine (sort_any P hp (by omega) W _ hs).mono ?_
    rintro e w' ⟨rfl, d', h1, h2, h3⟩
    have ht := sorted_top hN k2 h2 h3
    have hn := nums_top h1 (by omega) k2
    rw [ht] at hn
    exact ⟨rfl, h1.grown, h1.below, hn⟩)
  have HTl := Lib.hid (topI_length l k)
  have kC := run_head2 (some ⟨P, 0, none⟩) N N k k2
  obtain ⟨T, hT⟩ : ∃ T, topI l k = T := ⟨_, rfl⟩
  rw [hT] at HSo HTl ⊢
  clear hb hr _hl hN hp hT
  go_enter Tryd.func63, Tryd.ntmps63
  go_upto_region 1 with fail
  refine gen_world (Q := fun w => Code.wp _ _ _ _ w) _ (fun W => RowKit.Below w.heap.size w W ∧ W.heap[w.heap.size]? = some (.cells #[.slice sp N cap, .slice (some ⟨P, 0, none⟩) N N] 83 (0, 0))) ⟨(Below.refl _ _).alloc (Nat.le_refl _) _, heap_alloc_new _ _⟩ ?_
  rintro w1 ⟨hb1, hr1⟩
  have HB1 := Lib.hid hb1
  have HR1 := Lib.hid hr1
  have c1 : w1.cell? ⟨w.heap.size, 1, none⟩ = some (.slice (some ⟨P, 0, none⟩) N N) := by rw [cell_of_row _ _ _ _ _ _ hr1]; rfl
  clear hb1 hr1
  go_wp2_with (refine wpList_load_row rfl 83 (.tmp 2) rfl w.heap.size rfl 83 #[.slice sp N cap, .slice (some ⟨P, 0, none⟩) N N] (0, 0) _ HR1.out Tryd.underlying83 rfl size_order ?_)
  refine (HSo.out w1 HB1.out.size HB1.out).mono ?_
  rintro e w2 ⟨rfl, hg2, hb2, hn2⟩
  have hr2 := (hg2.block w.heap.size (Array.getElem?_eq_some_iff.1 HR1.out).1 (by simp; omega)).trans HR1.out
  have c1 : w2.cell? ⟨w.heap.size, 1, none⟩ = some (.slice (some ⟨P, 0, none⟩) N N) := by rw [cell_of_row _ _ _ _ _ _ hr2]; rfl
  have HB2 := Lib.hid hb2
  have HCl := Lib.hid (clone_any w2 ⟨P, 0, none⟩ N k T HTl.out hn2 (by omega))
  clear hg2 hb2 hn2 hr2
  go_wp2_with fail
  refine HCl.out.mono ?_
  rintro e w3 ⟨s3, c3, rfl, hn3, hb3⟩
  have HN3 := Lib.hid hn3
  have HB3 := Lib.hid (HB2.out.trans (hb3.mono HB2.out.size))
  clear hn3 hb3
  go_wp2
  go_ret
  exact ⟨s3, c3, by rw [HTl.out]; rfl, HN3.out, HB3.out⟩
set_option maxHeartbeats 4000000 in
theorem ttop_any (w : World) (sp : Option Addr) (cap N : Nat) (l : List Int) (k : Int) (hN : l.length = N) (hl : Nums w sp cap l) (k1 : -9223372036854775808 ≤ k) (k2 : k ≤ 9223372036854775807)
    (hp : chkV l = 0 → ∀ P, PdqOK w P N 78 (.agg #[.slice sp N cap, .slice (some ⟨P, 0, none⟩) N N]) (cfI l)) :
    Calls Tryd.prog 30 #[.slice sp N cap, .int .i64 k] w (AnsE w (topV l k) (topE l k)) := by
  have hNm : N ≤ 9223372036854775807 := by rw [← hN]; exact hl.len
  have HB0 := Lib.hid (Below.refl w.heap.size w)
  have HC := Lib.hid (fun W g (hg : g = W.heap.size) (hb : RowKit.Below w.heap.size w W) => check_any _ _ 1 1 [l] rfl (vecs_new1 W g hg sp cap N l hN (hl.below hb)))
  simp only [chkL1] at HC
  by_cases hc : chkV l = 0
  · obtain ⟨z1, z2, z3⟩ := chkV_zero hc
    have hN5 : N ≤ 512 := by omega
    by_cases hk : 1 ≤ k ∧ k ≤ (N : Int)
    · obtain ⟨q, hq⟩ : ∃ q : Nat, k = (q : Int) := ⟨k.toNat, by omega⟩
      subst hq
      have hE : topE l (q : Int) = 0 := by unfold topE; rw [if_neg (by omega), if_neg (by omega)]
      have hV : topV l (q : Int) = topI l q := by unfold topV; rw [if_pos hE, Int.toNat_natCast]
      rw [hE, hV]
      rw [hc] at HC
      have HT : Hid (cnt (q : Int) (N : Int) = true) := Lib.hid (cnt_yes hk)
      have HF := Lib.hid (fun W (P : Nat) (hP : w.heap.size ≤ P) (hb : RowKit.Below w.heap.size w W) hr => topm_any W sp cap N P q l hN (by omega) (by omega) (by omega) (by omega) w hl hP hb hr (hp hc P))
      have HTl := Lib.hid (topI_length l q)
      obtain ⟨T, hT⟩ : ∃ T, topI l q = T := ⟨_, rfl⟩
      rw [hT] at HF HTl ⊢
      clear hV hE hc z1 z2 z3 hl hN hT hk hp
      go_enter Tryd.func30, Tryd.ntmps30
      go_wp2_with fail
      refine (HC.out _ _ rfl HB0.out).mono ?_
      rintro e w1 ⟨rfl, hb1⟩
      have HB1 := Lib.hid ((HB0.out.alloc (Nat.le_refl _) (.cells #[.slice sp N cap] 22)).trans (hb1.mono (by simp)))
      clear hb1
      go_wp2_with fail
      refine (count_any _ _ _).mono ?_
      rintro e w' ⟨rfl, rfl⟩
      rw [HT.out]
      go_wp2_with fail
      refine (orderOf_any w1 sp cap N hN5).mono ?_
      rintro e w2 ⟨rfl, hb2, hr2⟩
      have HB2 := Lib.hid (HB1.out.trans (hb2.mono HB1.out.size))
      have HFF := Lib.hid (HF.out w2 (w1.heap.size + 1) (by have := HB1.out.size; omega) HB2.out hr2)
      clear hb2 hr2
      go_wp2_with fail
      refine HFF.out.mono ?_
      rintro e w3 ⟨s3, c3, rfl, hn3, hb3⟩
      have HN3 := Lib.hid hn3
      have HB3 := Lib.hid hb3
      clear hn3 hb3
      go_wp2
      go_ret2
      exact ⟨s3, c3, by rw [HTl.out]; rfl, HN3.out, HB3.out⟩
    · have hE : topE l k = 10 := by unfold topE; rw [if_neg (by omega), if_pos (by omega)]
      have hV : topV l k = [] := by unfold topV; rw [if_neg (by omega)]
      rw [hE, hV]
      rw [hc] at HC
      have HT : Hid (cnt k (N : Int) = false) := Lib.hid (cnt_no hk)
      clear hV hE hc z1 z2 z3 hl hN hk hp
      go_enter Tryd.func30, Tryd.ntmps30
      go_wp2_with fail
      refine (HC.out _ _ rfl HB0.out).mono ?_
      rintro e w1 ⟨rfl, hb1⟩
      have HB1 := Lib.hid ((HB0.out.alloc (Nat.le_refl _) (.cells #[.slice sp N cap] 22)).trans (hb1.mono (by simp)))
      clear hb1
      go_wp2_with fail
      refine (count_any _ _ _).mono ?_
      rintro e w' ⟨rfl, rfl⟩
      rw [HT.out]
      go_wp2
      go_ret2
      exact AnsE.no HB1.out
  · have hE : topE l k = chkV l := by unfold topE; rw [if_pos hc]
    have hV : topV l k = [] := by unfold topV; rw [if_neg (by omega)]
    rw [hE, hV]
    have hne := ne0 hc
    obtain ⟨E, hEE⟩ : ∃ E, chkV l = E := ⟨_, rfl⟩
    rw [hEE] at HC hne ⊢
    clear hV hE hc hl hN hEE hp
    go_enter Tryd.func30, Tryd.ntmps30
    go_wp2_with fail
    refine (HC.out _ _ rfl HB0.out).mono ?_
    rintro e w1 ⟨rfl, hb1⟩
    have HB1 := Lib.hid ((HB0.out.alloc (Nat.le_refl _) (.cells #[.slice sp N cap] 22)).trans (hb1.mono (by simp)))
    clear hb1
    go_wp2
    go_ret2
    exact AnsE.no HB1.out
theorem top_small (w : World) (sp : Option Addr) (cap N : Nat) (l : List Int) (k : Int) (hN : l.length = N) (hl : Nums w sp cap l) (h12 : N ≤ 12) (k1 : -9223372036854775808 ≤ k) (k2 : k ≤ 9223372036854775807) :
    Calls Tryd.prog 30 #[.slice sp N cap, .int .i64 k] w (AnsE w (topV l k) (topE l k)) :=
  ttop_any w sp cap N l k hN hl k1 k2 fun _ P => pdq_small ⟨eg_of Tryd.func78 (by kernel_rfl) (by kernel_rfl), cmp_ord w sp _ cap N N N l hN hl, by omega⟩ (swo_ord l) P h12
end Go.Proofs.YtchjijifmjbgoaaDoor.Tn
