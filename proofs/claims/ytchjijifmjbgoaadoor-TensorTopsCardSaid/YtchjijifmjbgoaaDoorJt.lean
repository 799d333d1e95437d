import Derived.Test.YtchjijifmjbgoaaDoorJr
namespace Go.Proofs.YtchjijifmjbgoaaDoor.Tn
set_option maxRecDepth 100000
open Go.ChangeShapes Go.WideShapes Go.ChangeAt Go.RowKit Go.Sort Go.Proofs.YtchjijifmjbgoaaDoor.Fx Go.Proofs.YtchjijifmjbgoaaDoor.Rf

/-! ### the landed code: the first of the greatest ones -/
theorem ahead_total {l : List Int} {p q : Nat} (h : p ≠ q) : ahead l p q ∨ ahead l q p := by
  unfold ahead
  by_cases h1 : l.getD q 0 < l.getD p 0
  · exact Or.inl (Or.inl h1)
  · by_cases h2 : l.getD p 0 < l.getD q 0
    · exact Or.inr (Or.inl h2)
    · rcases Nat.lt_or_ge p q with h3 | h3
      · exact Or.inl (Or.inr ⟨by omega, h3⟩)
      · exact Or.inr (Or.inr ⟨by omega, by omega⟩)
/-- a comparison, whatever the world (what lay in wb lies as it lay) -/
def CmpOK (wb : World) (g : FuncId) (recv : Value) (n : Nat) (cf : Nat → Nat → Int) : Prop :=
  ∀ W, Below wb.heap.size wb W → ∀ i j : Nat, i < n → j < n → Calls Tryd.prog g #[recv, .int .i64 (i : Int), .int .i64 (j : Int)] W fun e w' => e = .returned (.int .i64 (cf i j)) ∧ Below W.heap.size W w'
theorem cmp_ord (wb : World) (sp sq : Option Addr) (cap N n caq : Nat) (l : List Int) (hN : l.length = N) (hl : Nums wb sp cap l) : CmpOK wb 78 (.agg #[.slice sp N cap, .slice sq n caq]) N (cfI l) :=
  fun W hb i j hi hj => ord_any W sp sq cap N n caq i j l hN (hl.below hb) hi hj
theorem range_get {n k : Nat} (h : k < n) : (List.range n).getD k 0 = k := by simp [h]
set_option maxHeartbeats 4000000 in
theorem min_any (w wb : World) (g : FuncId) (recv : Value) (P n : Nat) (l : List Int) (hn : n ≤ 1000) (h1 : 1 ≤ n) (hb : Below wb.heap.size wb w) (hr : w.heap[P]? = some (.cells (rowN (List.range n)) 3 (0, 0)))
    (eg : ∀ args w, (callFunc g args).run Tryd.prog w = .ok (.enter g args) w) (hc : CmpOK wb g recv n (cfI l)) :
    Calls Tryd.prog 79 #[.slice (some ⟨P, 0, none⟩) n n, .func (.func g) #[recv] #[]] w fun e w' => (∃ p : Nat, e = .returned (.int .i64 (p : Int)) ∧ p < n ∧ ∀ q, q < n → q = p ∨ ahead l p q) ∧ Below w.heap.size w w' := by
  have HB := Lib.hid hb
  have HR := Lib.hid hr
  have HC := Lib.hid hc
  have hc0 : w.cell? ⟨P, 0, none⟩ = some (.int .i64 0) := by
    rw [cell_of_row _ _ _ _ _ _ hr, rowN_get _ _ (by simp; omega), range_get (by omega)]
    rfl
  have d0 : decide ((n : Int) < 1) = false := by simp; omega
  clear hb hr hc
  go_enter Tryd.func79, Tryd.ntmps79
  go_wp2
  go_loopw [5, 6] (fun m t wr => ∃ i p : Nat, 1 ≤ i ∧ i ≤ n ∧ p < i ∧ t = .int .i64 i ∧ m = .int .i64 p ∧ (∀ q, q < i → q = p ∨ ahead l p q) ∧ Below w.heap.size w wr) (fun _ t _ => n - (intOf t).toNat)
  case atStart => exact ⟨1, 0, by omega, by omega, by omega, rfl, rfl, (fun q hq => Or.inl (by omega)), Below.refl _ _⟩
  case round =>
    clear hc0
    obtain ⟨i, p, hi1, hi, hp, rfl, rfl, hq, hbr⟩ := hrel
    have HQ := Lib.hid hq
    have HBr := Lib.hid hbr
    clear hq hbr
    by_cases hlt : i < n
    · have hdt : decide (i < n) = true := by simp; omega
      have hrow := (HBr.out.block _ (Array.getElem?_eq_some_iff.1 HR.out).1).trans HR.out
      have hci : wr.cell? ⟨P, i, none⟩ = some (.int .i64 i) := by
        rw [cell_of_row _ _ _ _ _ _ hrow, rowN_get _ _ (by simpa using hlt), range_get hlt]
      have HCc := Lib.hid (HC.out wr (HB.out.trans (HBr.out.mono HB.out.size)) i p hlt (by omega))
      clear hrow
      go_wp2_with fail
      refine HCc.out.mono ?_
      rintro e w1 ⟨rfl, hb1⟩
      have hrow1 := ((HBr.out.trans (hb1.mono HBr.out.size)).block _ (Array.getElem?_eq_some_iff.1 HR.out).1).trans HR.out
      have hci1 : w1.cell? ⟨P, i, none⟩ = some (.int .i64 i) := by
        rw [cell_of_row _ _ _ _ _ _ hrow1, rowN_get _ _ (by simpa using hlt), range_get hlt]
      have HB1 := Lib.hid (HBr.out.trans (hb1.mono HBr.out.size))
      clear hb1 hrow1 hci
      by_cases hah : ahead l i p
      · have hd : decide (cfI l i p < 0) = true := by simpa using cfI_lt.2 hah
        have HQ2 : Hid (∀ q, q < i + 1 → q = i ∨ ahead l i q) := Lib.hid (fun q hq => by
          rcases Nat.lt_or_ge q i with h | h
          · rcases HQ.out q h with rfl | h2
            · exact Or.inr hah
            · exact Or.inr (ahead_trans hah h2)
          · exact Or.inl (by omega))
        clear hah
        go_wp2
        go_roundw
        case rel => exact ⟨i + 1, i, by omega, by omega, by omega, by go_num, rfl, HQ2.out, HB1.out⟩
        case measure => simp [intOf]; omega
      · have hd : decide (cfI l i p < 0) = false := by simpa using fun h => hah (cfI_lt.1 h)
        have HQ2 : Hid (∀ q, q < i + 1 → q = p ∨ ahead l p q) := Lib.hid (fun q hq => by
          rcases Nat.lt_or_ge q i with h | h
          · exact HQ.out q h
          · obtain rfl : q = i := by omega
            rcases ahead_total (l := l) (show q ≠ p by omega) with h2 | h2
            · exact absurd h2 hah
            · exact Or.inr h2)
        clear hah
        go_wp2
        go_roundw
        case rel => exact ⟨i + 1, p, by omega, by omega, by omega, by go_num, rfl, HQ2.out, HB1.out⟩
        case measure => simp [intOf]; omega
    · obtain rfl : i = n := by omega
      have hdf : decide (i < i) = false := by simp
      go_wp2
      go_ret
      exact ⟨⟨p, rfl, hp, HQ.out⟩, HBr.out⟩
theorem next_of {l : List Int} {p : Nat} (hp : p < l.length) (h : ∀ q, q < l.length → q = p ∨ ahead l p q) : nextT l [] = p := by
  obtain ⟨_, h2, _, h4⟩ := nextT_spec (l := l) (out := []) List.nodup_nil (fun p hp => by cases hp) (by simp; omega)
  rcases h4 p hp (by simp) with h5 | h5
  · exact h5.symm
  · rcases h _ h2 with h6 | h6
    · exact h6
    · exact absurd h6 (ahead_asymm h5)
set_option maxHeartbeats 4000000 in
theorem first_any (w : World) (sp : Option Addr) (cap N P : Nat) (l : List Int) (hN : l.length = N) (h1 : 1 ≤ N) (h5 : N ≤ 512) (wb : World) (hl : Nums wb sp cap l) (hb : Below wb.heap.size wb w) (hr : w.heap[P]? = some (.cells (rowN (List.range N)) 3 (0, 0))) :
    Calls Tryd.prog 64 #[.agg #[.slice sp N cap, .slice (some ⟨P, 0, none⟩) N N]] w fun e w' => e = .returned (.int .i64 (nextT l [] : Int)) ∧ Below w.heap.size w w' := by
  have HM : Hid (∀ W, Below wb.heap.size wb W → W.heap[P]? = some (.cells (rowN (List.range N)) 3 (0, 0)) → Calls Tryd.prog 79 #[.slice (some ⟨P, 0, none⟩) N N, .func (.func 78) #[.agg #[.slice sp N cap, .slice (some ⟨P, 0, none⟩) N N]] #[]] W fun e w' => e = .returned (.int .i64 (nextT l [] : Int)) ∧ Below W.heap.size W w') := Lib.hid (fun W hW hrW => by
    refine (min_any W wb 78 _ P N l (by omega) h1 hW hrW (eg_of Tryd.func78 (by kernel_rfl) (by kernel_rfl)) (cmp_ord wb sp _ cap N N N l hN hl)).mono ?_
    rintro e w' ⟨⟨p, rfl, hp, hq⟩, hb'⟩
    have en := next_of (l := l) (p := p) (by omega) (by rw [hN]; exact hq)
    exact ⟨by rw [en], hb'⟩)
  obtain ⟨T, hT⟩ : ∃ T, nextT l [] = T := ⟨_, rfl⟩
  rw [hT] at HM ⊢
  have HB := Lib.hid hb
  have HR := Lib.hid hr
  clear hb hr hl hN hT
  go_enter Tryd.func64, Tryd.ntmps64
  go_upto_region 1 with fail
  refine gen_world (Q := fun w => Code.wp _ _ _ _ w) _ (fun W => Below w.heap.size w W ∧ W.heap[w.heap.size]? = some (.cells #[.slice sp N cap, .slice (some ⟨P, 0, none⟩) N N] 83 (0, 0))) ⟨(Below.refl _ _).alloc (Nat.le_refl _) _, heap_alloc_new _ _⟩ ?_
  rintro w1 ⟨hb1, hr1⟩
  have HB1 := Lib.hid hb1
  have HR1 := Lib.hid hr1
  have c1 : w1.cell? ⟨w.heap.size, 1, none⟩ = some (.slice (some ⟨P, 0, none⟩) N N) := by rw [cell_of_row _ _ _ _ _ _ hr1]; rfl
  have HMM := Lib.hid (HM.out w1 (HB.out.trans (hb1.mono HB.out.size)) ((hb1.block _ (Array.getElem?_eq_some_iff.1 HR.out).1).trans HR.out))
  clear hb1 hr1
  go_wp2_with (refine wpList_load_row rfl 83 (.tmp 1) rfl w.heap.size rfl 83 #[.slice sp N cap, .slice (some ⟨P, 0, none⟩) N N] (0, 0) _ HR1.out Tryd.underlying83 rfl size_order ?_)
  refine HMM.out.mono ?_
  rintro e w2 ⟨rfl, hb2⟩
  have HB2 := Lib.hid (HB1.out.trans (hb2.mono HB1.out.size))
  clear hb2
  go_wp2
  go_ret
  exact ⟨rfl, HB2.out⟩
set_option maxHeartbeats 4000000 in
theorem tmost_any (w : World) (sp : Option Addr) (cap N : Nat) (l : List Int) (hN : l.length = N) (hl : Nums w sp cap l) :
    Calls Tryd.prog 31 #[.slice sp N cap] w fun e w' => e = .returned (.tuple #[.int .i64 (mostR l), .int .i64 (chkV l)]) ∧ Below w.heap.size w w' := by
  have HB0 := Lib.hid (Below.refl w.heap.size w)
  have HC := Lib.hid (fun W g (hg : g = W.heap.size) (hb : Below w.heap.size w W) => check_any _ _ 1 1 [l] rfl (vecs_new1 W g hg sp cap N l hN (hl.below hb)))
  simp only [chkL1] at HC
  by_cases hc : chkV l = 0
  · have hV : mostR l = (nextT l [] : Int) := by unfold mostR; rw [if_pos hc]
    rw [hV, hc]
    rw [hc] at HC
    obtain ⟨z1, z2, z3⟩ := chkV_zero hc
    have HF := Lib.hid (fun W (P : Nat) (hb : Below w.heap.size w W) hr => first_any W sp cap N P l hN (by omega) (by omega) w hl hb hr)
    obtain ⟨T, hT⟩ : ∃ T, nextT l [] = T := ⟨_, rfl⟩
    rw [hT] at HF ⊢
    have hN5 : N ≤ 512 := by omega
    clear hV hc z1 z2 z3 hl hN hT
    go_enter Tryd.func31, Tryd.ntmps31
    go_wp2_with fail
    refine (HC.out _ _ rfl HB0.out).mono ?_
    rintro e w1 ⟨rfl, hb1⟩
    have HB1 := Lib.hid ((HB0.out.alloc (Nat.le_refl _) (.cells #[.slice sp N cap] 22)).trans (hb1.mono (by simp)))
    clear hb1
    go_wp2_with fail
    refine (orderOf_any w1 sp cap N hN5).mono ?_
    rintro e w2 ⟨rfl, hb2, hr2⟩
    have HB2 := Lib.hid (HB1.out.trans (hb2.mono HB1.out.size))
    have HFF := Lib.hid (HF.out w2 (w1.heap.size + 1) HB2.out hr2)
    clear hb2 hr2
    go_wp2_with fail
    refine HFF.out.mono ?_
    rintro e w3 ⟨rfl, hb3⟩
    have HB3 := Lib.hid (HB2.out.trans (hb3.mono HB2.out.size))
    clear hb3
    go_wp2
    go_ret2
    exact ⟨rfl, HB3.out⟩
  · have hV : mostR l = 0 := by unfold mostR; rw [if_neg hc]
    rw [hV]
    have hne := ne0 hc
    obtain ⟨E, hEE⟩ : ∃ E, chkV l = E := ⟨_, rfl⟩
    rw [hEE] at HC hne ⊢
    clear hV hc hl hN hEE
    go_enter Tryd.func31, Tryd.ntmps31
    go_wp2_with fail
    refine (HC.out _ _ rfl HB0.out).mono ?_
    rintro e w1 ⟨rfl, hb1⟩
    have HB1 := Lib.hid ((HB0.out.alloc (Nat.le_refl _) (.cells #[.slice sp N cap] 22)).trans (hb1.mono (by simp)))
    clear hb1
    go_wp2
    go_ret2
    exact ⟨rfl, HB1.out⟩
end Go.Proofs.YtchjijifmjbgoaaDoor.Tn
