/- Pools of rows in pages (Y): makeRoom. -/
import Derived.Test.YtcfhchdkohjbfaaYc
namespace Go.Proofs.Ytcfhchdkohjbfaa.Kv.Y
set_option maxRecDepth 100000
open Go.ChangeShapes Go.WideShapes Go.ChangeAt Go.RowKit Go.Proofs.Ytcfhchdkohjbfaa.Tn
open Go.ChangeMaps (setBlock heap_setBlock_same heap_setBlock_other)
section
variable {w : World} {τ : Tags} {g : Nat} {ly : Lay} {s op : Nat} {pg : Pg Int} {ro : Ro}
/-- what makeRoom answers and leaves -/
def Roomy (w : World) (τ : Tags) (g : Nat) (ly : Lay) (s op : Nat) (pg : Pg Int) (ro : Ro) (id n : Nat) (P : List Nat) (e : Ending) (w' : World) : Prop :=
  match room s pg n P with
  | none => e = .returned (.int .i64 16) ∧ PoolAt kind w' τ g ly s op pg ro ∧ Step Tag.mine τ τ w w'
  | some (pg1, P1) => e = .returned (.int .i64 0) ∧ ∃ τ' ly', PoolAt kind w' τ' g ly' s op pg1 (ro.set id (some (n, P1))) ∧ Step Tag.mine τ τ' w w' ∧ ly'.rb = ly.rb
theorem modw {n s : Nat} : (n : Int).tmod (s : Int) = ((n % s : Nat) : Int) := by rw [Int.tmod_eq_emod_of_nonneg (by omega)]; rfl
theorem row_kept (h : PoolAt kind w τ g ly s op pg ro) {id n : Nat} {P : List Nat} (hr : ro[id]? = some (some (n, P))) {w1 w2 : World} (hb : Below w.heap.size w w1) (hg : w1.grownBy w2 (ly.pb id)) : w2.cell? ⟨ly.rb id, 1, none⟩ = some (ly.pv id) ∧ w2.frozen? ⟨ly.rb id, 1, none⟩ = false := by
  obtain ⟨h1, h2, _, h4⟩ := h.row id n P hr
  have hlt := h.fits _ _ h2
  have e : w2.heap[ly.rb id]? = some (.cells #[.int .i64 (n : Int), ly.pv id] tR (0, 0)) := by
    rw [hg.block _ (Nat.lt_of_lt_of_le hlt hb.size) (fun e => by have := h4 _ e.symm; rw [h2] at this; cases this), hb.block _ hlt]
    exact h1
  exact ⟨by rw [cell_of_row _ _ _ _ _ _ e]; rfl, row_frozen e⟩
theorem gen_w {Q : World → Prop} (w : World) (P : World → Prop) (h : P w) (k : ∀ W, P W → Q W) : Q w := k w h
theorem grown_trans {W1 W2 W3 : World} {row : Option Nat} (h1 : W1.grownBy W2 row) (h2 : W2.grownBy W3 row) : W1.grownBy W3 row :=
  ⟨h2.os.trans h1.os, h2.tape.trans h1.tape, h2.output.trans h1.output, Nat.le_trans h1.size h2.size, fun k hk hne => (h2.block k (by have := h1.size; omega) hne).trans (h1.block k hk hne)⟩
theorem grown_of {w w' : World} (hb : Below w.heap.size w w') (row : Option Nat) : w.grownBy w' row := ⟨hb.os, hb.tape, hb.output, hb.size, fun k hk _ => hb.block k hk⟩
theorem keep2 {w w' : World} {a b : Addr} {u v : Value} (h1 : w.cell? a = some u) (h2 : w.cell? b = some v) (hb : Below w.heap.size w w') : w'.cell? b = some v ∧ w'.cell? a = some u :=
  ⟨(hb.cell (block_lt_of_cell h2)).trans h2, (hb.cell (block_lt_of_cell h1)).trans h1⟩
/-- a copy is put into a page -/
theorem put_thing {w w' : World} (h : PoolAt kind w τ g ly s op pg ro) {a : Nat} {l0 l : List Int} {m : Nat} (hc : pg[a]? = some (l0, m)) (hb : Below w.heap.size w w') {v : Value} {d : Option Nat} (hr : Row w' 5 v d (l.map kind.vl)) (hd : ∀ q, d = some q → w.heap.size ≤ q)
    {b : Nat} {u z : Value} (h1 : w.cell? ⟨g, 1, none⟩ = some u) (h2 : w.cell? ⟨ly.b, b, none⟩ = some z) (hab : b ≠ a * 2) :
    Hid ((w'.setCell ⟨ly.b, a * 2, none⟩ v).cell? ⟨g, 1, none⟩ = some u ∧ (w'.setCell ⟨ly.b, a * 2, none⟩ v).cell? ⟨ly.b, b, none⟩ = some z) ∧
    Hid (∃ τ' ly', PoolAt kind (w'.setCell ⟨ly.b, a * 2, none⟩ v) τ' g ly' s op (pg.set a (l, m)) ro ∧ Step Tag.mine τ τ' w (w'.setCell ⟨ly.b, a * 2, none⟩ v) ∧ ly'.rb = ly.rb ∧ ly'.pv = ly.pv ∧ ly'.pb = ly.pb ∧ ly'.b = ly.b) := by
  refine ⟨Lib.hid ⟨?_, ?_⟩, Lib.hid (h.setThing hc (grown_of hb _) hr ?_)⟩
  · rw [World.cell?_setCell_other (h := fun e => ne_of_tag h.tpages h.tpool (by simp) (congrArg Addr.block e)), hb.cell (block_lt_of_cell h1)]
    exact h1
  · rw [World.cell?_setCell_other (h := fun e => hab (congrArg Addr.off e).symm), hb.cell (block_lt_of_cell h2)]
    exact h2
  · cases d with
    | none => exact Or.inl rfl
    | some q => exact Or.inr (Or.inr ⟨q, rfl, hd q rfl⟩)
set_option maxHeartbeats 4000000 in
theorem room_any (h : PoolAt kind w τ g ly s op pg ro) (hs : 1 ≤ s) (hs1 : s ≤ 1000) (id n : Nat) (P : List Nat) (hr : ro[id]? = some (some (n, P))) (_hn : n ≤ 1000000) (hPl : P.length ≤ 1000000) (hm : pg.length ≤ 1000000)
    (hc : ∀ (k : Nat) (c : List Int × Nat), pg[k]? = some c → c.2 ≤ 1000000) (hl : 0 < n % s → 0 < P.length ∧ ∃ c, pg[lastP P]? = some c ∧ n % s ≤ c.1.length ∧ 1 ≤ c.2) :
    Calls Try.prog 56 #[.pointer (some ⟨g, 0, none⟩), .pointer (some ⟨ly.rb id, 0, none⟩)] w fun e w' => Roomy w τ g ly s op pg ro id n P e w' := by
  obtain ⟨c0, c1, _, _⟩ := h.cells
  obtain ⟨r0, r1⟩ := h.rowC hr
  have H := Lib.hid h
  have HR := Lib.hid hr
  have HC := Lib.hid hc
  have HL := Lib.hid hl
  have HPl := Lib.hid hPl
  obtain ⟨G, hG⟩ : ∃ G, pg.length = G := ⟨_, rfl⟩
  have HG := Lib.hid hG
  rw [hG] at hm c1
  have hrem := modw (n := n) (s := s)
  have htl : n % s < s := Nat.mod_lt _ (by omega)
  obtain ⟨t, ht⟩ : ∃ t, n % s = t := ⟨_, rfl⟩
  rw [ht] at hrem htl
  have HT := Lib.hid ht
  have hz : ((s : Int) == 0) = false := by
    have : (s : Int) ≠ 0 := by omega
    simpa using this
  clear h hr hc hl hPl hG ht
  obtain ⟨rb, hrb⟩ : ∃ rb, ly.rb id = rb := ⟨_, rfl⟩
  rw [hrb] at r0 r1 ⊢
  have HRb := Lib.hid hrb
  clear hrb
  go_enter Try.func56, Try.ntmps56
  go_wp2
  go_quiet (fail)
  go_wp2
  generalize hw1 : w.drewN nq = w1
  have HB1 : Hid (Below w.heap.size w w1) := Lib.hid (by rw [← hw1]; exact set_drewN _ _)
  have H1 := Lib.hid (H.out.below HB1.out)
  have HS1 : Hid (Step Tag.mine τ τ w w1) := Lib.hid (Step.below HB1.out)
  clear H c0 c1 r0 r1 hrem hz hw1
  obtain ⟨c0, c1, _, _⟩ := H1.out.cells
  obtain ⟨r0, r1⟩ := H1.out.rowC HR.out
  rw [HG.out] at c1
  rw [HRb.out] at r0 r1
  by_cases h0 : 0 < t
  · have hd : decide (0 < t) = true := by simpa using h0
    have hd2 : decide ((0 : Int) < (t : Int)) = true := by simp; omega
    obtain ⟨hP0, c, hc, hcl, hc1⟩ := HL.out (by rw [HT.out]; exact h0)
    rw [HT.out] at hcl
    obtain ⟨L, hL⟩ : ∃ L, lastP P = L := ⟨_, rfl⟩
    rw [hL] at hc
    have hLG : L < G := by rw [← HG.out]; exact (List.getElem?_eq_some_iff.1 hc).1
    have hcm := HC.out L c hc
    obtain ⟨q1, q2⟩ := H1.out.page hc
    have HLp := Lib.hid hL
    have HCc := Lib.hid hc
    have HP0 := Lib.hid hP0
    clear hL hc hP0
    obtain ⟨_, _, hrow1, _⟩ := H1.out.row id n P HR.out
    have HRow := Lib.hid hrow1
    have hrb1 := (H1.out.row id n P HR.out).1
    rw [HRb.out] at hrb1
    have HRb1 := Lib.hid hrb1
    clear hrow1 hrb1
    have HLast : Hid (∀ m, Calls Try.prog 44 #[.pointer (some ⟨rb, 0, none⟩)] (w1.drewN m) fun e w' => e = .returned (.int .i64 (L : Int)) ∧ ∃ q, w' = (w1.drewN m).drewN q) := Lib.hid (fun m => by rw [← HLp.out]; exact last_any (w1.drewN m) rb n (ly.pv id) (ly.pb id) P HRb1.out (HRow.out.kept fun _ _ => rfl) HP0.out)
    have hro : room s pg n P = if c.2 = 1 then some (pg, P) else match free1 pg 0 with
        | none => none
        | some a => some (leave (pg.set a (c.1.take t, 1)) L, P.take (P.length - 1) ++ [a]) := by
      unfold room
      rw [HT.out, HLp.out, pageOf_eq HCc.out]
      by_cases e : c.2 = 1
      · rw [if_pos ⟨h0, e⟩, if_pos e]
      · rw [if_neg (fun h => e h.2), if_neg e]
        cases free1 pg 0 with
        | none => rfl
        | some a => simp [h0]
    have HRo := Lib.hid hro
    clear hro
    by_cases hcc : c.2 = 1
    · have hb : ((c.2 : Int) == 1) = true := by rw [hcc]; rfl
      rw [if_pos hcc] at HRo
      clear hcc
      go_quiet ((go_at_call 44; exact Calls.quiet_of (HLast.out _)))
      go_wp2
      go_ret
      show Roomy _ _ _ _ _ _ _ _ _ _ _ _ _
      unfold Roomy
      rw [HRo.out]
      refine ⟨rfl, τ, ly, ?_, HS1.out.trans (Step.below (set_drewN _ _)), rfl⟩
      have e : ro.set id (some (n, P)) = ro := by
        obtain ⟨hi, he⟩ := List.getElem?_eq_some_iff.1 HR.out
        rw [← he, List.set_getElem_self]
      rw [e]
      exact H1.out.below (set_drewN _ _)
    · have hb : ((c.2 : Int) == 1) = false := by
        have : (c.2 : Int) ≠ 1 := by omega
        simpa using this
      have HCne := Lib.hid hcc
      rw [if_neg hcc] at HRo
      clear hcc
      go_quiet ((go_at_call 44; exact Calls.quiet_of (HLast.out _)))
      go_wp2_with fail
      refine (take_any (H1.out.below (set_drewN w1 nq)) (by rw [HG.out]; exact hm)).mono ?_
      rintro e w3 hT
      unfold Taken at hT
      clear c0 c1 r0 r1 q1 q2 hb
      cases hf : free1 pg 0 with
      | none =>
        rw [hf] at hT HRo
        obtain ⟨rfl, hT1, hT2⟩ := hT
        have HT1 := Lib.hid hT1
        have HT2 := Lib.hid hT2
        clear hT1 hT2 hf
        go_wp2
        go_ret
        show Roomy _ _ _ _ _ _ _ _ _ _ _ _ _
        unfold Roomy
        rw [HRo.out]
        exact ⟨rfl, HT1.out, HS1.out.trans ((Step.below (set_drewN _ _)).trans (Step.below HT2.out))⟩
      | some a =>
        rw [hf] at hT HRo
        obtain ⟨rfl, hT1, hT2⟩ := hT
        obtain ⟨ca, hca, hca0⟩ := free1_lt hf
        have haG : a < G := by rw [← HG.out]; exact (List.getElem?_eq_some_iff.1 hca).1
        have haL : a ≠ L := fun e => by
          subst e
          rw [HCc.out] at hca
          cases hca
          omega
        rw [pageOf_eq hca] at hT1
        have HT1 := Lib.hid hT1
        have HT2 := Lib.hid hT2
        have HCa := Lib.hid hca
        have HAL := Lib.hid haL
        clear hT1 hT2 hf hca haL hca0
        have hpL : (pg.set a (ca.1, 1))[L]? = some c := by rw [set_at, HCc.out]; simp [Ne.symm HAL.out]
        have hpa : (pg.set a (ca.1, 1))[a]? = some (ca.1, 1) := by rw [set_at, HCa.out]; simp
        have HpL := Lib.hid hpL
        have Hpa := Lib.hid hpa
        clear hpL hpa
        obtain ⟨_, c1, _, _⟩ := HT1.out.cells
        obtain ⟨q1, q2⟩ := HT1.out.page HpL.out
        have q3 := (HT1.out.free (a * 2)).2.1
        obtain ⟨hth, _⟩ := HT1.out.th L c HpL.out
        obtain ⟨sp, cap, htv, hcp, hcm1, _⟩ := hth.slice
        rw [List.length_map] at htv hcp
        rw [htv] at q1 hth
        have HTh : Hid (Row w3 5 (.slice sp c.1.length cap) (ly.tb L) (c.1.map kind.vl)) := Lib.hid hth
        have hlen : (pg.set a (ca.1, 1)).length = G := by rw [List.length_set]; exact HG.out
        rw [hlen] at c1
        obtain ⟨lc, hlc⟩ : ∃ lc, c.1.length = lc := ⟨_, rfl⟩
        rw [hlc] at q1 hcl hcp HTh
        have HLc := Lib.hid hlc
        have HTv := Lib.hid htv
        unfold maxLen at hcm1
        have hcut : (0 : Int) ≤ (t : Int) ∧ (t : Int) ≤ (cap : Int) := by omega
        obtain ⟨hcut1, hcut2⟩ := hcut
        have HCut : Hid (Row w3 5 (.slice sp t cap) (ly.tb L) ((c.1.take t).map kind.vl)) := Lib.hid (by
          have h9 := HTh.out
          rw [show lc = (c.1.map kind.vl).length by rw [List.length_map]; exact hlc.symm] at h9
          have h8 := h9.cut t (by rw [List.length_map, hlc]; exact hcl)
          rw [List.map_take]
          exact h8)
        have HTl : Hid ((c.1.take t).length = t) := Lib.hid (by rw [List.length_take]; omega)
        clear hth htv hlc hlen
        have HRow3 := Lib.hid (HT1.out.row id n P HR.out)
        have HLast3 : Hid (Calls Try.prog 44 #[.pointer (some ⟨rb, 0, none⟩)] w3.drew fun e w' => e = .returned (.int .i64 (L : Int)) ∧ ∃ q, w' = w3.drew.drewN q) := Lib.hid (by rw [← HLp.out]; exact last_any w3.drew rb n (ly.pv id) (ly.pb id) P (by have := HRow3.out.1; rw [HRb.out] at this; exact this) (HRow3.out.2.2.1.kept fun _ _ => rfl) HP0.out)
        go_upto_region 8 with fail
        go_region_held3 (fun W => W.cell? ⟨g, 1, none⟩ = some (.slice (some ⟨ly.b, 0, none⟩) G G) ∧ W.cell? ⟨ly.b, L * 2, none⟩ = some (.slice sp lc cap))
          (first | go_keep | exact ⟨HK.out.1, HK.out.2⟩ | exact ⟨hbel.out.1, hbel.out.2⟩)
          ((first | (go_at_call 44; refine HLast3.out.mono ?_; rintro e w4 ⟨rfl, nq1, rfl⟩) | (go_at_call 66; refine (clone_any (w3.drewN (1 + nq1)) _ _ ((c.1.take t).map kind.vl) (HCut.out.kept fun _ _ => rfl) (ones _) t (by rw [List.length_map, HTl.out]) (by omega)).mono ?_; rintro e w5 ⟨sq, cq, b', rfl, hrow', hnew', hbel'⟩; have hbel := Lib.hid (keep2 (w := w3.drewN (1 + nq1)) q1 c1 hbel'); obtain ⟨HK, HK2⟩ := put_thing (HT1.out.below (set_drewN w3 (1 + nq1))) Hpa.out hbel' hrow' hnew' c1 q1 (fun e => HAL.out (by omega)); have h5 := (HT1.out.below (set_drewN w3 (1 + nq1))).below hbel'; obtain ⟨q6, _⟩ := h5.page Hpa.out; have q7 := (h5.free (a * 2)).2.1; clear h5 hrow' hnew' hbel')))
        go_upto_region 9 with fail
        refine gen_w (Q := fun w => Code.wp _ _ _ _ w) _ (fun W => ∃ τ' ly', PoolAt kind W τ' g ly' s op (pg.set a (c.1.take t, 1)) ro ∧ Step Tag.mine τ τ' w W ∧ ly'.rb = ly.rb) (by
          obtain ⟨τ', ly', k1, k2, k3, _⟩ := HK2.out
          refine ⟨τ', ly', ?_, HS1.out.trans ((Step.below (set_drewN _ _)).trans (HT2.out.trans ((Step.below (set_drewN _ _)).trans k2))), k3⟩
          rw [List.set_set] at k1
          exact k1) ?_
        rintro w6 ⟨τ6, ly6, k1, k2, k3⟩
        have H6 := Lib.hid k1
        have HS6 := Lib.hid k2
        have HR6 : Hid (ly6.rb id = rb) := Lib.hid (by rw [k3]; exact HRb.out)
        have HR6' := Lib.hid k3
        clear k1 k2 k3 HK HK2 hbel q1 q2 q3 q6 q7 c1 HLast3 HRow3 HTh HCut HTv HT1 HT2 hcut1 hcut2
        have hp6 : (pg.set a (c.1.take t, 1))[L]? = some c := by rw [set_at, HCc.out]; simp [Ne.symm HAL.out]
        have Hp6 := Lib.hid hp6
        clear hp6
        have HRow6 := Lib.hid (H6.out.row id n P HR.out)
        have HLast6 : Hid (Calls Try.prog 44 #[.pointer (some ⟨rb, 0, none⟩)] w6 fun e w' => e = .returned (.int .i64 (L : Int)) ∧ ∃ q, w' = w6.drewN q) := Lib.hid (by rw [← HLp.out]; exact last_any w6 rb n (ly6.pv id) (ly6.pb id) P (by have := HRow6.out.1; rw [HR6.out] at this; exact this) HRow6.out.2.2.1 HP0.out)
        go_wp2_with fail
        refine HLast6.out.mono ?_
        rintro e w7 ⟨rfl, nq2, rfl⟩
        go_wp2_with fail
        refine (leave_any (H6.out.below (set_drewN w6 nq2)) L c Hp6.out hc1 (by rw [List.length_set, HG.out]; exact hm) hcm).mono ?_
        rintro e w8 ⟨rfl, τ8, ly8, k1, k2, k3, _⟩
        have H8 := Lib.hid k1
        have HS8 := Lib.hid (HS6.out.trans ((Step.below (set_drewN w6 nq2)).trans k2))
        have HR8 : Hid (ly8.rb = ly.rb) := Lib.hid (by rw [k3]; exact HR6'.out)
        have HR8i : Hid (ly8.rb id = rb) := Lib.hid (by rw [HR8.out]; exact HRb.out)
        clear k1 k2 k3 HLast6 HRow6 H6 HS6
        obtain ⟨_, r1⟩ := H8.out.rowC HR.out
        rw [HR8i.out] at r1
        have q3 := (H8.out.free 1).2.2 id n P HR.out
        rw [HR8i.out] at q3
        obtain ⟨_, _, hrow, _⟩ := H8.out.row id n P HR.out
        obtain ⟨sp8, cap8, hpv, hcp8, hcm8, _⟩ := hrow.slice
        rw [List.length_map] at hpv hcp8
        rw [hpv] at r1 hrow
        obtain ⟨N, hN⟩ : ∃ N, P.length = N := ⟨_, rfl⟩
        rw [hN] at r1 hcp8
        have hP0 := HP0.out
        rw [hN] at hP0
        have hN1 := HPl.out
        rw [hN] at hN1
        have hwN : IntKind.i64.wrap ((N : Int) - 1) = ((N - 1 : Nat) : Int) := by rw [IntWalk.i64_in _ (by omega)]; omega
        have hN2 : (0 : Int) ≤ ((N - 1 : Nat) : Int) := by omega
        have hN3 : ((N - 1 : Nat) : Int) ≤ (cap8 : Int) := by omega
        have HN := Lib.hid hN
        have HPv := Lib.hid hpv
        have HRowP := Lib.hid hrow
        unfold maxLen at hcm8
        clear hN hpv hrow
        obtain ⟨M, hM⟩ : ∃ M, N - 1 = M := ⟨_, rfl⟩
        rw [hM] at hwN hN2 hN3
        have HM := Lib.hid hM
        clear hM
        go_upto_region 10 with fail
        go_still_tail 14, (by kernel_rfl)
        go_upto_region 11 with fail
        refine gen_w (Q := fun w => Code.wp _ _ _ _ w) _ (fun W => ∃ τ' ly', PoolAt kind W τ' g ly' s op (leave (pg.set a (c.1.take t, 1)) L) (ro.set id (some (n, (P.take (P.length - 1))))) ∧ Step Tag.mine τ τ' w W ∧ ly'.rb = ly.rb) (by
          obtain ⟨τ9, ly9, k1, k2, k3, _⟩ := H8.out.setPages (P' := P.take (P.length - 1)) HR.out (w' := w8) (grown_refl _ _) (v := .slice sp8 M cap8) (d := ly8.pb id) (by
            have hrp : Row w8 3 (.slice sp8 (P.map natV).length cap8) (ly8.pb id) (P.map natV) := by rw [List.length_map]; exact HRowP.out
            have h9 := hrp.cut (P.length - 1) (by rw [List.length_map]; exact Nat.sub_le _ _)
            rw [← List.map_take, HN.out, HM.out] at h9
            rw [HN.out, HM.out]
            exact h9) (Or.inr (Or.inl rfl))
          rw [HR8i.out] at k1 k2
          exact ⟨τ9, ly9, k1.below ⟨rfl, rfl, rfl, Nat.le_refl _, fun _ _ => rfl⟩, HS8.out.trans (k2.trans (Step.below ⟨rfl, rfl, rfl, Nat.le_refl _, fun _ _ => rfl⟩)), k3.trans HR8.out⟩) ?_
        rintro w9 ⟨τ9, ly9, k1, k2, k3⟩
        have H9 := Lib.hid k1
        have HS9 := Lib.hid k2
        have HR9 : Hid (ly9.rb = ly.rb) := Lib.hid k3
        have HR9i : Hid (ly9.rb id = rb) := Lib.hid (by rw [k3]; exact HRb.out)
        have HRo9 : Hid ((ro.set id (some (n, (P.take (P.length - 1)))))[id]? = some (some (n, (P.take (P.length - 1))))) := Lib.hid (by rw [List.getElem?_set]; simp [(List.getElem?_eq_some_iff.1 HR.out).1])
        clear k1 k2 k3 H8 HS8 r1 q3 HRowP HPv hwN hN2 hN3
        obtain ⟨_, r1⟩ := H9.out.rowC HRo9.out
        rw [HR9i.out] at r1
        have q3 := (H9.out.free 1).2.2 id n _ HRo9.out
        rw [HR9i.out] at q3
        obtain ⟨_, _, hrow, _⟩ := H9.out.row id n _ HRo9.out
        obtain ⟨sp9, cap9, hpv, hcp9, hcm9, _⟩ := hrow.slice
        have hlen9 : (((P.take (P.length - 1))).map natV).length = M := by (rw [List.length_map, List.length_take, HN.out, HM.out]; have := HM.out; omega)
        rw [hlen9] at hpv hcp9
        rw [hpv] at r1 hrow
        have HRow9 := Lib.hid hrow
        have HLen9 := Lib.hid hlen9
        clear hrow hpv hlen9
        obtain ⟨W10, hW10⟩ : ∃ W10, w9.alloc (.cells #[.int .i64 (a : Int)] 3) = W10 := ⟨_, rfl⟩
        have hb10 : Below w9.heap.size w9 W10 := by rw [← hW10]; exact (Below.refl _ _).alloc (Nat.le_refl _) _
        have hc10 : W10.cell? ⟨w9.heap.size, 0, none⟩ = some (natV a) := by rw [← hW10, cell_of_row _ _ _ _ _ _ (alloc_new _ _)]; rfl
        have HB10 := Lib.hid hb10
        have HC10 := Lib.hid hc10
        have HW10 := Lib.hid hW10
        clear hb10 hc10 hW10
        have HRow10 : Hid (Row W10 3 (.slice sp9 M cap9) (ly9.pb id) (((P.take (P.length - 1))).map natV)) := Lib.hid (HRow9.out.kept fun q hq => HB10.out.block q (HRow9.out.lt hq))
        go_wp2_with (at_builtin; rw [HW10.out]; refine wpList_append_row 40 3 8 (.int .i64 0) Try.underlying40 info3 rfl (by decide) rfl _ _ rfl (.slice sp9 M cap9) (ly9.pb id) (((P.take (P.length - 1))).map natV) rfl HRow10.out w9.heap.size (natV a) rfl HC10.out rfl (by rw [HLen9.out]; have := HM.out; omega) ?_; intro sq cq w11 b11 hrow11' hg11' hd11'; have hrow11 := Lib.hid hrow11'; have hg11 := Lib.hid hg11'; have hd11 := Lib.hid hd11'; have hz11 := HLen9.out; rw [hz11]; clear hz11; rw [HLen9.out] at hrow11; obtain ⟨q6, q7⟩ := row_kept H9.out HRo9.out HB10.out hg11'; rw [HR9i.out] at q6 q7; clear hrow11' hg11' hd11')
        go_ret
        show Roomy _ _ _ _ _ _ _ _ _ _ _ _ _
        unfold Roomy
        rw [HRo.out]
        obtain ⟨τ12, ly12, k1, k2, k3, _⟩ := H9.out.setPages (P' := (P.take (P.length - 1)) ++ [a]) HRo9.out (w' := w11) (grown_trans (grown_of HB10.out _) hg11.out) (v := .slice sq (M + 1) cq) (d := b11) (by rw [List.map_append]; exact hrow11.out) (by
          rcases hd11.out with e | ⟨q, e, hq⟩
          · exact Or.inr (Or.inl e)
          · exact Or.inr (Or.inr ⟨q, e, Nat.le_trans HB10.out.size hq⟩))
        rw [HR9i.out, List.set_set] at k1
        rw [HR9i.out] at k2
        exact ⟨rfl, τ12, ly12, k1, HS9.out.trans k2, k3.trans HR9.out⟩
  · obtain rfl : t = 0 := by omega
    have hd : decide ((0 : Int) < ((0 : Nat) : Int)) = false := by rfl
    have hro : room s pg n P = match free1 pg 0 with
        | none => none
        | some a => some (pg.set a ((pageOf pg a).1, 1), P ++ [a]) := by
      unfold room
      rw [HT.out, if_neg (fun h => Nat.lt_irrefl 0 h.1)]
      cases free1 pg 0 with
      | none => rfl
      | some a => simp
    have HRo := Lib.hid hro
    clear hro
    go_quiet (fail)
    go_wp2_with fail
    refine (take_any (H1.out.below (set_drewN w1 nq)) (by rw [HG.out]; exact hm)).mono ?_
    rintro e w3 hT
    unfold Taken at hT
    clear c0 c1 r0 r1
    cases hf : free1 pg 0 with
    | none =>
      rw [hf] at hT HRo
      obtain ⟨rfl, hT1, hT2⟩ := hT
      have HT1 := Lib.hid hT1
      have HT2 := Lib.hid hT2
      clear hT1 hT2 hf
      go_wp2
      go_ret
      show Roomy _ _ _ _ _ _ _ _ _ _ _ _ _
      unfold Roomy
      rw [HRo.out]
      exact ⟨rfl, HT1.out, HS1.out.trans ((Step.below (set_drewN _ _)).trans (Step.below HT2.out))⟩
    | some a =>
      rw [hf] at hT HRo
      obtain ⟨rfl, hT1, hT2⟩ := hT
      obtain ⟨ca, hca, hca0⟩ := free1_lt hf
      rw [pageOf_eq hca] at hT1
      dsimp only at HRo
      rw [pageOf_eq hca] at HRo
      have HT1 := Lib.hid hT1
      have HT2 := Lib.hid hT2
      obtain ⟨N, hN⟩ : ∃ N, P.length = N := ⟨_, rfl⟩
      have HN := Lib.hid hN
      have HSet : Hid (ro.set id (some (n, P)) = ro) := Lib.hid (by
        obtain ⟨hi, he⟩ := List.getElem?_eq_some_iff.1 HR.out
        rw [← he, List.set_getElem_self])
      clear hT1 hT2 hf hN hca hca0
      go_upto_region 11 with fail
      refine gen_w (Q := fun w => Code.wp _ _ _ _ w) _ (fun W => ∃ τ' ly', PoolAt kind W τ' g ly' s op (pg.set a (ca.1, 1)) (ro.set id (some (n, P))) ∧ Step Tag.mine τ τ' w W ∧ ly'.rb = ly.rb) ⟨τ, ly, by rw [HSet.out]; exact HT1.out, HS1.out.trans ((Step.below (set_drewN _ _)).trans HT2.out), rfl⟩ ?_
      rintro w9 ⟨τ9, ly9, k1, k2, k3⟩
      have H9 := Lib.hid k1
      have HS9 := Lib.hid k2
      have HR9 : Hid (ly9.rb = ly.rb) := Lib.hid k3
      have HR9i : Hid (ly9.rb id = rb) := Lib.hid (by rw [k3]; exact HRb.out)
      have HRo9 : Hid ((ro.set id (some (n, P)))[id]? = some (some (n, P))) := Lib.hid (by rw [List.getElem?_set]; simp [(List.getElem?_eq_some_iff.1 HR.out).1])
      clear k1 k2 k3 HT1 HT2
      obtain ⟨_, r1⟩ := H9.out.rowC HRo9.out
      rw [HR9i.out] at r1
      have q3 := (H9.out.free 1).2.2 id n _ HRo9.out
      rw [HR9i.out] at q3
      obtain ⟨_, _, hrow, _⟩ := H9.out.row id n _ HRo9.out
      obtain ⟨sp9, cap9, hpv, hcp9, hcm9, _⟩ := hrow.slice
      have hlen9 : ((P).map natV).length = N := by (rw [List.length_map]; exact HN.out)
      rw [hlen9] at hpv hcp9
      rw [hpv] at r1 hrow
      have HRow9 := Lib.hid hrow
      have HLen9 := Lib.hid hlen9
      clear hrow hpv hlen9
      obtain ⟨W10, hW10⟩ : ∃ W10, w9.alloc (.cells #[.int .i64 (a : Int)] 3) = W10 := ⟨_, rfl⟩
      have hb10 : Below w9.heap.size w9 W10 := by rw [← hW10]; exact (Below.refl _ _).alloc (Nat.le_refl _) _
      have hc10 : W10.cell? ⟨w9.heap.size, 0, none⟩ = some (natV a) := by rw [← hW10, cell_of_row _ _ _ _ _ _ (alloc_new _ _)]; rfl
      have HB10 := Lib.hid hb10
      have HC10 := Lib.hid hc10
      have HW10 := Lib.hid hW10
      clear hb10 hc10 hW10
      have HRow10 : Hid (Row W10 3 (.slice sp9 N cap9) (ly9.pb id) ((P).map natV)) := Lib.hid (HRow9.out.kept fun q hq => HB10.out.block q (HRow9.out.lt hq))
      go_wp2_with (at_builtin; rw [HW10.out]; refine wpList_append_row 40 3 8 (.int .i64 0) Try.underlying40 info3 rfl (by decide) rfl _ _ rfl (.slice sp9 N cap9) (ly9.pb id) ((P).map natV) rfl HRow10.out w9.heap.size (natV a) rfl HC10.out rfl (by rw [HLen9.out]; have := HPl.out; have := HN.out; omega) ?_; intro sq cq w11 b11 hrow11' hg11' hd11'; have hrow11 := Lib.hid hrow11'; have hg11 := Lib.hid hg11'; have hd11 := Lib.hid hd11'; have hz11 := HLen9.out; rw [hz11]; clear hz11; rw [HLen9.out] at hrow11; obtain ⟨q6, q7⟩ := row_kept H9.out HRo9.out HB10.out hg11'; rw [HR9i.out] at q6 q7; clear hrow11' hg11' hd11')
      go_ret
      show Roomy _ _ _ _ _ _ _ _ _ _ _ _ _
      unfold Roomy
      rw [HRo.out]
      obtain ⟨τ12, ly12, k1, k2, k3, _⟩ := H9.out.setPages (P' := P ++ [a]) HRo9.out (w' := w11) (grown_trans (grown_of HB10.out _) hg11.out) (v := .slice sq (N + 1) cq) (d := b11) (by rw [List.map_append]; exact hrow11.out) (by
        rcases hd11.out with e | ⟨q, e, hq⟩
        · exact Or.inr (Or.inl e)
        · exact Or.inr (Or.inr ⟨q, e, Nat.le_trans HB10.out.size hq⟩))
      rw [HR9i.out, List.set_set] at k1
      rw [HR9i.out] at k2
      exact ⟨rfl, τ12, ly12, k1, HS9.out.trans k2, k3.trans HR9.out⟩
end
end Go.Proofs.Ytcfhchdkohjbfaa.Kv.Y
