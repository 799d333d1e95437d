import Derived.Test.YtchjijifmjbgoaaDoorJm
namespace Go.Proofs.YtchjijifmjbgoaaDoor.Tn
set_option maxRecDepth 100000
open Go.ChangeShapes Go.WideShapes Go.ChangeAt Go.RowKit Go.Shelf Go.Proofs.YtchjijifmjbgoaaDoor.Fx Go.Proofs.YtchjijifmjbgoaaDoor.Rf
attribute [local go_sem] Oper.semAt_some

/-- a row's number -/
abbrev Rw (R : Nat) := { q : Nat // q < R }
theorem chunk_stops (m : Nat) (hm : 1 ≤ m) (bs bn n0 : Nat) (hbs : bs < n0) (hbn : bn < n0) (sp : Option Addr) (cap N C R : Nat) (hN : N = R * C) (hC : 1 ≤ C) (hN2 : N ≤ 32768) (hcap : N ≤ cap) (w : World) (cs : w.cell? ⟨bs, 0, none⟩ = some (.slice sp N cap)) (cn : w.cell? ⟨bn, 0, none⟩ = some (.int .i64 C)) :
    SeqStopsK Fence.wide m Tryd.prog 72 #[.pointer (some ⟨bs, 0, none⟩), .pointer (some ⟨bn, 0, none⟩)] (fun x : Rw R => #[rowS sp cap C x.val]) (Below n0) (fun ys => ys.map Subtype.val = List.range R) (fun _ => True) R w := fun l J Jx W hW hJ hJx hY h0 => by
  have h := chunk1_in m hm l bs bn n0 hbs hbn sp cap N C R hN hC hN2 hcap (fun ys W => ∃ la : List (Rw R), la.map Subtype.val = ys ∧ J la W) (fun _ W => ∃ la : List (Rw R), Jx la W) (fun pre x W' hx ⟨la, e1, hj⟩ hlen => by
      refine (hY la ⟨x, hx⟩ W' hj (by rw [← e1, List.length_map] at hlen; exact hlen)).mono ?_
      rintro e w' (⟨h1, h2, h3⟩ | ⟨h1, h2⟩)
      · exact .inl ⟨h1, ⟨la ++ [⟨x, hx⟩], by simp [e1], h2⟩, h3⟩
      · exact .inr ⟨h1, _, h2⟩) W (fun s A B row ⟨la, e1, hj⟩ hg hr => ⟨la, e1, hJ la A B row hj hg hr⟩)
    ((hW.cell (block_lt_of_cell cs)).trans cs) ((hW.cell (block_lt_of_cell cn)).trans cn) ⟨[], rfl, h0⟩
  refine h.mono ?_
  rintro e w' ⟨h1, (⟨ys, rfl, la, e1, hj⟩ | ⟨_, _, la, hj⟩)⟩
  · exact ⟨h1, .inl ⟨la, e1, hj⟩⟩
  · exact ⟨h1, .inr ⟨la, trivial, hj⟩⟩
/-- what stands between two rounds of AppendSeq -/
def ApI (w : World) (sp : Option Addr) (cap C R : Nat) (pre : List (Rw R)) (W : World) : Prop :=
  (∃ v, Boxed W w.heap.size 38 v ∧ W.ownsRow w.heap.size 22 1 v pre.length (pre.map fun x => rowS sp cap C x.val) ∧ True) ∧ Below w.heap.size w W
theorem apI_own (w : World) (sp : Option Addr) (cap C R : Nat) (B : Nat) (hB : w.heap.size ≤ B) : OwnFrom B (ApI w sp cap C R) :=
  OwnFrom.and (Own.from (holdsRow_own w.heap.size w.heap.size 38 22 1 (fun pre : List (Rw R) => pre.length) (fun pre => pre.map fun x => rowS sp cap C x.val) (fun _ _ => True)) _) (ownFrom_below (Nat.le_refl _) hB)
theorem info22z : (Tryd.prog.info? 22).map (fun i => (i.zero, i.size, i.bytes)) = some (some (.slice none 0 0), 1, 24) := by kernel_rfl
theorem ownsRow_putObj' {W : World} {base n size : Nat} {e : TypeId} {v : Value} {xs : List Value} {l : Nat} {o : Obj} (h : W.ownsRow base e size v n xs) (o' : Obj) (ho : W.heap[l]? = some o) (hc : o.isCells = false) : (W.putObj l o').ownsRow base e size v n xs :=
  h.kept (grownBy_putObj' W l o') (by
    rcases h.2 with ⟨rfl, _⟩ | ⟨g, cap, cur, rfl, _, hgb, _⟩
    · exact .inl rfl
    · refine .inr fun e' => ?_
      have : g = l := by simpa [Value.ownBlock] using e'
      subst this
      rw [hgb] at ho
      cases ho
      cases hc)
set_option maxHeartbeats 4000000 in
theorem appendSeq_in (w : World) (bs bn : Nat) (hbs : bs < w.heap.size) (hbn : bn < w.heap.size) (sp : Option Addr) (cap N C R : Nat) (hN : N = R * C) (hC : 1 ≤ C) (hR : R ≤ 512) (hN2 : N ≤ 32768) (hcap : N ≤ cap) (cs : w.cell? ⟨bs, 0, none⟩ = some (.slice sp N cap)) (cn : w.cell? ⟨bn, 0, none⟩ = some (.int .i64 C)) :
    CallsIn Fence.wide 6 Tryd.prog 71 #[.slice none 0 0, .func (.func 72) #[] #[.pointer (some ⟨bs, 0, none⟩), .pointer (some ⟨bn, 0, none⟩)]] w fun e w' => ∃ v, e = .returned v ∧ w'.ownsRow w.heap.size 22 1 v R ((List.range R).map (rowS sp cap C)) ∧ Below w.heap.size w w' := by
  obtain ⟨i0, hi, hz0, hz1, hz2⟩ := info_parts info22z
  have HR := Lib.hid hR
  refine callsIn_of_wp_marks Tryd.func71 rfl trivial ?_ rfl
  simp only [Tryd.ntmps71, List.size_toArray, List.length_cons, List.length_nil, Nat.reduceAdd, Nat.reduceSub, Array.replicate_succ, Array.replicate_zero, List.push_toArray, List.append_toArray, List.nil_append, List.cons_append]
  gi_wp2
  have b0 := Boxed.new w 38 (.slice none 0 0)
  have hB0 : Below w.heap.size w (w.alloc (.cells #[.slice none 0 0] 38)) := (Below.refl _ w).alloc (Nat.le_refl _) _
  have hsz : (w.alloc (.cells #[.slice none 0 0] 38)).heap.size = w.heap.size + 1 := by simp
  have c1 := (hB0.cell (p := ⟨bs, 0, none⟩) hbs).trans cs
  have c2 := (hB0.cell (p := ⟨bn, 0, none⟩) hbn).trans cn
  obtain ⟨W0, hW0⟩ : ∃ W0, w.alloc (.cells #[.slice none 0 0] 38) = W0 := ⟨_, rfl⟩
  rw [hW0] at b0 hB0 hsz c1 c2 ⊢
  clear hW0
  refine wpIn_rangeFunc_ownH rfl (by omega) (gf := 72) (lb := #[.pointer (some ⟨bs, 0, none⟩), .pointer (some ⟨bn, 0, none⟩)]) rfl trivial (enters_of Tryd.func72 (by kernel_rfl) rfl)
    (chunk_stops 5 (by omega) bs bn w.heap.size hbs hbn sp cap N C R hN hC hN2 hcap W0 c1 c2) belowK_t (fun W l o o' h1 h2 h3 h4 => belowK_b (w := W0) hB0.size W l o o' h1 h2 h3 h4) (Below.refl _ _) (fun _ => rfl)
    (ApI w sp cap C R) (fun _ _ _ => False) (apI_own w sp cap C R _ (by omega)) (fun _ _ _ _ _ hs _ _ => hs)
    ⟨⟨_, b0, World.ownsRow_nil _ _ _ _, trivial⟩, hB0⟩
    (fun x a' _ => a' = { tmps := #[.slice none 0 0, .func (.func 72) #[] #[.pointer (some ⟨bs, 0, none⟩), .pointer (some ⟨bn, 0, none⟩)], .pointer (some ⟨w.heap.size, 0, none⟩), undef, .slice none 0 0, rowS sp cap C x.val, .func (.func 72) #[] #[.pointer (some ⟨bs, 0, none⟩), .pointer (some ⟨bn, 0, none⟩)], rowS sp cap C x.val, undef, undef, undef, undef, undef], defers := [] })
    (fun x a' _ X Y row hs hg hr => hs)
    ?assign ?body ?done ?stop
  case assign =>
    rintro l pre x W K hI hK
    have HK := Lib.hid hK
    have HI := Lib.hid hI
    clear hK hI
    dsimp only [rowS]
    gi_wp2
    exact HK.out _ _ ((KeepsOthers.refl _).from _) (Below.refl _ _) HI.out rfl
  case body =>
    rintro l pre x a' W hl _ hI rfl hlt
    obtain ⟨⟨v, hv, hr, _⟩, hb⟩ := hI
    have hcv := hv.cell
    have HV := Lib.hid hv
    have HRo := Lib.hid hr
    have HB := Lib.hid hb
    have hB1 := hb.size
    clear hv hr hb
    have hRx := HR.out
    dsimp only [rowS]
    gi_wp2_with (gi_at_builtin; refine wpListIn_append_own _ rfl _ _ 38 rfl w.heap.size 22 i0 (.slice none 0 0) 1 24 Tryd.underlying38 hi hz0 hz1 hz2 rfl (by decide) _ _ _ rfl (HRo.out.alloc _) ⟨W.heap.size, 0, none⟩ 1 1 [rowS sp cap C x.val] rfl rfl (cell_one_new _ _ _) (by simp [rowS, Value.oneCell']) (by unfold maxLen; omega) (by omega) (by simp; omega) ?_; intro v' w1 hown' hgrow _; obtain ⟨g', cap', rfl⟩ := ownsRow_succ hown'; obtain ⟨hv1, hv2, hr2, hk2, hb2⟩ := HV.out.appended (by decide) HRo.out hB1 (Nat.le_refl _) hown' hgrow; have hc1 := hv1.cell; have hf1 := hv1.frozen)
    refine ⟨hk2.from _, hb2, ⟨_, hv2, ?_, trivial⟩, HB.out.trans hb2⟩
    rw [List.length_append, List.map_append]
    exact hr2
  case done =>
    rintro D ys W hD hys ⟨⟨v, hv, hrow, _⟩, hB⟩ hK
    have hc := hv.cell
    have HH := Lib.hid hys
    have HRow := Lib.hid hrow
    clear hys hrow
    gi_wp2
    refine ⟨by simp, .inl ⟨_, _, rfl, run_takeDeferred hK, ?_⟩⟩
    have hrow := ownsRow_putObj' HRow.out (.deferred none) hK rfl
    have e1 : (ys.map fun x => rowS sp cap C x.val) = (List.range R).map (rowS sp cap C) := by
      rw [← HH.out, List.map_map]
      rfl
    have e2 : ys.length = R := by
      have := congrArg List.length HH.out
      simpa using this
    rw [e1, e2] at hrow
    exact ⟨_, results_tmp rfl _ _ _, v, rfl, hrow, hB.trans (belowK_b (w := w) (Nat.le_refl _) W D _ _ (by omega) hK rfl rfl)⟩
  case stop =>
    rintro D c pre W _ _ h _
    exact h.elim
end Go.Proofs.YtchjijifmjbgoaaDoor.Tn
