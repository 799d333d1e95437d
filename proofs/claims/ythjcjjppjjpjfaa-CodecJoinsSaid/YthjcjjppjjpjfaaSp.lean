import Derived.Test.YthjcjjppjjpjfaaTo
import Derived.Test.YthjcjjppjjpjfaaAw
import Derived.ScopeJumps
import Derived.WalkMore
namespace Go.Proofs.Ythjcjjppjjpjfaa
open Go.ChangeShapes Go.WideShapes Go.ChangeAt Go.RowKit

/-- a scope in which the run jumps back to one label: the pass from the label is shown once -/
theorem wp_scope_jumps1 {P : Program} {a : Act} {w : World} {Q : Exit → Act → World → Prop} {c rest : Code} (l : Nat) (J : Act → World → Prop) (μ : Act → World → Nat) (hf : findLabel c l = some (Code.skip.seq rest))
    (pass : ∀ a w, J a w → rest.wp P (Exit.jump l (fun a' w' => J a' w' ∧ μ a' w' < μ a w) Q) a w)
    (first : (∀ a w, J a w → rest.wp P (Exit.jump l J Q) a w) → c.wp P (Exit.jump l J Q) a w) : (Code.scope c).wp P Q a w :=
  wp_scope_jumps l J μ hf (first fun a w h => Code.wp_mono (fun e a' w' hq => by
    cases e with
    | goto l' => exact ⟨hq.1, hq.2.1⟩
    | _ => exact hq) (pass a w h)) fun a w h => wp_seq (wp_skip (pass a w h))
def lenV : Value → Nat | .slice _ n _ => n | _ => 0
/-- a piece that the call made -/
def Made (B : Nat) (w : World) (u : Value) (p : List Int) : Prop := ∃ g, B ≤ g ∧ u = .slice (some ⟨g, 0, none⟩) p.length p.length ∧ w.heap[g]? = some (.cells (rowB p) 5 (0, 0)) ∧ rng p ∧ p.length ≤ 100000
theorem Made.below {B : Nat} {w w' : World} {u : Value} {p : List Int} (h : Made B w u p) (hb : Below w.heap.size w w') : Made B w' u p := by
  obtain ⟨g, h1, h2, h3, h4, h5⟩ := h
  exact ⟨g, h1, h2, (hb.block g (Array.getElem?_eq_some_iff.1 h3).1).trans h3, h4, h5⟩
theorem Made.grown {B base n : Nat} {w w' : World} {u v : Value} {p : List Int} {xs : List Value} (h : Made B w u p) (ho : w.ownsRow base 23 1 v n xs) (hg : w.grownBy w' v.ownBlock) : Made B w' u p := by
  obtain ⟨g, h1, h2, h3, h4, h5⟩ := h
  refine ⟨g, h1, h2, (hg.block g (Array.getElem?_eq_some_iff.1 h3).1 ?_).trans h3, h4, h5⟩
  rcases ho.2 with ⟨rfl, _⟩ | ⟨g', cap, cur, rfl, _, hh, _⟩
  · simp [Value.ownBlock]
  · intro he
    have : g = g' := by simpa [Value.ownBlock] using he
    subst this
    rw [hh] at h3
    injection h3 with h3
    injection h3 with _ ht
    cases ht
theorem Made.val {B : Nat} {w : World} {u : Value} {p : List Int} (h : Made B w u p) : PcVal w u p := by
  obtain ⟨g, h1, h2, h3, h4, h5⟩ := h
  refine ⟨_, _, h2, ⟨by simp, by unfold maxLen; omega, (fun h => by cases h), fun _ => ⟨_, _, rfl, fun i v hv => ?_⟩⟩, h4⟩
  rw [cell_of_row _ _ _ _ _ _ h3, ← hv]
  simp [rowB]
/-- how Split stands at its label -/
structure Sq (w : World) (l : List Int) (sp : Option Addr) (m cap : Nat) (r : List Int) (dn : List (List Int)) (v : Value) (vs : List Value) (wr : World) : Prop where
  len : r.length = m
  bytes : Bytes w sp cap r
  whole : l = join dn ++ r
  below : Below w.heap.size w wr
  many : vs.length = dn.length
  own : wr.ownsRow w.heap.size 23 1 v dn.length vs
  made : ∀ i u, vs[i]? = some u → Made w.heap.size wr u (dn.getD i [])
  few : small dn
/-- what Split answers -/
def SplitPost (w : World) (l : List Int) (e : Ending) (w' : World) : Prop :=
  Below w.heap.size w w' ∧ ((∃ A cap ps, e = .returned (.tuple #[.slice A ps.length cap, .int .i64 0]) ∧ Pieces w' A cap ps ∧ join ps = l ∧ small ps) ∨ (e = .returned (.tuple #[.slice none 0 0, .int .i64 11]) ∧ ∀ ps, small ps → join ps ≠ l))
/-- the frame at the label -/
def AtLabel (w : World) (l : List Int) (a' : Act) (w' : World) : Prop :=
  ∃ (sp : Option Addr) (m cap : Nat) (r : List Int) (dn : List (List Int)) (v : Value) (vs : List Value) (u5 u6 u7 u8 u9 u10 u11 u12 u13 u14 u15 u16 u17 u18 u19 u20 u21 u22 u23 u24 : Value),
    a' = { tmps := #[.slice sp m cap, undef, .slice none 0 0, .int .i64 0, v, u5, u6, u7, u8, u9, u10, u11, u12, u13, u14, u15, u16, u17, u18, u19, u20, u21, u22, u23, u24], defers := [] } ∧ Sq w l sp m cap r dn v vs w'
theorem dn_le {dn : List (List Int)} : dn.length * 4 ≤ (join dn).length := by
  induction dn with
  | nil => simp
  | cons d ds ih => rw [join_cons]; simp [be_length]; omega
set_option maxRecDepth 100000 in
set_option maxHeartbeats 4000000 in
theorem split_any (w : World) (sp : Option Addr) (m cap : Nat) (l : List Int) (hm : l.length = m) (hb : Bytes w sp cap l) (hmx : m ≤ 100000) :
    Calls Try.prog 13 #[.slice sp m cap] w (SplitPost w l) := by
  have HM := Lib.hid hm
  have HB := Lib.hid hb
  clear hm hb
  go_enter Try.func13, Try.ntmps13
  go_wp2
  refine wp_scope_jumps1 0 (AtLabel w l) (fun a' _ => lenV (a'.tmps.getD 0 undef)) rfl ?_ ?_
  · rintro a' wr ⟨sp, m, cap, r, dn, v, vs, u5, u6, u7, u8, u9, u10, u11, u12, u13, u14, u15, u16, u17, u18, u19, u20, u21, u22, u23, u24, rfl, hq⟩
    have hml : m ≤ 100000 := by
      have h1 := hq.len
      have h2 := congrArg List.length hq.whole
      rw [List.length_append, HM.out] at h2
      omega
    have hdl : dn.length + 1 ≤ 1000000 := by
      have h1 := dn_le (dn := dn)
      have h2 := congrArg List.length hq.whole
      rw [List.length_append, HM.out] at h2
      omega
    obtain ⟨sv, cv, rfl, _, hslv, hbv⟩ := Sl.all1 hq.own
    have HQ := Lib.hid hq
    have HBr := Lib.hid (hq.bytes.below hq.below)
    have HSlv := Lib.hid hslv
    clear hq hslv
    by_cases h0 : m = 0
    · have he : ((m : Int) == 0) = true := by rw [h0]; rfl
      have H0 := Lib.hid h0
      clear h0
      go_wp2
      simp only [Exit.jump]
      refine bodyPost_ret (v := .tuple #[.slice sv dn.length cv, .int .i64 0]) (by simp [results, Try.results13, go_sem]) rfl ⟨HQ.out.below, Or.inl ⟨sv, cv, dn, rfl, ⟨vs, HQ.out.many, HSlv.out, fun i u hu => (HQ.out.made i u hu).val⟩, ?_, HQ.out.few⟩⟩
      have hr : r = [] := List.eq_nil_of_length_eq_zero (HQ.out.len.trans H0.out)
      rw [HQ.out.whole, hr, List.append_nil]
    · have he : ((m : Int) == 0) = false := by rw [beq_eq_false_iff_ne]; omega
      have hrne : r ≠ [] := fun e => h0 (by rw [← HQ.out.len, e]; rfl)
      have HRne := Lib.hid hrne
      clear h0 hrne
      by_cases h4 : m < 4
      · have HNo : Hid (∀ ps, small ps → join ps ≠ l) := Lib.hid (fun ps hps hj => by
          rw [HQ.out.whole] at hj
          obtain ⟨qs, rfl, hq2⟩ := join_cancel dn ps r HQ.out.few hps hj
          have := (join_whole (fun x hx => hps x (by simp [hx])) hq2 HRne.out).1
          rw [HQ.out.len] at this
          omega)
        go_wp2_with fail
        refine (take_short wr sp m cap h4).mono ?_
        rintro e w' ⟨rfl, rfl⟩
        go_wp2
        simp only [Exit.jump]
        exact bodyPost_ret (v := .tuple #[.slice none 0 0, .int .i64 11]) (by simp [results, Try.results13, go_sem]) rfl ⟨HQ.out.below, Or.inr ⟨rfl, HNo.out⟩⟩
      · have hvb := val_bound 4 (r.take 4) (by simp [HQ.out.len]; omega) (rng_take HBr.out.rng 4)
        obtain ⟨n, hn⟩ := Int.eq_ofNat_of_zero_le hvb.1
        have HN := Lib.hid hn
        clear hvb hn
        by_cases hnm : n ≤ m - 4
        · have h4' : 4 ≤ m := by omega
          have HJT := Lib.hid (join_take r n HBr.out.rng (by rw [HQ.out.len]; exact h4') HN.out (by rw [HQ.out.len]; exact hnm))
          have HBc := Lib.hid ((HQ.out.bytes.cut 4 (by rw [HQ.out.len]; exact h4')).cut n (by rw [List.length_drop, HQ.out.len]; exact hnm))
          have HPl := Lib.hid (show ((r.drop 4).take n).length = n by rw [List.length_take, List.length_drop, HQ.out.len]; exact Nat.min_eq_left hnm)
          have HRl := Lib.hid (show ((r.drop 4).drop n).length = m - 4 - n by rw [List.length_drop, List.length_drop, HQ.out.len])
          have HPr : Hid (rng ((r.drop 4).take n)) := Lib.hid (rng_take (rng_drop HBr.out.rng 4) n)
          go_wp2_with fail
          refine (take_any wr sp m cap n r HQ.out.len HBr.out h4' HN.out hml).mono ?_
          rintro e w1 ⟨h1, _, h3⟩
          rw [HQ.out.len] at h1
          obtain ⟨g, hgs, rfl, hrow⟩ := h1 hnm
          have HW1 := Lib.hid h3
          have HW1b := Lib.hid (HQ.out.below.trans (h3.mono HQ.out.below.size))
          have hsz1 : w.heap.size ≤ w1.heap.size := HW1b.out.size
          have hgw : w.heap.size ≤ g := Nat.le_trans HQ.out.below.size hgs
          clear h1 h3 hgs
          obtain ⟨P, hP⟩ : ∃ x, (r.drop 4).take n = x := ⟨_, rfl⟩
          rw [hP] at hrow HJT HPl HPr
          obtain ⟨r2, hr2⟩ : ∃ x, (r.drop 4).drop n = x := ⟨_, rfl⟩
          rw [hr2] at HJT HBc HRl
          obtain ⟨R, hR⟩ : ∃ x, cutA (cutA sp cap 4) (cap - 4) n = x := ⟨_, rfl⟩
          obtain ⟨m2, hm2⟩ : ∃ x, m - 4 - n = x := ⟨_, rfl⟩
          obtain ⟨c2, hc2⟩ : ∃ x, cap - 4 - n = x := ⟨_, rfl⟩
          rw [hR, hc2] at HBc
          rw [hm2] at HRl
          rw [hR, hm2, hc2]
          have hlt : m2 < m := by omega
          have hn1 : n ≤ 100000 := by omega
          have HMade : Hid (Made w.heap.size w1 (.slice (some ⟨g, 0, none⟩) n n) P) := Lib.hid ⟨g, hgw, by rw [HPl.out], hrow, HPr.out, by rw [HPl.out]; omega⟩
          have HO1 := Lib.hid (owns_below HQ.out.own HW1.out)
          clear hP hr2 hR hm2 hc2 hrow hgw h4 h4' hnm
          have HS1 := Lib.hid (Sl.new w1 [.slice (some ⟨g, 0, none⟩) n n] #[.slice (some ⟨g, 0, none⟩) n n] 23 (0, 0) rfl (by simp))
          have HBa := Lib.hid (((Below.refl w1.heap.size w1).alloc (Nat.le_refl _) (.cells #[.slice (some ⟨g, 0, none⟩) n n] 23)))
          have HO2 := Lib.hid (owns_below HO1.out HBa.out)
          obtain ⟨D, hD⟩ : ∃ x, dn.length = x := ⟨_, rfl⟩
          rw [hD] at HO2 hdl ⊢
          have HD := Lib.hid hD
          clear hD
          go_wp2_with (refine wpList_append_sl 22 23 24 (.slice none 0 0) Try.underlying22 info23 rfl (by decide) rfl (.tmp 20) (.tmp 22) rfl w.heap.size (.slice sv D cv) D 1 vs [.slice (some ⟨g, 0, none⟩) n n] rfl HO2.out (some ⟨w1.heap.size, 0, none⟩) 1 rfl rfl HS1.out (by simp [Value.oneCell']) hdl (by simp; omega) ?_; intro v3 w3 hown3 hg3)
          go_step3
          refine ⟨rfl, ⟨R, m2, c2, r2, dn ++ [P], v3, vs ++ [.slice (some ⟨g, 0, none⟩) n n], _, _, _, _, _, _, _, _, _, _, _, _, _, _, _, _, _, _, _, _, rfl, ?_⟩, by simpa [lenV] using hlt⟩
          have hmy := HQ.out.many
          refine ⟨HRl.out, HBc.out, ?_, ?_, ?_, ?_, ?_, ?_⟩
          · rw [HQ.out.whole, join_snoc, HPl.out, List.append_assoc, List.append_assoc, HJT.out]
          · exact (HW1b.out.trans (HBa.out.mono hsz1)).trans (Below.ofGrown hg3 (by simp; omega) (fun k e => (HO2.out.lt k e).1))
          · simp [hmy]
          · rw [List.length_append, HD.out]
            exact hown3
          · intro i u hu
            by_cases hi : i < vs.length
            · rw [List.getElem?_append_left hi] at hu
              have e : (dn ++ [P]).getD i [] = dn.getD i [] := by simp [List.getElem?_append, show i < dn.length by omega]
              rw [e]
              exact (((HQ.out.made i u hu).below HW1.out).below HBa.out).grown HO2.out hg3
            · rw [List.getElem?_append_right (by omega)] at hu
              have hi2 : i = vs.length := by
                have := (List.getElem?_eq_some_iff.1 hu).1
                simp at this
                omega
              have e : (dn ++ [P]).getD i [] = P := by simp [hi2, hmy]
              rw [e]
              rw [hi2] at hu
              simp at hu
              rw [← hu]
              exact (HMade.out.below HBa.out).grown HO2.out hg3
          · intro x hx
            rcases List.mem_append.1 hx with h | h
            · exact HQ.out.few x h
            · obtain rfl : x = P := by simpa using h
              rw [HPl.out]
              omega
        · have HNo : Hid (∀ ps, small ps → join ps ≠ l) := Lib.hid (fun ps hps hj => by
            rw [HQ.out.whole] at hj
            obtain ⟨qs, rfl, hq2⟩ := join_cancel dn ps r HQ.out.few hps hj
            have := (join_whole (fun x hx => hps x (by simp [hx])) hq2 HRne.out).2
            rw [HQ.out.len, HN.out] at this
            omega)
          have HNm := Lib.hid hnm
          clear hnm
          go_wp2_with fail
          refine (take_any wr sp m cap n r HQ.out.len HBr.out (by omega) HN.out hml).mono ?_
          rintro e w' ⟨_, h2, h3⟩
          rw [HQ.out.len] at h2
          obtain rfl := h2 HNm.out
          have HW := Lib.hid (HQ.out.below.trans (h3.mono HQ.out.below.size))
          clear h2 h3
          go_wp2
          simp only [Exit.jump]
          exact bodyPost_ret (v := .tuple #[.slice none 0 0, .int .i64 11]) (by simp [results, Try.results13, go_sem]) rfl ⟨HW.out, Or.inr ⟨rfl, HNo.out⟩⟩
  · intro hpass
    have HPass := Lib.hid hpass
    clear hpass
    go_wp2
    go_step3
    rename_i K hk
    exact hk _ _ (HPass.out _ _ ⟨sp, m, cap, l, [], .slice none 0 0, [], _, _, _, _, _, _, _, _, _, _, _, _, _, _, _, _, _, _, _, _, rfl, ⟨HM.out, HB.out, by simp [join_nil], Below.refl _ _, rfl, World.ownsRow_nil _ _ _ _, fun i u hu => by simp at hu, fun x hx => by cases hx⟩⟩)
end Go.Proofs.Ythjcjjppjjpjfaa
