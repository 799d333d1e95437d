import Derived.Test.YtchjijifmjbgoaaDoorJb
import Derived.Test.YtchjijifmjbgoaaDoorGh
namespace Go.Proofs.YtchjijifmjbgoaaDoor.Tn
set_option maxRecDepth 100000
open Go.ChangeShapes Go.WideShapes Go.ChangeAt Go.RowKit Go.Proofs.YtchjijifmjbgoaaDoor.Fx Go.Proofs.YtchjijifmjbgoaaDoor.Rf

/-! ### the landed code: a pair, turned -/
def fa (a b : Int) : Nat → Int
  | 0 => a | 1 => b | 2 => a | _ => b
def fb (c d : Int) : Nat → Int
  | 0 => c | 1 => d | 2 => d | _ => c
/-- the four products' factors, as one value -/
def facV (a b c d : Int) : Value := .agg #[.int .i64 a, .int .i64 c, .int .i64 b, .int .i64 d, .int .i64 a, .int .i64 d, .int .i64 b, .int .i64 c]
theorem fac_at (a b c d : Int) (i : Nat) (hi : i < 4) (w : World) : (Instr.index 98 (facV a b c d) (.int .i64 (i : Int))).run Tryd.prog w = .ok (.agg #[.int .i64 (fa a b i), .int .i64 (fb c d i)]) w := by
  have h2 : (Tryd.prog.info? 72).map (·.size) = some 2 := by kernel_rfl
  cases hq : Tryd.prog.info? 72 with
  | none => simp [hq] at h2
  | some j =>
    have hj : j.size = 2 := by simpa [hq] using h2
    unfold facV
    rcases i with _ | _ | _ | _ | i
    all_goals first
      | omega
      | (simp [Instr.index, asIntOf, run_underlying Tryd.underlying98, part, isAgg, run_underlying Tryd.underlying72, sizeOf, typeInfo, hq, hj, fa, fb])
theorem size_pairT : (Tryd.prog.info? 72).map (·.size) = some 2 := by kernel_rfl
def rowI4 (l : List Int) : Array Value := (l.map (Value.int .i64)).toArray
structure TnP (w : World) (a b c d : Int) (ps : List Int) (W : World) : Prop where
  below : Below w.heap.size w W
  p : W.heap[w.heap.size]? = some (.cells #[.int .i64 a, .int .i64 b] 72 (0, 0))
  by_ : W.heap[w.heap.size + 1]? = some (.cells #[.int .i64 c, .int .i64 d] 72 (0, 0))
  res : W.heap[w.heap.size + 2]? = some (.cells #[.int .i64 0, .int .i64 0] 72 (0, 0))
  prods : W.heap[w.heap.size + 3]? = some (.cells (rowI4 ps) 97 (0, 0))
theorem TnP.made (w : World) (a b c d : Int) (X Y Z V : Array Value) (hX : X = #[.int .i64 a, .int .i64 b]) (hY : Y = #[.int .i64 c, .int .i64 d]) (hZ : Z = #[.int .i64 0, .int .i64 0]) (hV : V = rowI4 [0, 0, 0, 0]) :
    TnP w a b c d [0, 0, 0, 0] ((((w.alloc (.cells X 72)).alloc (.cells Y 72)).alloc (.cells Z 72)).alloc (.cells V 97)) := by
  subst hX hY hZ hV
  have b1 := heap_alloc_new w (.cells #[.int .i64 a, .int .i64 b] 72)
  have b2 := heap_alloc_new (w.alloc (.cells #[.int .i64 a, .int .i64 b] 72)) (.cells #[.int .i64 c, .int .i64 d] 72)
  have b3 := heap_alloc_new ((w.alloc (.cells #[.int .i64 a, .int .i64 b] 72)).alloc (.cells #[.int .i64 c, .int .i64 d] 72)) (.cells #[.int .i64 0, .int .i64 0] 72)
  have b4 := heap_alloc_new (((w.alloc (.cells #[.int .i64 a, .int .i64 b] 72)).alloc (.cells #[.int .i64 c, .int .i64 d] 72)).alloc (.cells #[.int .i64 0, .int .i64 0] 72)) (.cells (rowI4 [0, 0, 0, 0]) 97)
  simp only [World.size_alloc] at b2 b3 b4
  refine ⟨((((Below.refl _ _).alloc (Nat.le_refl _) _).alloc (by simp) _).alloc (by simp; omega) _).alloc (by simp; omega) _, ?_, ?_, ?_, b4⟩
  · rw [Below.heap_alloc _ _ _ (by simp; omega), Below.heap_alloc _ _ _ (by simp; omega), Below.heap_alloc _ _ _ (by simp)]
    exact b1
  · rw [Below.heap_alloc _ _ _ (by simp), Below.heap_alloc _ _ _ (by simp)]
    exact b2
  · rw [Below.heap_alloc _ _ _ (by simp)]
    exact b3
section
variable {w W W' : World} {a b c d : Int} {ps : List Int}
theorem TnP.later (h : TnP w a b c d ps W) (hb : Below W.heap.size W W') : TnP w a b c d ps W' :=
  ⟨h.below.trans (hb.mono h.below.size), (hb.block _ (Array.getElem?_eq_some_iff.1 h.p).1).trans h.p, (hb.block _ (Array.getElem?_eq_some_iff.1 h.by_).1).trans h.by_, (hb.block _ (Array.getElem?_eq_some_iff.1 h.res).1).trans h.res, (hb.block _ (Array.getElem?_eq_some_iff.1 h.prods).1).trans h.prods⟩
theorem TnP.set (h : TnP w a b c d ps W) (i : Nat) (x : Int) : TnP w a b c d (ps.set i x) (W.setCell ⟨w.heap.size + 3, i, none⟩ (.int .i64 x)) := by
  refine ⟨h.below.setCell (p := ⟨w.heap.size + 3, i, none⟩) (by simp) _, ?_, ?_, ?_, ?_⟩
  · exact (heap_setCell_other W ⟨w.heap.size + 3, i, none⟩ _ _ (by simp)).trans h.p
  · exact (heap_setCell_other W ⟨w.heap.size + 3, i, none⟩ _ _ (by simp)).trans h.by_
  · exact (heap_setCell_other W ⟨w.heap.size + 3, i, none⟩ _ _ (by simp)).trans h.res
  · rw [heap_setCell_same _ _ _ _ _ _ h.prods]
    unfold rowI4
    simp [List.map_set]
theorem TnP.cell (h : TnP w a b c d ps W) (i : Nat) (hi : i < ps.length) : W.cell? ⟨w.heap.size + 1 + 1 + 1, i, none⟩ = some (.int .i64 (ps.getD i 0)) := by
  rw [cell_of_row _ _ _ _ _ _ h.prods]
  unfold rowI4
  simp [hi]
theorem TnP.size_lt (h : TnP w a b c d ps W) : w.heap.size + 1 + 1 + 1 < W.heap.size := (Array.getElem?_eq_some_iff.1 h.prods).1
theorem TnP.cell_at (_h : TnP w a b c d ps W') (i : Nat) (x : Int) (hc : W.cell? ⟨w.heap.size + 1 + 1 + 1, i, none⟩ = some (.int .i64 x)) (hl : w.heap.size + 1 + 1 + 1 < W.heap.size) (hb : Below W.heap.size W W') : W'.cell? ⟨w.heap.size + 1 + 1 + 1, i, none⟩ = some (.int .i64 x) := by
  rw [← hc]
  exact hb.cell hl
theorem TnP.frozen (h : TnP w a b c d ps W) (i : Nat) : W.frozen? ⟨w.heap.size + 1 + 1 + 1, i, none⟩ = false := frozen_of_row _ _ _ _ _ h.prods
end
theorem fq_mul {x y : Int} (hx : isN x) (hy : isN y) : Fq.mulR x y = Fq.res (rnd (x * y)) ∧ Fq.mulE x y = Fq.err (rnd (x * y)) := by
  unfold Fq.mulR Fq.mulE
  rw [if_pos ⟨hx, hy⟩, if_pos ⟨hx, hy⟩]
  exact ⟨rfl, rfl⟩
theorem fq_add {x y : Int} (hx : isN x) (hy : isN y) : Fq.addR x y = Fq.res (x + y) ∧ Fq.addE x y = Fq.err (x + y) := by
  unfold Fq.addR Fq.addE
  rw [if_pos ⟨hx, hy⟩, if_pos ⟨hx, hy⟩]
  exact ⟨rfl, rfl⟩
theorem fq_yes {v : Int} (h : isN v) : Fq.res v = v ∧ Fq.err v = 0 := by unfold Fq.res Fq.err; rw [if_pos h, if_pos h]; exact ⟨rfl, rfl⟩
theorem fq_no {v : Int} (h : ¬ isN v) : Fq.res v = 0 ∧ Fq.err v = 17 := by unfold Fq.res Fq.err; rw [if_neg h, if_neg h]; exact ⟨rfl, rfl⟩
theorem one_00 : (#[Value.int .i64 0, .int .i64 0] : Array Value).all (·.oneCell') = true := by simp [Value.oneCell']
theorem one_xy (x y : Int) : (#[Value.int .i64 x, .int .i64 y] : Array Value).all (·.oneCell') = true := by simp [Value.oneCell']
theorem trn_no {a b c d : Int} (h : ¬ trnOk a b c d) : trn a b c d = none := by unfold trn; rw [if_neg h]
set_option maxHeartbeats 4000000 in
theorem turned_any (w : World) (a b c d : Int) (ha : isN a) (hb : isN b) (hc : isN c) (hd : isN d) :
    Calls Tryd.prog 57 #[.agg #[.int .i64 a, .int .i64 b], .agg #[.int .i64 c, .int .i64 d]] w fun e w' => e = .returned (pairV (trn a b c d)) ∧ Below w.heap.size w w' := by
  have HFa : Hid (∀ i, i < 4 → isN (fa a b i) ∧ isN (fb c d i)) := Lib.hid (fun i hi => by
    rcases i with _ | _ | _ | _ | i
    · exact ⟨ha, hc⟩
    · exact ⟨hb, hd⟩
    · exact ⟨ha, hd⟩
    · exact ⟨hb, hc⟩
    · omega)
  have HNo : Hid (∀ i, i < 4 → ¬ isN (rnd (fa a b i * fb c d i)) → trn a b c d = none) := Lib.hid (fun i hi h => trn_no (fun ok => by
    obtain ⟨o1, o2, o3, o4, _, _⟩ := ok
    rcases i with _ | _ | _ | _ | i
    · exact h o1
    · exact h o2
    · exact h o3
    · exact h o4
    · omega))
  have HNd : Hid (¬ isN (rnd (a * c) - rnd (b * d)) → trn a b c d = none) := Lib.hid (fun h => trn_no (fun ok => h ok.2.2.2.2.1))
  have HNs : Hid (¬ isN (rnd (a * d) + rnd (b * c)) → trn a b c d = none) := Lib.hid (fun h => trn_no (fun ok => h ok.2.2.2.2.2))
  have HYs : Hid (trnOk a b c d → trn a b c d = some (rnd (a * c) - rnd (b * d), rnd (a * d) + rnd (b * c))) := Lib.hid (fun h => by unfold trn; rw [if_pos h])
  have HFx := Lib.hid (fun i hi => fac_at a b c d i hi)
  obtain ⟨T, hT⟩ : ∃ T, trn a b c d = T := ⟨_, rfl⟩
  rw [hT] at HNo HNd HNs HYs ⊢
  clear ha hb hc hd hT
  go_enter Tryd.func57, Tryd.ntmps57
  go_upto_region 2 with fail
  refine gen_world (Q := fun w => Code.wp _ _ _ _ w) _ (TnP w a b c d [0, 0, 0, 0]) (TnP.made w a b c d _ _ _ _ rfl rfl rfl rfl) ?_
  intro W hW
  have HW := Lib.hid hW
  have p0 : W.cell? ⟨w.heap.size, 0, none⟩ = some (.int .i64 a) := by rw [cell_of_row _ _ _ _ _ _ hW.p]; rfl
  have p1 : W.cell? ⟨w.heap.size, 1, none⟩ = some (.int .i64 b) := by rw [cell_of_row _ _ _ _ _ _ hW.p]; rfl
  have q0 : W.cell? ⟨w.heap.size + 1, 0, none⟩ = some (.int .i64 c) := by rw [cell_of_row _ _ _ _ _ _ hW.by_]; rfl
  have q1 : W.cell? ⟨w.heap.size + 1, 1, none⟩ = some (.int .i64 d) := by rw [cell_of_row _ _ _ _ _ _ hW.by_]; rfl
  clear hW
  go_wp2
  go_loopw [35] (fun t wr => ∃ (i : Nat) (ps : List Int), i ≤ 4 ∧ t = .int .i64 i ∧ ps.length = 4 ∧ (∀ k, k < i → ps.getD k 0 = rnd (fa a b k * fb c d k) ∧ isN (ps.getD k 0)) ∧ TnP w a b c d ps wr) (fun t _ => 4 - (intOf t).toNat)
  case atStart => exact ⟨0, _, by omega, rfl, rfl, (fun k hk => absurd hk (by omega)), HW.out⟩
  case round =>
    clear HW p0 p1 q0 q1
    obtain ⟨i, ps, hi, rfl, hl, hps, hS⟩ := hrel
    have HS := Lib.hid hS
    have HPs := Lib.hid hps
    have HL := Lib.hid hl
    clear hS hps hl
    by_cases hlt : i < 4
    · have hdt : decide ((i : Int) < 4) = true := by simp; omega
      have hx := HFx.out i hlt
      unfold facV at hx
      have hxy := HFa.out i hlt
      have HN := Lib.hid (HNo.out i hlt)
      have HEq : Hid (∀ k, k < 4 → k = i → rnd (fa a b k * fb c d k) = rnd (fa a b i * fb c d i)) := Lib.hid (fun k _ h => by rw [h])
      have HMul := Lib.hid (fun W => Fq.mul_any W (fa a b i) (fb c d i))
      rw [(fq_mul hxy.1 hxy.2).1, (fq_mul hxy.1 hxy.2).2] at HMul
      obtain ⟨x, ex⟩ : ∃ x, fa a b i = x := ⟨_, rfl⟩
      obtain ⟨y, ey⟩ : ∃ y, fb c d i = y := ⟨_, rfl⟩
      rw [ex, ey] at hx HN HMul HEq
      obtain ⟨r, er⟩ : ∃ r, rnd (x * y) = r := ⟨_, rfl⟩
      rw [er] at HN HMul HEq
      clear ex ey er hxy
      by_cases hr : isN r
      · rw [(fq_yes hr).1, (fq_yes hr).2] at HMul
        have HR := Lib.hid hr
        clear HN hr
        go_wp2_with fail
        refine (HMul.out _).mono ?_
        rintro e w' ⟨rfl, hb⟩
        have HS1 := Lib.hid ((HS.out.later ((Below.refl _ _).alloc (Nat.le_refl _) _)).later hb)
        have cp := HS1.out.cell i (by rw [HL.out]; exact hlt)
        have fp := HS1.out.frozen i
        have HS2 := Lib.hid (HS1.out.set i r)
        obtain ⟨o, ho⟩ : ∃ o, ps.getD i 0 = o := ⟨_, rfl⟩
        rw [ho] at cp
        clear hb HMul hx ho
        go_wp2
        go_roundw
        case rel => exact ⟨i + 1, ps.set i r, by omega, by go_num, by simpa using HL.out, (fun k hk => by
          by_cases e : k = i
          · subst e
            have h := HEq.out k hlt rfl
            have hl : ps.length = 4 := HL.out
            rw [show (ps.set k r).getD k 0 = r by simp [hl, hlt], h]
            exact ⟨rfl, HR.out⟩
          · have h := HPs.out k (by omega)
            rw [show (ps.set i r).getD k 0 = ps.getD k 0 by simp [Ne.symm e]]
            exact h), HS2.out⟩
        case measure => simp [intOf]; omega
      · rw [(fq_no hr).1, (fq_no hr).2] at HMul
        have HE := Lib.hid (HN.out hr)
        clear HN hr
        go_wp2_with fail
        refine (HMul.out _).mono ?_
        rintro e w' ⟨rfl, hb⟩
        have HS1 := Lib.hid ((HS.out.later ((Below.refl _ _).alloc (Nat.le_refl _) _)).later hb)
        clear hb HMul hx
        go_wp2_with (refine wpList_store_row rfl 72 (.tmp 4) (.tmp 49) rfl (w.heap.size + 1 + 1) #[.int .i64 0, .int .i64 0] rfl rfl 72 _ HS1.out.res size_pairT rfl one_00 ?_)
        (try simp only [Act.put])
        rw [HE.out]
        exact bodyPost_ret (v := pairV none) (results_two Tryd.results57 _ _ (w.heap.size + 1 + 1) 72 _ (0, 0) _ _ rfl rfl (setRow_heap _ _ _ _ _ _ HS1.out.res) Tryd.underlying72 rfl size_pairT) rfl ⟨rfl, below_setRow HS1.out.below (by omega) _⟩
    · obtain rfl : i = 4 := by omega
      have h0 := HPs.out 0 (by omega)
      have h1 := HPs.out 1 (by omega)
      have h2 := HPs.out 2 (by omega)
      have h3 := HPs.out 3 (by omega)
      have c0 := HS.out.cell 0 (by rw [HL.out]; omega)
      have c1 := HS.out.cell 1 (by rw [HL.out]; omega)
      have c2 := HS.out.cell 2 (by rw [HL.out]; omega)
      have c3 := HS.out.cell 3 (by rw [HL.out]; omega)
      obtain ⟨x0, e0⟩ : ∃ o, ps.getD 0 0 = o := ⟨_, rfl⟩
      obtain ⟨x1, e1⟩ : ∃ o, ps.getD 1 0 = o := ⟨_, rfl⟩
      obtain ⟨x2, e2⟩ : ∃ o, ps.getD 2 0 = o := ⟨_, rfl⟩
      obtain ⟨x3, e3⟩ : ∃ o, ps.getD 3 0 = o := ⟨_, rfl⟩
      rw [e0] at h0 c0
      rw [e1] at h1 c1
      rw [e2] at h2 c2
      rw [e3] at h3 c3
      simp only [fa, fb] at h0 h1 h2 h3
      rw [← h0.1, ← h1.1] at HNd
      rw [← h2.1, ← h3.1] at HNs
      have HY : Hid (isN (x0 - x1) → isN (x2 + x3) → T = some (x0 - x1, x2 + x3)) := Lib.hid (fun ha hb => by
        rw [HYs.out ⟨by rw [← h0.1]; exact h0.2, by rw [← h1.1]; exact h1.2, by rw [← h2.1]; exact h2.2, by rw [← h3.1]; exact h3.2, by rw [← h0.1, ← h1.1]; exact ha, by rw [← h2.1, ← h3.1]; exact hb⟩, h0.1, h1.1, h2.1, h3.1])
      have n0 := h0.2
      have n1 := h1.2
      have HA := Lib.hid (fun W => Fq.add_any W x2 x3)
      rw [(fq_add h2.2 h3.2).1, (fq_add h2.2 h3.2).2] at HA
      have HI := Lib.hid (fun W => inr_any W (x0 - x1))
      clear e0 e1 e2 e3 h0 h1 h2 h3 HPs HYs HNo HFx HFa HL
      obtain ⟨b1, b2⟩ := n0
      obtain ⟨b3, b4⟩ := n1
      have s1 : -9223372036854775808 ≤ x0 - x1 := by omega
      have s2 : x0 - x1 ≤ 9223372036854775807 := by omega
      go_wp2_with fail
      refine (HI.out _).mono ?_
      rintro e w3 ⟨rfl, hb⟩
      have HS3 := Lib.hid (HS.out.later hb)
      have c4 := HS3.out.cell_at 2 x2 c2 (HS.out.size_lt) hb
      have c5 := HS3.out.cell_at 3 x3 c3 (HS.out.size_lt) hb
      clear hb HI c0 c1 c2 c3
      unfold orNil over
      by_cases hd : isN (x0 - x1)
      · rw [if_pos hd, if_pos hd]
        have HY2 : Hid (isN (x2 + x3) → T = some (x0 - x1, x2 + x3)) := Lib.hid (HY.out hd)
        clear HY HNd hd
        go_wp2_with fail
        refine (HA.out _).mono ?_
        rintro e w4 ⟨rfl, hb⟩
        have HS4 := Lib.hid (HS3.out.later hb)
        clear hb HA HS3
        have HS3 := HS4
        obtain ⟨u, hu⟩ : ∃ u, x0 - x1 = u := ⟨_, rfl⟩
        rw [hu] at HY2 ⊢
        by_cases hs : isN (x2 + x3)
        · rw [(fq_yes hs).1, (fq_yes hs).2]
          have HE := Lib.hid (HY2.out hs)
          obtain ⟨v, hv⟩ : ∃ v, x2 + x3 = v := ⟨_, rfl⟩
          rw [hv] at HE ⊢
          clear hu hv hs HY2 HNs
          go_wp2_with (refine wpList_store_row rfl 72 (.tmp 4) (.tmp 82) rfl (w.heap.size + 1 + 1) #[.int .i64 u, .int .i64 v] rfl rfl 72 _ HS3.out.res size_pairT rfl (one_xy u v) ?_)
          (try simp only [Act.put])
          rw [HE.out]
          exact bodyPost_ret (v := pairV (some (u, v))) (results_two Tryd.results57 _ _ (w.heap.size + 1 + 1) 72 _ (0, 0) _ _ rfl rfl (setRow_heap _ _ _ _ _ _ HS3.out.res) Tryd.underlying72 rfl size_pairT) rfl ⟨rfl, below_setRow HS3.out.below (by omega) _⟩
        · rw [(fq_no hs).1, (fq_no hs).2]
          have HE := Lib.hid (HNs.out hs)
          clear hu hs HY2 HNs
          go_wp2_with (refine wpList_store_row rfl 72 (.tmp 4) (.tmp 78) rfl (w.heap.size + 1 + 1) #[.int .i64 0, .int .i64 0] rfl rfl 72 _ HS3.out.res size_pairT rfl one_00 ?_)
          (try simp only [Act.put])
          rw [HE.out]
          exact bodyPost_ret (v := pairV none) (results_two Tryd.results57 _ _ (w.heap.size + 1 + 1) 72 _ (0, 0) _ _ rfl rfl (setRow_heap _ _ _ _ _ _ HS3.out.res) Tryd.underlying72 rfl size_pairT) rfl ⟨rfl, below_setRow HS3.out.below (by omega) _⟩
      · rw [if_neg hd, if_neg hd]
        have HE := Lib.hid (HNd.out hd)
        clear HY HNd hd HA
        go_wp2_with (refine wpList_store_row rfl 72 (.tmp 4) (.tmp 66) rfl (w.heap.size + 1 + 1) #[.int .i64 0, .int .i64 0] rfl rfl 72 _ HS3.out.res size_pairT rfl one_00 ?_)
        (try simp only [Act.put])
        rw [HE.out]
        exact bodyPost_ret (v := pairV none) (results_two Tryd.results57 _ _ (w.heap.size + 1 + 1) 72 _ (0, 0) _ _ rfl rfl (setRow_heap _ _ _ _ _ _ HS3.out.res) Tryd.underlying72 rfl size_pairT) rfl ⟨rfl, below_setRow HS3.out.below (by omega) _⟩
end Go.Proofs.YtchjijifmjbgoaaDoor.Tn
