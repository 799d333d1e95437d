import Derived.Test.YtllaecliaojmjaaDoorWx
namespace Go.Proofs.YtllaecliaojmjaaDoor.Bp
set_option maxRecDepth 100000
open Go.ChangeShapes Go.WideShapes Go.ChangeAt Go.RowKit Go.Proofs.YtllaecliaojmjaaDoor.Tn

/-! ### the walk of BpeBack -/
section
variable {a : Act} {o : Oper} {W : World}
theorem exec_call2 {P : Program} (f : FuncId) (x y : Operand) (ats : Array TypeId) (u v : Value) (ho : o.op = .call { callee := .value (.func f), args := #[x, y], argTypes := ats }) (hx : a.eval x = u) (hy : a.eval y = v)
    (hf : (callFunc f #[u, v]).run P W = .ok (.enter f #[u, v]) W) : (execOp a.eval o).run P W = .ok (.enter f #[u, v]) W :=
  Tn.exec_call f #[x, y] ats #[u, v] ho (by simp [hx, hy]) hf
end
set_option maxHeartbeats 4000000 in
theorem bytes_same (w : World) (sp sq : Option Addr) (cap caq N : Nat) (l : List Int) (hN : l.length = N) (hl : Byts w sp cap l) (hm : Byts w sq caq l) :
    Calls Tryd.prog 13 #[.slice sp N cap, .slice sq N caq] w fun e w' => e = .returned (.bool true) ∧ Below w.heap.size w w' := by
  have hNm : N ≤ 9223372036854775807 := by rw [← hN]; have := Tn.Sl.len hl.sl; simpa using this
  have HL := Lib.hid hl
  have HM := Lib.hid hm
  have HN := Lib.hid hN
  clear hl hm hN
  go_enter Tryd.func13, Tryd.ntmps13
  go_wp2
  go_loopw [5] (fun i wr => ∃ k m : Nat, k ≤ N ∧ i = .int .i64 k ∧ wr = w.drewN m) (fun i _ => N - (intOf i).toNat)
  case atStart => exact ⟨0, 0, by omega, rfl, rfl⟩
  case round =>
    obtain ⟨k, m, hk, rfl, rfl⟩ := hrel
    by_cases hlt : k < N
    · have hdt : decide (k < N) = true := by simp; omega
      obtain ⟨g, o, rfl, hc⟩ := HL.out.at_ k (by rw [HN.out]; exact hlt)
      obtain ⟨g2, o2, rfl, hc2⟩ := HM.out.at_ k (by rw [HN.out]; exact hlt)
      obtain ⟨x, hx⟩ : ∃ x, l.getD k 0 = x := ⟨_, rfl⟩
      rw [hx] at hc hc2
      have hxx : (x != x) = false := by simp
      clear hx
      go_wp2
      go_quiet (fail)
      go_wp2
      go_roundw
      case rel => exact ⟨k + 1, _, by omega, by go_num, rfl⟩
      case measure => simp [intOf]; omega
    · have hdf : decide (k < N) = false := by simp; omega
      go_wp2
      go_ret
      exact ⟨rfl, below_drewN (Below.refl _ _) _⟩
theorem newD_none {al : List Int} {ps : List (Int × Int)} (h : (newD al ps).1 = 0) : (newD al []).1 = 0 := by
  obtain ⟨h1, h2, h3, _, _⟩ := newD_yes h
  rw [newD_go (by rw [List.length_nil]; omega) h3]
  rfl
theorem encD_none {al b : List Int} (hb : badAt al b = none) (hN : b.length ≤ 4096) : encD al [] b = (firsts al b, 0, 0) := by
  unfold encD
  rw [if_neg (by omega), hb]
  dsimp only
  rw [enc_stop (by rfl)]
theorem Prs.nil (w : World) : Prs w none 0 [] := ⟨Nat.le_refl _, by unfold maxLen; omega, fun _ => rfl, fun h => absurd h (by simp)⟩
def wbX (B : Nat) (sl : Option Addr) (Ln cl2 c o P cq k : Nat) (x y : Int) : Nat → Option Value
  | 0 => some (.slice sl Ln cl2)
  | 1 => some (.pointer (some ⟨B, 1, none⟩))
  | 2 => some (.slice (some ⟨c, o, none⟩) P cq)
  | 3 => some (.int .i64 (k : Int))
  | 4 => some (.pointer (some ⟨c, o + k * 2, none⟩))
  | 5 => some (.pointer (some ⟨c, o + k * 2, none⟩))
  | 6 => some (.int .i64 x)
  | 7 => some (.pointer (some ⟨B, 1, none⟩))
  | 8 => some (.slice (some ⟨c, o, none⟩) P cq)
  | 9 => some (.int .i64 (k : Int))
  | 10 => some (.pointer (some ⟨c, o + k * 2, none⟩))
  | 11 => some (.pointer (some ⟨c, o + k * 2 + 1, none⟩))
  | 12 => some (.int .i64 y)
  | 13 => some (.agg #[.int .i64 x, .int .i64 y])
  | _ => none
set_option maxHeartbeats 8000000 in
theorem back_walk (w : World) (s1 s2 : Option Addr) (n P c1 cq : Nat) (al : List Int) (ps : List (Int × Int)) (bp : Option Addr) (cb N : Nat) (b : List Int) (ha : Byts w s1 c1 al) (hn : al.length = n) (hps : Prs w s2 cq ps) (hP : ps.length = P) (hb : Byts w bp cb b) (hN : b.length = N) :
    Calls Tryd.prog 4 #[.agg #[.slice s1 n c1, .slice s2 P cq], .slice bp N cb] w fun e w' => e = .returned (.bool true) ∧ Below w.heap.size w w' := by
  have HA := Lib.hid ha
  have HPs := Lib.hid hps
  have HBy := Lib.hid hb
  have Hn := Lib.hid hn
  have HP := Lib.hid hP
  have HN := Lib.hid hN
  have hnm : n ≤ maxLen := by have h1 := ha.sl.le; have h2 := ha.sl.max; rw [List.length_map] at h1; omega
  have hPm : P ≤ maxLen := by have h1 := hps.le; have h2 := hps.max; omega
  have hNm : N ≤ 9223372036854775807 := by rw [← hN]; have := Tn.Sl.len hb.sl; simpa using this
  have Hnm := Lib.hid hnm
  have HPm := Lib.hid hPm
  have HX0 := Lib.hid (Bx.made (s1 := s1) (n := n) (c1 := c1) (s2 := s2) (P := P) (cq := cq) w)
  clear ha hps hn hP hnm hPm hb hN
  go_enter Tryd.func4, Tryd.ntmps4
  go_upto_region 1 with fail
  refine gen_w (Q := fun w => Code.wp _ _ _ _ w) _ (Bx w.heap.size s1 n c1 s2 P cq w) HX0.out ?_
  clear HX0
  intro w1 hx1
  have HX1 := Lib.hid hx1
  obtain ⟨q0, q1⟩ := hx1.cells
  clear hx1
  go_wp2_with fail
  refine (few_any w1 s1 s2 n P c1 cq Hnm.out HPm.out).mono ?_
  rintro e w2 ⟨rfl, hb2⟩
  have HX2 := Lib.hid (HX1.out.later hb2)
  clear hb2 q0 q1 HX1
  by_cases hfew : (n ≤ 600 ∧ P ≤ 60) ∧ N ≤ 60
  · have hf : (decide (n ≤ 600) && decide (P ≤ 60)) = true := by simp [hfew.1.1, hfew.1.2]
    rw [hf]
    have HFew := Lib.hid hfew
    obtain ⟨q0, q1⟩ := HX2.out.cells
    have hab := HX2.out.below
    have HA2 := Lib.hid (HA.out.below hab)
    have HPs2 := Lib.hid (HPs.out.below hab)
    have d5 : decide (60 < N) = false := by have := hfew.2; simp; omega
    have d6 : decide ((60 : Int) < (N : Int)) = false := by have := hfew.2; simp; omega
    clear hf hfew hab
    go_wp2_with fail
    refine (new_any w2 s1 s2 c1 cq n P al ps HA2.out Hn.out HPs2.out HP.out (by have := HFew.out; omega) (by have := HFew.out; omega)).mono ?_
    rintro e w3 ⟨hb3, ⟨hE, rfl⟩ | ⟨hE, g, rfl, hg, hc⟩⟩
    · have HX3 := Lib.hid (HX2.out.later hb3)
      have HE := Lib.hid hE
      obtain ⟨E, hEe⟩ : ∃ E, (newD al ps).1 = E := ⟨_, rfl⟩
      rw [hEe] at HE ⊢
      have hE0 : (E == 0) = false := by have := HE.out; simpa using this
      have hE1 : (E != 0) = true := by have := HE.out; simpa using this
      clear hb3 q0 q1 hE hEe
      go_wp2_with fail
      refine (awake_any _).mono ?_
      rintro e w4 ⟨rfl, hbw4⟩
      have HX4 := Lib.hid (HX3.out.later hbw4)
      clear hbw4
      go_wp2
      go_ret
      exact ⟨rfl, HX4.out.below⟩
    · have HX3 := Lib.hid (HX2.out.later hb3)
      have HE := Lib.hid hE
      obtain ⟨hy1, hy2, _, hy4, _⟩ := newD_yes hE
      have hG := good_newD ps (fun x hx => HA.out.rng x hx)
      obtain ⟨T, hT⟩ : ∃ T, (newD al ps).2 = T := ⟨_, rfl⟩
      rw [hT] at hy4 hc hG
      have HT := Lib.hid hT
      have HTx := Lib.hid hy4
      have HG := Lib.hid hG
      have HC3 := Lib.hid hc
      have HMl : Hid (T.length ≤ 512) := Lib.hid (by have := hy4.len; omega)
      have HnP : Hid (n + P ≤ 512) := Lib.hid (by rw [← Hn.out, ← HP.out]; exact hy2)
      have HN60 : Hid (N ≤ 60) := Lib.hid HFew.out.2
      have HB3 := Lib.hid (HBy.out.below HX3.out.below)
      clear hb3 q0 q1 hE hg hc hy1 hy2 hy4 hG hT
      cases hbad : badAt al b with
      | some bi =>
        have HE1 : Hid (encD al ps b = ([], bi, 14)) := Lib.hid (by unfold encD; rw [if_neg (by rw [HN.out]; have := HN60.out; omega), hbad])
        clear hbad
        go_wp2_with fail
        refine (encode_any w3 g bp cb N n P al ps T b HC3.out HTx.out HB3.out HN.out Hn.out HP.out HnP.out).mono ?_
        rw [HE1.out]
        rintro e w4 ⟨sl, cl2, rfl, _, hb4⟩
        dsimp only
        simp only [List.length_nil]
        have HX4 := Lib.hid (HX3.out.later hb4)
        have e3 := same_beq (14 : Int)
        clear hb4
        go_wp2_with fail
        refine (awake_any _).mono ?_
        rintro e w5 ⟨rfl, hbw5⟩
        have HX5 := Lib.hid (HX4.out.later hbw5)
        clear hbw5
        go_wp2
        go_ret
        exact ⟨rfl, HX5.out.below⟩
      | none =>
        have hbk := back HE.out hbad
        have hen := enc_done ps al.length b.length (firsts al b) (by rw [firsts_length]; exact Nat.le_refl _)
        obtain ⟨L, hL⟩ : ∃ L, enc ps al.length b.length (firsts al b) = L := ⟨_, rfl⟩
        have HE1 : Hid (encD al ps b = (L, 0, 0)) := Lib.hid (by unfold encD; rw [if_neg (by rw [HN.out]; have := HN60.out; omega), hbad, ← hL])
        have hln : L.length ≤ N := by
          rw [← hL]
          exact Nat.le_trans (enc_length _ _ _ _) (by rw [firsts_length, HN.out]; exact Nat.le_refl _)
        rw [hL] at hbk hen
        rw [HT.out] at hbk
        obtain ⟨Ln, hl⟩ : ∃ Ln, L.length = Ln := ⟨_, rfl⟩
        rw [hl] at hln
        have HLl := Lib.hid hl
        have HBk := Lib.hid hbk
        have HEn := Lib.hid (fst_none hen)
        have HBad := Lib.hid hbad
        have HLn := Lib.hid hln
        clear hbk hen hL hl hln hbad
        go_wp2_with fail
        refine (encode_any w3 g bp cb N n P al ps T b HC3.out HTx.out HB3.out HN.out Hn.out HP.out HnP.out).mono ?_
        rw [HE1.out]
        rintro e w4 ⟨sl, cl2, rfl, hn4, hb4⟩
        dsimp only at hn4 ⊢
        rw [HLl.out, show ((0 : Nat) : Int) = 0 from rfl]
        have HX4 := Lib.hid (HX3.out.later hb4)
        have HC4 := Lib.hid (HC3.out.later hb4)
        have HL4 := Lib.hid hn4
        clear hn4 hb4
        go_wp2_with fail
        refine (decode_any w4 g sl cl2 Ln al ps T L HC4.out HG.out HMl.out HL4.out HLl.out (by have := HLn.out; have := HN60.out; omega)).mono ?_
        rw [HBk.out]
        rintro e w5 ⟨hb5, sp5, cap5, rfl, hby5⟩
        dsimp only at hby5 ⊢
        rw [HN.out]
        have HX5 := Lib.hid (HX4.out.later hb5)
        have HL5 := Lib.hid (Tn.Nums.below HL4.out hb5)
        have HG5 := Lib.hid hby5
        clear hb5 hby5
        go_wp2
        go_loopw [12] (fun i wr => ∃ k : Nat, k ≤ P ∧ i = .int .i64 k ∧ Below w5.heap.size w5 wr) (fun i _ => P - (intOf i).toNat)
        case atStart => exact ⟨0, by omega, rfl, Below.refl _ _⟩
        case round =>
          obtain ⟨k, hk, rfl, hbr⟩ := hrel
          have HBr := Lib.hid hbr
          have HXr := Lib.hid (HX5.out.later hbr)
          obtain ⟨r0, r1⟩ := HXr.out.cells
          have hPm : P ≤ 60 := HFew.out.1.2
          clear hbr
          by_cases hkP : k < P
          · have hd1 : decide (k < P) = true := by simpa using hkP
            have hd2 : decide ((k : Int) < (P : Int)) = true := by simp; omega
            have HkP := Lib.hid hkP
            have HLr := Lib.hid (Tn.Nums.below HL5.out HBr.out)
            obtain ⟨c, o, e, hrg⟩ := (HPs.out.below HXr.out.below).at_ k (by rw [HP.out]; exact hkP)
            obtain ⟨⟨x, y⟩, hxy⟩ : ∃ p, ps.getD k (0, 0) = p := ⟨_, rfl⟩
            have HNb : Hid (nbr (x, y) L = false) := Lib.hid (HEn.out _ (by
              rw [← hxy, List.getD_eq_getElem?_getD, List.getElem?_eq_getElem (by rw [HP.out]; exact hkP), Option.getD_some]
              exact List.getElem_mem _))
            rw [hxy] at hrg
            have HcX : Hid (wr.cell? ⟨c, o + k * 2, none⟩ = some (.int .i64 x)) := Lib.hid (by have := hrg 0 (.int .i64 x) rfl; simpa using this)
            have HcY : Hid (wr.cell? ⟨c, o + k * 2 + 1, none⟩ = some (.int .i64 y)) := Lib.hid (by have := hrg 1 (.int .i64 y) rfl; simpa using this)
            subst e
            clear hrg hxy
            go_upto_region 15 with fail
            refine Tn.wp_region_spec (C := fun W => Below wr.heap.size wr W) (Le := fun w w' => Below w.heap.size w w') 14 (fun _ ixx W yy => True ∧ ∀ z, wbX w.heap.size sl Ln cl2 c o P cq k x y ixx = some z → yy = z) (by kernel_rfl) (by kernel_rfl) ⟨rfl, rfl, rfl, Nat.le_refl _, fun _ _ => rfl⟩ (fun _ _ _ _ _ _ h => h) (fun _ _ _ _ _ hb h => ⟨h.1, h.2⟩) (fun ixx yy => ∀ z, wbX w.heap.size sl Ln cl2 c o P cq k x y ixx = some z → yy = z) (fun _ _ _ _ h => h.2) (fun ixx => (wbX w.heap.size sl Ln cl2 c o P cq k x y ixx).getD undef) (fun ixx z h => by simp [h]) ?_ ?_
            · intro u hu
              have h0 : u 0 = .slice sl Ln cl2 := hu 0 _ rfl
              have h1 : u 1 = .pointer (some ⟨w.heap.size, 1, none⟩) := hu 1 _ rfl
              have h2 : u 2 = .slice (some ⟨c, o, none⟩) P cq := hu 2 _ rfl
              have h3 : u 3 = .int .i64 (k : Int) := hu 3 _ rfl
              have h4 : u 4 = .pointer (some ⟨c, o + k * 2, none⟩) := hu 4 _ rfl
              have h5 : u 5 = .pointer (some ⟨c, o + k * 2, none⟩) := hu 5 _ rfl
              have h6 : u 6 = .int .i64 x := hu 6 _ rfl
              have h7 : u 7 = .pointer (some ⟨w.heap.size, 1, none⟩) := hu 7 _ rfl
              have h8 : u 8 = .slice (some ⟨c, o, none⟩) P cq := hu 8 _ rfl
              have h9 : u 9 = .int .i64 (k : Int) := hu 9 _ rfl
              have h10 : u 10 = .pointer (some ⟨c, o + k * 2, none⟩) := hu 10 _ rfl
              have h11 : u 11 = .pointer (some ⟨c, o + k * 2 + 1, none⟩) := hu 11 _ rfl
              have h12 : u 12 = .int .i64 y := hu 12 _ rfl
              have h13 : u 13 = .agg #[.int .i64 x, .int .i64 y] := hu 13 _ rfl
              simp only [List.take_succ_cons, List.take_zero]
              refine Tn.spec_cons (fun W hC hd => ⟨by rfl, ?_⟩) ?_
              · exact Tn.gives_val (.slice sl Ln cl2) W (by rfl) ⟨hC, Below.refl _ _, trivial, fun z hz => by cases hz; rfl⟩
              simp only [Act.put, List.setIfInBounds_toArray, List.set_cons_succ, List.set_cons_zero, Nat.reduceAdd]
              rw [h0]
              refine Tn.spec_cons (fun W hC hd => ⟨by rfl, ?_⟩) ?_
              · exact Tn.gives_val (.pointer (some ⟨w.heap.size, 1, none⟩)) W (exec_bk1 (.tmp 2) rfl w.heap.size rfl) ⟨hC, Below.refl _ _, trivial, fun z hz => by cases hz; rfl⟩
              simp only [Act.put, List.setIfInBounds_toArray, List.set_cons_succ, List.set_cons_zero, Nat.reduceAdd]
              rw [h1]
              refine Tn.spec_cons (fun W hC hd => ⟨by rfl, ?_⟩) ?_
              · exact Tn.gives_val (.slice (some ⟨c, o, none⟩) P cq) W (exec_load1 23 (.tmp 77) rfl ⟨w.heap.size, 1, none⟩ rfl _ (HXr.out.later hC).cells.2 _ Tryd.underlying23 rfl) ⟨hC, Below.refl _ _, trivial, fun z hz => by cases hz; rfl⟩
              simp only [Act.put, List.setIfInBounds_toArray, List.set_cons_succ, List.set_cons_zero, Nat.reduceAdd]
              rw [h2]
              refine Tn.spec_cons (fun W hC hd => ⟨by rfl, ?_⟩) ?_
              · exact Tn.gives_val (.int .i64 (k : Int)) W (by rfl) ⟨hC, Below.refl _ _, trivial, fun z hz => by cases hz; rfl⟩
              simp only [Act.put, List.setIfInBounds_toArray, List.set_cons_succ, List.set_cons_zero, Nat.reduceAdd]
              rw [h3]
              refine Tn.spec_cons (fun W hC hd => ⟨by rfl, ?_⟩) ?_
              · exact Tn.gives_val (.pointer (some ⟨c, o + k * 2, none⟩)) W (exec_atP (.tmp 78) (.tmp 79) rfl c o P cq k rfl rfl HkP.out) ⟨hC, Below.refl _ _, trivial, fun z hz => by cases hz; rfl⟩
              simp only [Act.put, List.setIfInBounds_toArray, List.set_cons_succ, List.set_cons_zero, Nat.reduceAdd]
              rw [h4]
              refine Tn.spec_cons (fun W hC hd => ⟨by rfl, ?_⟩) ?_
              · exact Tn.gives_val (.pointer (some ⟨c, o + k * 2, none⟩)) W (exec_pfA (.tmp 80) rfl c (o + k * 2) rfl) ⟨hC, Below.refl _ _, trivial, fun z hz => by cases hz; rfl⟩
              simp only [Act.put, List.setIfInBounds_toArray, List.set_cons_succ, List.set_cons_zero, Nat.reduceAdd]
              rw [h5]
              refine Tn.spec_cons (fun W hC hd => ⟨by rfl, ?_⟩) ?_
              · exact Tn.gives_val (.int .i64 x) W (exec_load1 3 (.tmp 81) rfl ⟨c, o + k * 2, none⟩ rfl _ ((hC.cell (block_lt_of_cell HcX.out)).trans HcX.out) _ Tryd.underlying3 rfl) ⟨hC, Below.refl _ _, trivial, fun z hz => by cases hz; rfl⟩
              simp only [Act.put, List.setIfInBounds_toArray, List.set_cons_succ, List.set_cons_zero, Nat.reduceAdd]
              rw [h6]
              refine Tn.spec_cons (fun W hC hd => ⟨by rfl, ?_⟩) ?_
              · exact Tn.gives_val (.pointer (some ⟨w.heap.size, 1, none⟩)) W (exec_bk1 (.tmp 2) rfl w.heap.size rfl) ⟨hC, Below.refl _ _, trivial, fun z hz => by cases hz; rfl⟩
              simp only [Act.put, List.setIfInBounds_toArray, List.set_cons_succ, List.set_cons_zero, Nat.reduceAdd]
              rw [h7]
              refine Tn.spec_cons (fun W hC hd => ⟨by rfl, ?_⟩) ?_
              · exact Tn.gives_val (.slice (some ⟨c, o, none⟩) P cq) W (exec_load1 23 (.tmp 83) rfl ⟨w.heap.size, 1, none⟩ rfl _ (HXr.out.later hC).cells.2 _ Tryd.underlying23 rfl) ⟨hC, Below.refl _ _, trivial, fun z hz => by cases hz; rfl⟩
              simp only [Act.put, List.setIfInBounds_toArray, List.set_cons_succ, List.set_cons_zero, Nat.reduceAdd]
              rw [h8]
              refine Tn.spec_cons (fun W hC hd => ⟨by rfl, ?_⟩) ?_
              · exact Tn.gives_val (.int .i64 (k : Int)) W (by rfl) ⟨hC, Below.refl _ _, trivial, fun z hz => by cases hz; rfl⟩
              simp only [Act.put, List.setIfInBounds_toArray, List.set_cons_succ, List.set_cons_zero, Nat.reduceAdd]
              rw [h9]
              refine Tn.spec_cons (fun W hC hd => ⟨by rfl, ?_⟩) ?_
              · exact Tn.gives_val (.pointer (some ⟨c, o + k * 2, none⟩)) W (exec_atP (.tmp 84) (.tmp 85) rfl c o P cq k rfl rfl HkP.out) ⟨hC, Below.refl _ _, trivial, fun z hz => by cases hz; rfl⟩
              simp only [Act.put, List.setIfInBounds_toArray, List.set_cons_succ, List.set_cons_zero, Nat.reduceAdd]
              rw [h10]
              refine Tn.spec_cons (fun W hC hd => ⟨by rfl, ?_⟩) ?_
              · exact Tn.gives_val (.pointer (some ⟨c, o + k * 2 + 1, none⟩)) W (exec_pfB (.tmp 86) rfl c (o + k * 2) rfl) ⟨hC, Below.refl _ _, trivial, fun z hz => by cases hz; rfl⟩
              simp only [Act.put, List.setIfInBounds_toArray, List.set_cons_succ, List.set_cons_zero, Nat.reduceAdd]
              rw [h11]
              refine Tn.spec_cons (fun W hC hd => ⟨by rfl, ?_⟩) ?_
              · exact Tn.gives_val (.int .i64 y) W (exec_load1 3 (.tmp 87) rfl ⟨c, o + k * 2 + 1, none⟩ rfl _ ((hC.cell (block_lt_of_cell HcY.out)).trans HcY.out) _ Tryd.underlying3 rfl) ⟨hC, Below.refl _ _, trivial, fun z hz => by cases hz; rfl⟩
              simp only [Act.put, List.setIfInBounds_toArray, List.set_cons_succ, List.set_cons_zero, Nat.reduceAdd]
              rw [h12]
              refine Tn.spec_cons (fun W hC hd => ⟨by rfl, ?_⟩) ?_
              · exact Tn.gives_val (.agg #[.int .i64 x, .int .i64 y]) W (exec_build2 (.tmp 82) (.tmp 88) rfl x y rfl rfl) ⟨hC, Below.refl _ _, trivial, fun z hz => by cases hz; rfl⟩
              simp only [Act.put, List.setIfInBounds_toArray, List.set_cons_succ, List.set_cons_zero, Nat.reduceAdd]
              rw [h13]
              exact Tn.spec_nil
            · intro u W hu hC hP
              have h0 : u 0 = .slice sl Ln cl2 := hu 0 _ rfl
              have h1 : u 1 = .pointer (some ⟨w.heap.size, 1, none⟩) := hu 1 _ rfl
              have h2 : u 2 = .slice (some ⟨c, o, none⟩) P cq := hu 2 _ rfl
              have h3 : u 3 = .int .i64 (k : Int) := hu 3 _ rfl
              have h4 : u 4 = .pointer (some ⟨c, o + k * 2, none⟩) := hu 4 _ rfl
              have h5 : u 5 = .pointer (some ⟨c, o + k * 2, none⟩) := hu 5 _ rfl
              have h6 : u 6 = .int .i64 x := hu 6 _ rfl
              have h7 : u 7 = .pointer (some ⟨w.heap.size, 1, none⟩) := hu 7 _ rfl
              have h8 : u 8 = .slice (some ⟨c, o, none⟩) P cq := hu 8 _ rfl
              have h9 : u 9 = .int .i64 (k : Int) := hu 9 _ rfl
              have h10 : u 10 = .pointer (some ⟨c, o + k * 2, none⟩) := hu 10 _ rfl
              have h11 : u 11 = .pointer (some ⟨c, o + k * 2 + 1, none⟩) := hu 11 _ rfl
              have h12 : u 12 = .int .i64 y := hu 12 _ rfl
              have h13 : u 13 = .agg #[.int .i64 x, .int .i64 y] := hu 13 _ rfl
              simp only [List.take_succ_cons, List.take_zero, List.drop_succ_cons, List.drop_zero, Tn.putAll, Act.put, List.setIfInBounds_toArray, List.set_cons_succ, List.set_cons_zero, Nat.reduceAdd]
              rw [h0, h1, h2, h3, h4, h5, h6, h7, h8, h9, h10, h11, h12, h13]
              have HCw : Hid (Below wr.heap.size wr W) := Lib.hid hC
              clear hu hC hP h0 h1 h2 h3 h4 h5 h6 h7 h8 h9 h10 h11 h12 h13
              go_wp2_with fail
              refine (neighbours_any W sl cl2 Ln L x y HLl.out (Tn.Nums.below HLr.out HCw.out)).mono ?_
              rintro e w6 ⟨rfl, hb6⟩
              rw [HNb.out]
              have HB6 := Lib.hid (HBr.out.trans ((HCw.out.trans (hb6.mono HCw.out.size)).mono HBr.out.size))
              clear hb6 r0 r1
              go_wp2
              go_roundw
              case rel => exact ⟨k + 1, by omega, by go_num, HB6.out⟩
              case measure => simp [intOf]; omega
          · obtain rfl : k = P := by omega
            have hdf : decide (k < k) = false := by simp
            have hdf2 : decide ((k : Int) < (k : Int)) = false := by simp
            have HAr := Lib.hid (HA.out.below HXr.out.below)
            have HGr := Lib.hid (HG5.out.below HBr.out)
            have hE0 := newD_none HE.out
            clear hkP hk
            go_wp2_with fail
            refine (new_any wr s1 none c1 0 n 0 al [] HAr.out Hn.out (Prs.nil _) rfl (by have := HFew.out; omega) (by omega)).mono ?_
            rintro e w6 ⟨hb6, ⟨hno, hr2⟩ | ⟨hr2, g2, rfl, hg2, hc2⟩⟩
            · exact absurd hE0 hno
            · have HX6 := Lib.hid (HXr.out.later hb6)
              have HC6 := Lib.hid hc2
              have HT6 := Lib.hid (newD_yes hE0).2.2.2.1
              obtain ⟨T0, hT0⟩ : ∃ T0, (newD al []).2 = T0 := ⟨_, rfl⟩
              rw [hT0] at HC6 HT6
              have HG6 := Lib.hid (HGr.out.below hb6)
              have HB6 := Lib.hid (HBy.out.below HX6.out.below)
              have HE2 := Lib.hid (encD_none (al := al) HBad.out (by rw [HN.out]; have := HN60.out; omega))
              clear hb6 hc2 hT0 hE0 r0 r1 hg2 hr2
              go_wp2_with fail
              refine (encode_any w6 g2 bp cb N n 0 al [] T0 b HC6.out HT6.out HB6.out HN.out Hn.out rfl (by have := HnP.out; omega)).mono ?_
              rw [HE2.out]
              rintro e w7 ⟨sp7, cap7, rfl, _, hb7⟩
              dsimp only
              rw [firsts_length, HN.out]
              have HX7 := Lib.hid (HX6.out.later hb7)
              have HG7 := Lib.hid (HG6.out.below hb7)
              have HB7 := Lib.hid (HB6.out.below hb7)
              have k1 : decide (Ln ≤ N) = true := by have := HLn.out; simpa using this
              have k2 : decide ((Ln : Int) ≤ (N : Int)) = true := by have := HLn.out; simp; omega
              have k3 := same_beq (N : Int)
              have k4 : (N == N) = true := by simp
              have k5 := same_beq (0 : Int)
              clear hb7
              go_upto_region 21 with fail
              go_wp2_with fail
              refine (bytes_same w7 sp5 bp cap5 cb N b HN.out HG7.out HB7.out).mono ?_
              rintro e w8 ⟨rfl, hb8⟩
              have HX8 := Lib.hid (HX7.out.later hb8)
              clear hb8
              go_wp2_with fail
              refine (awake_any _).mono ?_
              rintro e w9 ⟨rfl, hbw9⟩
              have HX9 := Lib.hid (HX8.out.later hbw9)
              clear hbw9
              go_wp2
              go_ret
              exact ⟨rfl, HX9.out.below⟩
  · have hX : (decide (n ≤ 600) && decide (P ≤ 60)) = false ∨ ((decide (n ≤ 600) && decide (P ≤ 60)) = true ∧ decide (60 < N) = true ∧ decide ((60 : Int) < (N : Int)) = true) := by
      by_cases h1 : n ≤ 600 ∧ P ≤ 60
      · have h3 : 60 < N := by
          have h9 : ¬ N ≤ 60 := fun h => hfew ⟨h1, h⟩
          omega
        exact Or.inr ⟨by simp [h1.1, h1.2], by simpa using h3, by simp; omega⟩
      · left
        rw [← Bool.not_eq_true]
        intro h
        simp at h
        exact h1 h
    clear hfew
    rcases hX with hf | ⟨hf, k2, k3⟩
    · rw [hf]
      clear hf
      go_wp2_with fail
      refine (awake_any _).mono ?_
      rintro e w3 ⟨rfl, hbw3⟩
      have HX3 := Lib.hid (HX2.out.later hbw3)
      clear hbw3
      go_wp2
      go_ret
      exact ⟨rfl, HX3.out.below⟩
    · rw [hf]
      clear hf
      go_wp2_with fail
      refine (awake_any _).mono ?_
      rintro e w3 ⟨rfl, hbw3⟩
      have HX3 := Lib.hid (HX2.out.later hbw3)
      clear hbw3
      go_wp2
      go_ret
      exact ⟨rfl, HX3.out.below⟩
end Go.Proofs.YtllaecliaojmjaaDoor.Bp
