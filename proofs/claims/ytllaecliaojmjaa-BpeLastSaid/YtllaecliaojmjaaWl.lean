import Derived.Test.YtllaecliaojmjaaWt
namespace Go.Proofs.Ytllaecliaojmjaa.Bp
set_option maxRecDepth 100000
open Go.ChangeShapes Go.WideShapes Go.ChangeAt Go.RowKit Go.Proofs.Ytllaecliaojmjaa.Tn

/-! ### the walk of BpeLast -/
theorem run_headP (sp : Option Addr) (m cap k : Nat) (hk : k ≤ cap) (w : World) : (Instr.slice 23 (.slice sp m cap) none (some (.int .i64 (k : Int))) none).run Try.prog w = .ok (.slice sp k cap) w := by
  have he := size_bpair
  cases hq : Try.prog.info? 48 with
  | none => simp [hq] at he
  | some i =>
    have hi : i.size = 2 := by simpa [hq] using he
    have hadd : sp.map (fun x => x.add 0) = sp := by
      rcases sp with _ | ⟨b, o, s⟩
      · rfl
      · simp [Addr.add]
    simp only [Instr.slice, run_underlying Try.underlying23, Instr.sliceBounds, Instr.sliceBound, asIntOf, sizeOf, typeInfo, Sem.run_bind, Result.andThen_ok, Sem.run_pure, Sem.run_ite]
    simp [hq, hi, hk, hadd]
theorem Prs.head {w : World} {sp : Option Addr} {cap : Nat} {ps : List (Int × Int)} (h : Prs w sp cap ps) (k : Nat) (hk : k ≤ ps.length) : Prs w sp cap (ps.take k) := by
  refine ⟨by rw [List.length_take]; have := h.le; omega, h.max, h.nul, fun h0 => ?_⟩
  obtain ⟨c, o, e, hl⟩ := h.lies (by rw [List.length_take] at h0; omega)
  refine ⟨c, o, e, fun j hj => ?_⟩
  rw [List.length_take] at hj
  rw [ptake_get (by omega)]
  exact hl j (by omega)
theorem newT_init : ∀ (r seen : List (Int × Int)) (T : List (List Int)) (p : Int × Int), (newT T seen (r ++ [p])).1 = 0 → (newT T seen r).1 = 0
  | [], _, _, _, _ => rfl
  | q :: r, seen, T, p, h => by
    rw [List.cons_append, newT] at h
    rw [newT]
    by_cases hs : stepE T seen q ≠ 0
    · rw [if_pos hs] at h
      exact absurd h hs
    · rw [if_neg hs] at h ⊢
      exact newT_init r _ _ p h
theorem newD_init {al : List Int} {ps : List (Int × Int)} {p : Int × Int} (h : (newD al (ps ++ [p])).1 = 0) : (newD al ps).1 = 0 := by
  obtain ⟨h1, h2, h3, _, _⟩ := newD_yes h
  rw [List.length_append] at h2
  rw [newD_go (by omega) h3]
  rw [newD_go (by rw [List.length_append]; omega) h3] at h
  exact newT_init _ _ _ _ h
theorem last_enc {al b : List Int} {ps : List (Int × Int)} {p : Int × Int} (h : (newD al (ps ++ [p])).1 = 0) : enc (ps ++ [p]) al.length b.length (firsts al b) = merg p ((al.length : Int) + ps.length) (enc ps al.length b.length (firsts al b)) := by
  obtain ⟨_, _, _, hT, _⟩ := newD_yes h
  refine enc_last ps p al.length (fun q hq => ?_) _ _ (by rw [firsts_length]; exact Nat.le_refl _)
  obtain ⟨k, hk, rfl⟩ := List.mem_iff_getElem.1 hq
  have h9 := hT.pair k hk
  have e : (ps ++ [p]).getD k (0, 0) = (ps ++ [p])[k] := by
    rw [List.getD_eq_getElem?_getD, List.getElem?_eq_getElem hk]
    rfl
  rw [e] at h9
  have hk2 : k < ps.length + 1 := by simpa using hk
  obtain ⟨⟨_, a⟩, ⟨_, b⟩, _⟩ := h9
  omega
section
variable {a : Act} {o : Oper} {W : World}
theorem run_bk0 (g : Nat) : (Instr.fieldAt 25 (.pointer (some ⟨g, 0, none⟩)) 0).run Try.prog W = .ok (.pointer (some ⟨g, 0, none⟩)) W := by kernel_rfl
theorem exec_bk0 (x : Operand) (ho : o.op = .fieldAddr 25 x 0) (g : Nat) (hx : a.eval x = .pointer (some ⟨g, 0, none⟩)) : (execOp a.eval o).run Try.prog W = .ok (.value (.pointer (some ⟨g, 0, none⟩))) W := by
  unfold execOp
  simp only [ho, hx, Sem.run_bind, run_bk0, Result.andThen_ok, Sem.run_pure]
theorem exec_sliceP (x y : Operand) (ho : o.op = .slice 23 x none (some y) none) (sp : Option Addr) (m cap k : Nat) (hx : a.eval x = .slice sp m cap) (hy : a.eval y = .int .i64 (k : Int)) (hk : k ≤ cap) : (execOp a.eval o).run Try.prog W = .ok (.value (.slice sp k cap)) W := by
  have h := run_headP sp m cap k hk W
  unfold execOp
  simp [ho, hx, hy, Instr.sliceAt, run_underlying Try.underlying23, h]
theorem exec_call2 {P : Program} (f : FuncId) (x y : Operand) (ats : Array TypeId) (u v : Value) (ho : o.op = .call { callee := .value (.func f), args := #[x, y], argTypes := ats }) (hx : a.eval x = u) (hy : a.eval y = v)
    (hf : (callFunc f #[u, v]).run P W = .ok (.enter f #[u, v]) W) : (execOp a.eval o).run P W = .ok (.enter f #[u, v]) W :=
  Tn.exec_call f #[x, y] ats #[u, v] ho (by simp [hx, hy]) hf
end
/-- all but the sixth operation leave the heap as it is -/
def LeN (k : Nat) (W W' : World) : Prop := Below W.heap.size W W' ∧ (k ≠ 6 → W'.heap = W.heap)
def wlX (B : Nat) (s1 : Option Addr) (n c1 : Nat) (s2 : Option Addr) (P cq P' : Nat) (dp : Value) (de : Int) : Nat → Option Value
  | 0 => some (.pointer (some ⟨B, 0, none⟩))
  | 1 => some (.slice s1 n c1)
  | 2 => some (.pointer (some ⟨B, 1, none⟩))
  | 3 => some (.slice s2 P cq)
  | 4 => some (.int .i64 (P' : Int))
  | 5 => some (.slice s2 P' cq)
  | 6 => some (.tuple #[dp, .int .i64 de])
  | 7 => some (.tuple #[dp, .int .i64 de])
  | 8 => some (dp)
  | 9 => some (.int .i64 de)
  | 10 => some (dp)
  | _ => none
/-- a pair in the block behind the heap of w -/
structure Pz (w : World) (a b : Int) (W : World) : Prop where
  below : Below w.heap.size w W
  row : W.heap[w.heap.size]? = some (.cells #[.int .i64 a, .int .i64 b] 48 (0, 0))
theorem Pz.made (w : World) (a b : Int) : Pz w a b (w.alloc (.cells #[.int .i64 a, .int .i64 b] 48)) := ⟨(Below.refl _ _).alloc (Nat.le_refl _) _, heap_alloc_new _ _⟩
theorem Pz.later {w W W' : World} {a b : Int} (h : Pz w a b W) (hb : Below W.heap.size W W') : Pz w a b W' := ⟨h.below.trans (hb.mono h.below.size), (hb.block _ (Array.getElem?_eq_some_iff.1 h.row).1).trans h.row⟩
theorem Pz.cells {w W : World} {a b : Int} (h : Pz w a b W) : W.cell? ⟨w.heap.size, 0, none⟩ = some (.int .i64 a) ∧ W.cell? ⟨w.heap.size, 1, none⟩ = some (.int .i64 b) := by
  constructor
  · rw [cell_of_row _ _ _ _ _ _ h.row]; rfl
  · rw [cell_of_row _ _ _ _ _ _ h.row]; rfl
theorem Pz.push {w W W' : World} {a b : Int} (h : Pz w a b W) (hb : Below (w.heap.size + 1) W W') : Pz w a b W' := ⟨h.below.trans (hb.mono (Nat.le_succ _)), (hb.block _ (by omega)).trans h.row⟩
theorem Pz.lt {w W : World} {a b : Int} (h : Pz w a b W) : w.heap.size + 1 ≤ W.heap.size := (Array.getElem?_eq_some_iff.1 h.row).1
set_option maxHeartbeats 8000000 in
theorem last_walk (w : World) (s1 s2 : Option Addr) (n P c1 cq : Nat) (al : List Int) (ps : List (Int × Int)) (bp : Option Addr) (cb N : Nat) (b : List Int) (ha : Byts w s1 c1 al) (hn : al.length = n) (hps : Prs w s2 cq ps) (hP : ps.length = P) (hb : Byts w bp cb b) (hN : b.length = N) :
    Calls Try.prog 5 #[.agg #[.slice s1 n c1, .slice s2 P cq], .slice bp N cb] w fun e w' => e = .returned (.bool true) ∧ Below w.heap.size w w' := by
  have HA := Lib.hid ha
  have HPs := Lib.hid hps
  have HBy := Lib.hid hb
  have Hn := Lib.hid hn
  have HP := Lib.hid hP
  have HN := Lib.hid hN
  have hnm : n ≤ maxLen := by have h1 := ha.sl.le; have h2 := ha.sl.max; rw [List.length_map] at h1; omega
  have hPm : P ≤ maxLen := by have h1 := hps.le; have h2 := hps.max; omega
  have hNm : N ≤ 9223372036854775807 := by rw [← hN]; have := Tn.Sl.len hb.sl; simpa using this
  have HPle : Hid (P ≤ cq) := Lib.hid (by rw [← hP]; exact hps.le)
  have Hnm := Lib.hid hnm
  have HPm := Lib.hid hPm
  have HX0 := Lib.hid (Bx.made (s1 := s1) (n := n) (c1 := c1) (s2 := s2) (P := P) (cq := cq) w)
  have hPx : P ≤ 9223372036854775807 := by unfold maxLen at hPm; omega
  have hwz : IntKind.i64.wrap ((P : Int) - 1) = (P : Int) - 1 := IntWalk.i64_in _ (by omega)
  clear ha hps hn hP hnm hPm hb hN
  go_enter Try.func5, Try.ntmps5
  go_upto_region 1 with fail
  refine gen_w (Q := fun w => Code.wp _ _ _ _ w) _ (Bx w.heap.size s1 n c1 s2 P cq w) HX0.out ?_
  clear HX0
  intro w1 hx1
  have HX1 := Lib.hid hx1
  obtain ⟨q0, q1⟩ := hx1.cells
  clear hx1
  obtain ⟨z, hz⟩ : ∃ z : Int, (P : Int) - 1 = z := ⟨_, rfl⟩
  rw [hz] at hwz
  have HZ := Lib.hid hz
  have hwz2 : IntKind.i64.wrap ((P : Int) - 1) = z := by rw [hz]; exact hwz
  clear hz hwz
  go_upto_region 2 with fail
  clear hwz2
  go_wp2_with fail
  refine (few_any w1 s1 s2 n P c1 cq Hnm.out HPm.out).mono ?_
  rintro e w2 ⟨rfl, hb2⟩
  have HX2 := Lib.hid (HX1.out.later hb2)
  clear hb2 q0 q1 HX1
  by_cases hfew : (n ≤ 600 ∧ P ≤ 60) ∧ 1 ≤ P ∧ N ≤ 60
  · have hf : (decide (n ≤ 600) && decide (P ≤ 60)) = true := by simp [hfew.1.1, hfew.1.2]
    rw [hf]
    have HFew := Lib.hid hfew
    obtain ⟨q0, q1⟩ := HX2.out.cells
    have hab := HX2.out.below
    have HA2 := Lib.hid (HA.out.below hab)
    have HPs2 := Lib.hid (HPs.out.below hab)
    have d5 : decide (60 < N) = false := by have := hfew.2.2; simp; omega
    have d6 : decide ((60 : Int) < (N : Int)) = false := by have := hfew.2.2; simp; omega
    obtain ⟨P', hP'⟩ : ∃ P', P = P' + 1 := ⟨P - 1, by have := hfew.2.1; omega⟩
    have hzP : z = (P' : Int) := by have := HZ.out; omega
    subst hzP
    have HP' := Lib.hid hP'
    have d7 : decide ((P' : Int) < 0) = false := by simp
    clear hf hfew hab hP'
    have HhdP : Hid (P' ≤ cq) := Lib.hid (by have := HPle.out; have := HP'.out; omega)
    have hcallD : ∀ w3, Bx w.heap.size s1 n c1 s2 P cq w w3 → ∃ (dp : Value) (de : Int), de = (newD al (ps.take P')).1 ∧ (de = 0 → dp = .pointer (some ⟨w3.heap.size + 1, 0, none⟩)) ∧ (de ≠ 0 → dp = .pointer none) ∧ ∀ W, Below w3.heap.size w3 W → W.heap.size = w3.heap.size → Calls Try.prog 8 #[.slice s1 n c1, .slice s2 P' cq] W fun e W' => Below W.heap.size W W' ∧ e = .returned (.tuple #[dp, .int .i64 de]) ∧ (de = 0 → Cd (w3.heap.size + 1) al (ps.take P') (newD al (ps.take P')).2 W') := by
      intro w3 hx3
      have htl : (ps.take P').length = P' := by rw [List.length_take, HP.out, HP'.out]; omega
      have hnew : ∀ W, Below w3.heap.size w3 W → Calls Try.prog 8 #[.slice s1 n c1, .slice s2 P' cq] W (NewP W al (ps.take P')) := fun W hW =>
        new_any W s1 s2 c1 cq n P' al (ps.take P') (HA.out.below (hx3.below.trans (hW.mono (Nat.le_of_lt hx3.lt)))) Hn.out ((HPs.out.below (hx3.below.trans (hW.mono (Nat.le_of_lt hx3.lt)))).head P' (by rw [HP.out, HP'.out]; omega)) htl (by have := HFew.out; omega) (by have := HFew.out; have := HP'.out; omega)
      by_cases h0 : (newD al (ps.take P')).1 = 0
      · refine ⟨.pointer (some ⟨w3.heap.size + 1, 0, none⟩), 0, h0.symm, fun _ => rfl, fun h => absurd rfl h, fun W hW hs => (hnew W hW).mono ?_⟩
        rintro e W' ⟨hb, ⟨hno, _⟩ | ⟨_, g, rfl, hg, hc⟩⟩
        · exact absurd h0 hno
        · rw [hs] at hg
          subst hg
          exact ⟨hb, rfl, fun _ => hc⟩
      · refine ⟨.pointer none, (newD al (ps.take P')).1, rfl, fun h => absurd h h0, fun _ => rfl, fun W hW hs => (hnew W hW).mono ?_⟩
        rintro e W' ⟨hb, ⟨_, rfl⟩ | ⟨hno, _⟩⟩
        · exact ⟨hb, rfl, fun h => absurd h h0⟩
        · exact absurd hno h0
    have HcallD := Lib.hid hcallD
    clear hcallD
    go_wp2_with fail
    refine (new_any w2 s1 s2 c1 cq n P al ps HA2.out Hn.out HPs2.out HP.out (by have := HFew.out; omega) (by have := HFew.out; omega)).mono ?_
    rintro e w3 ⟨hb3, ⟨hE, rfl⟩ | ⟨hE, g, rfl, hg, hc⟩⟩
    · have HX3 := Lib.hid (HX2.out.later hb3)
      obtain ⟨E, hEe⟩ : ∃ E, (newD al ps).1 = E := ⟨_, rfl⟩
      rw [hEe] at hE ⊢
      have hE0 : (E == 0) = false := by simpa using hE
      have hE1 : (E != 0) = true := by simpa using hE
      have hE2 : E ≠ 0 := hE
      obtain ⟨dp, de, hde, hd0, hd1, hcall⟩ := HcallD.out w3 HX3.out
      have Hcall := Lib.hid hcall
      clear hb3 q0 q1 hE hEe hde hd0 hd1 hcall
      go_upto_region 5 with fail
      refine Tn.wp_region_spec_at (C := fun W => Below w3.heap.size w3 W) (Le := LeN) (Pre := fun j W => j = 6 → W.heap.size = w3.heap.size) 11 (fun _ ixx W yy => (ixx = 6 → de = 0 → Cd (w3.heap.size + 1) al (ps.take P') (newD al (ps.take P')).2 W) ∧ ∀ z, wlX w.heap.size s1 n c1 s2 P cq P' dp de ixx = some z → yy = z) (by kernel_rfl) (by kernel_rfl) ⟨rfl, rfl, rfl, Nat.le_refl _, fun _ _ => rfl⟩ (fun _ _ _ _ _ _ h => h) (fun _ j i W W' y hne hle h => ⟨fun e e2 => (h.1 e e2).later hle.1, h.2⟩) (fun j i W W' hne hle hp e => by rw [hle.2 (by omega)]; exact hp e) (fun j _ => rfl) (fun ixx yy => ∀ z, wlX w.heap.size s1 n c1 s2 P cq P' dp de ixx = some z → yy = z) (fun _ _ _ _ h => h.2) (fun ixx => (wlX w.heap.size s1 n c1 s2 P cq P' dp de ixx).getD undef) (fun ixx z h => by simp [h]) ?_ ?_
      · intro u hu
        have h0 : u 0 = .pointer (some ⟨w.heap.size, 0, none⟩) := hu 0 _ rfl
        have h1 : u 1 = .slice s1 n c1 := hu 1 _ rfl
        have h2 : u 2 = .pointer (some ⟨w.heap.size, 1, none⟩) := hu 2 _ rfl
        have h3 : u 3 = .slice s2 P cq := hu 3 _ rfl
        have h4 : u 4 = .int .i64 (P' : Int) := hu 4 _ rfl
        have h5 : u 5 = .slice s2 P' cq := hu 5 _ rfl
        have h6 : u 6 = .tuple #[dp, .int .i64 de] := hu 6 _ rfl
        have h7 : u 7 = .tuple #[dp, .int .i64 de] := hu 7 _ rfl
        have h8 : u 8 = dp := hu 8 _ rfl
        have h9 : u 9 = .int .i64 de := hu 9 _ rfl
        have h10 : u 10 = dp := hu 10 _ rfl
        simp only [List.take_succ_cons, List.take_zero]
        refine Tn.spec_cons (fun W hC hd => ⟨by rfl, ?_⟩) ?_
        · exact Tn.gives_val (.pointer (some ⟨w.heap.size, 0, none⟩)) W (exec_bk0 (.tmp 2) rfl w.heap.size rfl) ⟨hC, ⟨Below.refl _ _, fun _ => rfl⟩, (fun h => absurd h (by decide)), fun z hz => by cases hz; rfl⟩
        simp only [Act.put, List.setIfInBounds_toArray, List.set_cons_succ, List.set_cons_zero, Nat.reduceAdd]
        rw [h0]
        refine Tn.spec_cons (fun W hC hd => ⟨by rfl, ?_⟩) ?_
        · exact Tn.gives_val (.slice s1 n c1) W (exec_load1 22 (.tmp 45) rfl ⟨w.heap.size, 0, none⟩ rfl _ (HX3.out.later hC).cells.1 _ Try.underlying22 rfl) ⟨hC, ⟨Below.refl _ _, fun _ => rfl⟩, (fun h => absurd h (by decide)), fun z hz => by cases hz; rfl⟩
        simp only [Act.put, List.setIfInBounds_toArray, List.set_cons_succ, List.set_cons_zero, Nat.reduceAdd]
        rw [h1]
        refine Tn.spec_cons (fun W hC hd => ⟨by rfl, ?_⟩) ?_
        · exact Tn.gives_val (.pointer (some ⟨w.heap.size, 1, none⟩)) W (exec_bk1 (.tmp 2) rfl w.heap.size rfl) ⟨hC, ⟨Below.refl _ _, fun _ => rfl⟩, (fun h => absurd h (by decide)), fun z hz => by cases hz; rfl⟩
        simp only [Act.put, List.setIfInBounds_toArray, List.set_cons_succ, List.set_cons_zero, Nat.reduceAdd]
        rw [h2]
        refine Tn.spec_cons (fun W hC hd => ⟨by rfl, ?_⟩) ?_
        · exact Tn.gives_val (.slice s2 P cq) W (exec_load1 23 (.tmp 47) rfl ⟨w.heap.size, 1, none⟩ rfl _ (HX3.out.later hC).cells.2 _ Try.underlying23 rfl) ⟨hC, ⟨Below.refl _ _, fun _ => rfl⟩, (fun h => absurd h (by decide)), fun z hz => by cases hz; rfl⟩
        simp only [Act.put, List.setIfInBounds_toArray, List.set_cons_succ, List.set_cons_zero, Nat.reduceAdd]
        rw [h3]
        refine Tn.spec_cons (fun W hC hd => ⟨by rfl, ?_⟩) ?_
        · exact Tn.gives_val (.int .i64 (P' : Int)) W (by rfl) ⟨hC, ⟨Below.refl _ _, fun _ => rfl⟩, (fun h => absurd h (by decide)), fun z hz => by cases hz; rfl⟩
        simp only [Act.put, List.setIfInBounds_toArray, List.set_cons_succ, List.set_cons_zero, Nat.reduceAdd]
        rw [h4]
        refine Tn.spec_cons (fun W hC hd => ⟨by rfl, ?_⟩) ?_
        · exact Tn.gives_val (.slice s2 P' cq) W (exec_sliceP (.tmp 48) (.tmp 49) rfl s2 P cq P' rfl rfl (HhdP.out)) ⟨hC, ⟨Below.refl _ _, fun _ => rfl⟩, (fun h => absurd h (by decide)), fun z hz => by cases hz; rfl⟩
        simp only [Act.put, List.setIfInBounds_toArray, List.set_cons_succ, List.set_cons_zero, Nat.reduceAdd]
        rw [h5]
        refine Tn.spec_cons_at (fun W hC hp hd => ⟨by rfl, ?_⟩) ?_
        · exact Tn.gives_call _ _ (exec_call2 8 (.tmp 46) (.tmp 50) #[22, 23] _ _ rfl rfl rfl (Tn.cf Try.func8 (by kernel_rfl) (by kernel_rfl) _ _)) ((Hcall.out W hC (hp rfl)).mono fun e W' ⟨h1, h2, h3⟩ => ⟨_, h2, hC.trans (h1.mono hC.size), ⟨h1, fun h => absurd rfl h⟩, fun _ => h3, fun z hz => by cases hz; rfl⟩)
        simp only [Act.put, List.setIfInBounds_toArray, List.set_cons_succ, List.set_cons_zero, Nat.reduceAdd]
        rw [h6]
        refine Tn.spec_cons (fun W hC hd => ⟨by rfl, ?_⟩) ?_
        · exact Tn.gives_val (.tuple #[dp, .int .i64 de]) W (by rfl) ⟨hC, ⟨Below.refl _ _, fun _ => rfl⟩, (fun h => absurd h (by decide)), fun z hz => by cases hz; rfl⟩
        simp only [Act.put, List.setIfInBounds_toArray, List.set_cons_succ, List.set_cons_zero, Nat.reduceAdd]
        rw [h7]
        refine Tn.spec_cons (fun W hC hd => ⟨by rfl, ?_⟩) ?_
        · exact Tn.gives_val (dp) W (by rfl) ⟨hC, ⟨Below.refl _ _, fun _ => rfl⟩, (fun h => absurd h (by decide)), fun z hz => by cases hz; rfl⟩
        simp only [Act.put, List.setIfInBounds_toArray, List.set_cons_succ, List.set_cons_zero, Nat.reduceAdd]
        rw [h8]
        refine Tn.spec_cons (fun W hC hd => ⟨by rfl, ?_⟩) ?_
        · exact Tn.gives_val (.int .i64 de) W (by rfl) ⟨hC, ⟨Below.refl _ _, fun _ => rfl⟩, (fun h => absurd h (by decide)), fun z hz => by cases hz; rfl⟩
        simp only [Act.put, List.setIfInBounds_toArray, List.set_cons_succ, List.set_cons_zero, Nat.reduceAdd]
        rw [h9]
        refine Tn.spec_cons (fun W hC hd => ⟨by rfl, ?_⟩) ?_
        · exact Tn.gives_val (dp) W (by rfl) ⟨hC, ⟨Below.refl _ _, fun _ => rfl⟩, (fun h => absurd h (by decide)), fun z hz => by cases hz; rfl⟩
        simp only [Act.put, List.setIfInBounds_toArray, List.set_cons_succ, List.set_cons_zero, Nat.reduceAdd]
        rw [h10]
        exact Tn.spec_nil
      · intro u W hu hC hP9
        have h0 : u 0 = .pointer (some ⟨w.heap.size, 0, none⟩) := hu 0 _ rfl
        have h1 : u 1 = .slice s1 n c1 := hu 1 _ rfl
        have h2 : u 2 = .pointer (some ⟨w.heap.size, 1, none⟩) := hu 2 _ rfl
        have h3 : u 3 = .slice s2 P cq := hu 3 _ rfl
        have h4 : u 4 = .int .i64 (P' : Int) := hu 4 _ rfl
        have h5 : u 5 = .slice s2 P' cq := hu 5 _ rfl
        have h6 : u 6 = .tuple #[dp, .int .i64 de] := hu 6 _ rfl
        have h7 : u 7 = .tuple #[dp, .int .i64 de] := hu 7 _ rfl
        have h8 : u 8 = dp := hu 8 _ rfl
        have h9 : u 9 = .int .i64 de := hu 9 _ rfl
        have h10 : u 10 = dp := hu 10 _ rfl
        have hCd := (hP9 6 (by omega)).1 rfl
        simp only [List.take_succ_cons, List.take_zero, List.drop_succ_cons, List.drop_zero, Tn.putAll, Act.put, List.setIfInBounds_toArray, List.set_cons_succ, List.set_cons_zero, Nat.reduceAdd]
        rw [h0, h1, h2, h3, h4, h5, h6, h7, h8, h9, h10]
        have HCw : Hid (Below w3.heap.size w3 W) := Lib.hid hC
        have HCd := Lib.hid hCd
        clear hu hC hP9 hCd h0 h1 h2 h3 h4 h5 h6 h7 h8 h9 h10
        have HX4 := Lib.hid (HX3.out.later HCw.out)
        clear HCd HCw
        go_wp2_with fail
        refine (awake_any _).mono ?_
        rintro e w5 ⟨rfl, hb5⟩
        have HX5 := Lib.hid (HX4.out.later hb5)
        clear hb5
        go_wp2
        go_ret
        exact ⟨rfl, HX5.out.below⟩
    · have HX3 := Lib.hid (HX2.out.later hb3)
      have HE := Lib.hid hE
      have HC3 := Lib.hid hc
      have hps : ps = ps.take P' ++ [ps.getD P' (0, 0)] := by
        rw [← ptake_at (by rw [HP.out, HP'.out]; omega), List.take_of_length_le (by rw [HP.out, HP'.out]; exact Nat.le_refl _)]
      have HPsE := Lib.hid hps
      have hE' : (newD al (ps.take P')).1 = 0 := newD_init (p := ps.getD P' (0, 0)) (by rw [← hps]; exact hE)
      have HE' := Lib.hid hE'
      obtain ⟨dp, de, hde, hd0, hd1, hcall⟩ := HcallD.out w3 HX3.out
      rw [hE'] at hde
      have HDe := Lib.hid hde
      have HD0 := Lib.hid (hd0 hde)
      have Hcall := Lib.hid hcall
      obtain ⟨T, hT⟩ : ∃ T, (newD al ps).2 = T := ⟨_, rfl⟩
      rw [hT] at hc HC3
      have HTx : Hid (Texts al.length ps T) := Lib.hid (by rw [← hT]; exact (newD_yes hE).2.2.2.1)
      have HTx' : Hid (Texts al.length (ps.take P') (newD al (ps.take P')).2) := Lib.hid (newD_yes hE').2.2.2.1
      have HnP : Hid (n + P ≤ 512) := Lib.hid (by have := (newD_yes hE).2.1; rw [← Hn.out, ← HP.out]; exact this)
      clear hb3 q0 q1 hE hg hc hps hE' hd1 hcall hT hd0 hde
      go_upto_region 5 with fail
      refine Tn.wp_region_spec_at (C := fun W => Below w3.heap.size w3 W) (Le := LeN) (Pre := fun j W => j = 6 → W.heap.size = w3.heap.size) 11 (fun _ ixx W yy => (ixx = 6 → de = 0 → Cd (w3.heap.size + 1) al (ps.take P') (newD al (ps.take P')).2 W) ∧ ∀ z, wlX w.heap.size s1 n c1 s2 P cq P' dp de ixx = some z → yy = z) (by kernel_rfl) (by kernel_rfl) ⟨rfl, rfl, rfl, Nat.le_refl _, fun _ _ => rfl⟩ (fun _ _ _ _ _ _ h => h) (fun _ j i W W' y hne hle h => ⟨fun e e2 => (h.1 e e2).later hle.1, h.2⟩) (fun j i W W' hne hle hp e => by rw [hle.2 (by omega)]; exact hp e) (fun j _ => rfl) (fun ixx yy => ∀ z, wlX w.heap.size s1 n c1 s2 P cq P' dp de ixx = some z → yy = z) (fun _ _ _ _ h => h.2) (fun ixx => (wlX w.heap.size s1 n c1 s2 P cq P' dp de ixx).getD undef) (fun ixx z h => by simp [h]) ?_ ?_
      · intro u hu
        have h0 : u 0 = .pointer (some ⟨w.heap.size, 0, none⟩) := hu 0 _ rfl
        have h1 : u 1 = .slice s1 n c1 := hu 1 _ rfl
        have h2 : u 2 = .pointer (some ⟨w.heap.size, 1, none⟩) := hu 2 _ rfl
        have h3 : u 3 = .slice s2 P cq := hu 3 _ rfl
        have h4 : u 4 = .int .i64 (P' : Int) := hu 4 _ rfl
        have h5 : u 5 = .slice s2 P' cq := hu 5 _ rfl
        have h6 : u 6 = .tuple #[dp, .int .i64 de] := hu 6 _ rfl
        have h7 : u 7 = .tuple #[dp, .int .i64 de] := hu 7 _ rfl
        have h8 : u 8 = dp := hu 8 _ rfl
        have h9 : u 9 = .int .i64 de := hu 9 _ rfl
        have h10 : u 10 = dp := hu 10 _ rfl
        simp only [List.take_succ_cons, List.take_zero]
        refine Tn.spec_cons (fun W hC hd => ⟨by rfl, ?_⟩) ?_
        · exact Tn.gives_val (.pointer (some ⟨w.heap.size, 0, none⟩)) W (exec_bk0 (.tmp 2) rfl w.heap.size rfl) ⟨hC, ⟨Below.refl _ _, fun _ => rfl⟩, (fun h => absurd h (by decide)), fun z hz => by cases hz; rfl⟩
        simp only [Act.put, List.setIfInBounds_toArray, List.set_cons_succ, List.set_cons_zero, Nat.reduceAdd]
        rw [h0]
        refine Tn.spec_cons (fun W hC hd => ⟨by rfl, ?_⟩) ?_
        · exact Tn.gives_val (.slice s1 n c1) W (exec_load1 22 (.tmp 45) rfl ⟨w.heap.size, 0, none⟩ rfl _ (HX3.out.later hC).cells.1 _ Try.underlying22 rfl) ⟨hC, ⟨Below.refl _ _, fun _ => rfl⟩, (fun h => absurd h (by decide)), fun z hz => by cases hz; rfl⟩
        simp only [Act.put, List.setIfInBounds_toArray, List.set_cons_succ, List.set_cons_zero, Nat.reduceAdd]
        rw [h1]
        refine Tn.spec_cons (fun W hC hd => ⟨by rfl, ?_⟩) ?_
        · exact Tn.gives_val (.pointer (some ⟨w.heap.size, 1, none⟩)) W (exec_bk1 (.tmp 2) rfl w.heap.size rfl) ⟨hC, ⟨Below.refl _ _, fun _ => rfl⟩, (fun h => absurd h (by decide)), fun z hz => by cases hz; rfl⟩
        simp only [Act.put, List.setIfInBounds_toArray, List.set_cons_succ, List.set_cons_zero, Nat.reduceAdd]
        rw [h2]
        refine Tn.spec_cons (fun W hC hd => ⟨by rfl, ?_⟩) ?_
        · exact Tn.gives_val (.slice s2 P cq) W (exec_load1 23 (.tmp 47) rfl ⟨w.heap.size, 1, none⟩ rfl _ (HX3.out.later hC).cells.2 _ Try.underlying23 rfl) ⟨hC, ⟨Below.refl _ _, fun _ => rfl⟩, (fun h => absurd h (by decide)), fun z hz => by cases hz; rfl⟩
        simp only [Act.put, List.setIfInBounds_toArray, List.set_cons_succ, List.set_cons_zero, Nat.reduceAdd]
        rw [h3]
        refine Tn.spec_cons (fun W hC hd => ⟨by rfl, ?_⟩) ?_
        · exact Tn.gives_val (.int .i64 (P' : Int)) W (by rfl) ⟨hC, ⟨Below.refl _ _, fun _ => rfl⟩, (fun h => absurd h (by decide)), fun z hz => by cases hz; rfl⟩
        simp only [Act.put, List.setIfInBounds_toArray, List.set_cons_succ, List.set_cons_zero, Nat.reduceAdd]
        rw [h4]
        refine Tn.spec_cons (fun W hC hd => ⟨by rfl, ?_⟩) ?_
        · exact Tn.gives_val (.slice s2 P' cq) W (exec_sliceP (.tmp 48) (.tmp 49) rfl s2 P cq P' rfl rfl (HhdP.out)) ⟨hC, ⟨Below.refl _ _, fun _ => rfl⟩, (fun h => absurd h (by decide)), fun z hz => by cases hz; rfl⟩
        simp only [Act.put, List.setIfInBounds_toArray, List.set_cons_succ, List.set_cons_zero, Nat.reduceAdd]
        rw [h5]
        refine Tn.spec_cons_at (fun W hC hp hd => ⟨by rfl, ?_⟩) ?_
        · exact Tn.gives_call _ _ (exec_call2 8 (.tmp 46) (.tmp 50) #[22, 23] _ _ rfl rfl rfl (Tn.cf Try.func8 (by kernel_rfl) (by kernel_rfl) _ _)) ((Hcall.out W hC (hp rfl)).mono fun e W' ⟨h1, h2, h3⟩ => ⟨_, h2, hC.trans (h1.mono hC.size), ⟨h1, fun h => absurd rfl h⟩, fun _ => h3, fun z hz => by cases hz; rfl⟩)
        simp only [Act.put, List.setIfInBounds_toArray, List.set_cons_succ, List.set_cons_zero, Nat.reduceAdd]
        rw [h6]
        refine Tn.spec_cons (fun W hC hd => ⟨by rfl, ?_⟩) ?_
        · exact Tn.gives_val (.tuple #[dp, .int .i64 de]) W (by rfl) ⟨hC, ⟨Below.refl _ _, fun _ => rfl⟩, (fun h => absurd h (by decide)), fun z hz => by cases hz; rfl⟩
        simp only [Act.put, List.setIfInBounds_toArray, List.set_cons_succ, List.set_cons_zero, Nat.reduceAdd]
        rw [h7]
        refine Tn.spec_cons (fun W hC hd => ⟨by rfl, ?_⟩) ?_
        · exact Tn.gives_val (dp) W (by rfl) ⟨hC, ⟨Below.refl _ _, fun _ => rfl⟩, (fun h => absurd h (by decide)), fun z hz => by cases hz; rfl⟩
        simp only [Act.put, List.setIfInBounds_toArray, List.set_cons_succ, List.set_cons_zero, Nat.reduceAdd]
        rw [h8]
        refine Tn.spec_cons (fun W hC hd => ⟨by rfl, ?_⟩) ?_
        · exact Tn.gives_val (.int .i64 de) W (by rfl) ⟨hC, ⟨Below.refl _ _, fun _ => rfl⟩, (fun h => absurd h (by decide)), fun z hz => by cases hz; rfl⟩
        simp only [Act.put, List.setIfInBounds_toArray, List.set_cons_succ, List.set_cons_zero, Nat.reduceAdd]
        rw [h9]
        refine Tn.spec_cons (fun W hC hd => ⟨by rfl, ?_⟩) ?_
        · exact Tn.gives_val (dp) W (by rfl) ⟨hC, ⟨Below.refl _ _, fun _ => rfl⟩, (fun h => absurd h (by decide)), fun z hz => by cases hz; rfl⟩
        simp only [Act.put, List.setIfInBounds_toArray, List.set_cons_succ, List.set_cons_zero, Nat.reduceAdd]
        rw [h10]
        exact Tn.spec_nil
      · intro u W hu hC hP9
        have h0 : u 0 = .pointer (some ⟨w.heap.size, 0, none⟩) := hu 0 _ rfl
        have h1 : u 1 = .slice s1 n c1 := hu 1 _ rfl
        have h2 : u 2 = .pointer (some ⟨w.heap.size, 1, none⟩) := hu 2 _ rfl
        have h3 : u 3 = .slice s2 P cq := hu 3 _ rfl
        have h4 : u 4 = .int .i64 (P' : Int) := hu 4 _ rfl
        have h5 : u 5 = .slice s2 P' cq := hu 5 _ rfl
        have h6 : u 6 = .tuple #[dp, .int .i64 de] := hu 6 _ rfl
        have h7 : u 7 = .tuple #[dp, .int .i64 de] := hu 7 _ rfl
        have h8 : u 8 = dp := hu 8 _ rfl
        have h9 : u 9 = .int .i64 de := hu 9 _ rfl
        have h10 : u 10 = dp := hu 10 _ rfl
        have hCd := (hP9 6 (by omega)).1 rfl
        simp only [List.take_succ_cons, List.take_zero, List.drop_succ_cons, List.drop_zero, Tn.putAll, Act.put, List.setIfInBounds_toArray, List.set_cons_succ, List.set_cons_zero, Nat.reduceAdd]
        rw [h0, h1, h2, h3, h4, h5, h6, h7, h8, h9, h10]
        have HCw : Hid (Below w3.heap.size w3 W) := Lib.hid hC
        have HCd := Lib.hid hCd
        clear hu hC hP9 hCd h0 h1 h2 h3 h4 h5 h6 h7 h8 h9 h10
        have h1 := HDe.out
        subst h1
        have h2 := HD0.out
        subst h2
        have HX4 := Lib.hid (HX3.out.later HCw.out)
        have HC4 := Lib.hid (HC3.out.later HCw.out)
        have HD4 := Lib.hid (HCd.out rfl)
        have HB4 := Lib.hid (HBy.out.below HX4.out.below)
        have HPr4 := Lib.hid (HPs.out.below HX4.out.below)
        have HQl0 : Hid ((ps.take P').length = P') := Lib.hid (by rw [List.length_take, HP.out, HP'.out]; omega)
        have HN60 : Hid (N ≤ 60) := Lib.hid HFew.out.2.2
        have HnP2 : Hid (n + P' ≤ 512) := Lib.hid (by have := HnP.out; have := HP'.out; omega)
        obtain ⟨Q, hQ⟩ : ∃ Q, ps.take P' = Q := ⟨_, rfl⟩
        rw [hQ] at HD4 HTx' HPsE HE' HQl0
        obtain ⟨TQ, hTQ⟩ : ∃ TQ, (newD al Q).2 = TQ := ⟨_, rfl⟩
        rw [hTQ] at HD4 HTx'
        obtain ⟨⟨x0, y0⟩, hxy⟩ : ∃ p, ps.getD P' (0, 0) = p := ⟨_, rfl⟩
        rw [hxy] at HPsE
        have HXY := Lib.hid hxy
        obtain ⟨dg, hdg⟩ : ∃ dg, w3.heap.size + 1 = dg := ⟨_, rfl⟩
        rw [hdg] at HD4 ⊢
        clear hQ hTQ hxy hdg HCw HCd HD0 HDe Hcall HcallD HX3 HC3
        rename_i Wq
        cases hbad : badAt al b with
        | some bi =>
          have HE1 : Hid (encD al ps b = ([], bi, 14)) := Lib.hid (by unfold encD; rw [if_neg (by rw [HN.out]; have := HN60.out; omega), hbad])
          have HE2 : Hid (encD al Q b = ([], bi, 14)) := Lib.hid (by unfold encD; rw [if_neg (by rw [HN.out]; have := HN60.out; omega), hbad])
          clear hbad
          go_wp2_with fail
          refine (encode_any _ g bp cb N n P al ps T b HC4.out HTx.out HB4.out HN.out Hn.out HP.out HnP.out).mono ?_
          rw [HE1.out]
          rintro e w5 ⟨sp5, cap5, rfl, hn5, hb5⟩
          dsimp only at hn5 ⊢
          have HX5 := Lib.hid (HX4.out.later hb5)
          have HC5 := Lib.hid (HC4.out.later hb5)
          have HD5 := Lib.hid (HD4.out.later hb5)
          have HB5 := Lib.hid (HB4.out.below hb5)
          have HPr5 := Lib.hid (HPr4.out.below hb5)
          have HL5 := Lib.hid hn5
          clear hn5 hb5
          simp only [List.length_nil]
          go_wp2_with fail
          refine (encode_any _ dg bp cb N n P' al Q TQ b HD5.out HTx'.out HB5.out HN.out Hn.out HQl0.out HnP2.out).mono ?_
          rw [HE2.out]
          rintro e w6 ⟨sp6, cap6, rfl, hn6, hb6⟩
          dsimp only at hn6 ⊢
          have HX6 := Lib.hid (HX5.out.later hb6)
          have HC6 := Lib.hid (HC5.out.later hb6)
          have HPr6 := Lib.hid (HPr5.out.below hb6)
          have HL6 := Lib.hid (Tn.Nums.below HL5.out hb6)
          have HM6 := Lib.hid hn6
          clear hn6 hb6
          simp only [List.length_nil]
          have e3 := same_beq (14 : Int)
          go_wp2_with fail
          refine (awake_any _).mono ?_
          rintro e w7 ⟨rfl, hb7⟩
          have HX7 := Lib.hid (HX6.out.later hb7)
          clear hb7
          go_wp2
          go_ret
          exact ⟨rfl, HX7.out.below⟩
        | none =>
          obtain ⟨L, hL⟩ : ∃ L, enc ps al.length b.length (firsts al b) = L := ⟨_, rfl⟩
          obtain ⟨M, hM⟩ : ∃ M, enc Q al.length b.length (firsts al b) = M := ⟨_, rfl⟩
          have HE1 : Hid (encD al ps b = (L, 0, 0)) := Lib.hid (by unfold encD; rw [if_neg (by rw [HN.out]; have := HN60.out; omega), hbad, ← hL])
          have HE2 : Hid (encD al Q b = (M, 0, 0)) := Lib.hid (by unfold encD; rw [if_neg (by rw [HN.out]; have := HN60.out; omega), hbad, ← hM])
          have hlm : L = merg (x0, y0) ((al.length : Int) + Q.length) M := by
            have h := last_enc (b := b) (p := (x0, y0)) (ps := Q) (al := al) (by rw [← HPsE.out]; exact HE.out)
            rw [← HPsE.out, hL, hM] at h
            exact h
          have hMl : M.length ≤ 60 := by
            rw [← hM]
            exact Nat.le_trans (enc_length _ _ _ _) (by rw [firsts_length, HN.out]; exact HN60.out)
          obtain ⟨m, hm⟩ : ∃ m, M.length = m := ⟨_, rfl⟩
          obtain ⟨ll, hl⟩ : ∃ ll, L.length = ll := ⟨_, rfl⟩
          rw [Hn.out, HQl0.out] at hlm
          obtain ⟨t, ht⟩ : ∃ t : Int, (n : Int) + (P' : Int) = t := ⟨_, rfl⟩
          obtain ⟨TL, hTl⟩ : ∃ TL, T.length = TL := ⟨_, rfl⟩
          have hTL : TL = n + P := by rw [← hTl, HTx.out.len, Hn.out, HP.out]
          have hwt : IntKind.i64.wrap ((TL : Int) - 1) = t := by rw [IntWalk.i64_in _ (by have := HnP.out; omega)]; have := HP'.out; omega
          rw [ht] at hlm
          rw [hm] at hMl
          have HLM := Lib.hid hlm
          have HMl := Lib.hid hm
          have HLl := Lib.hid hl
          have HTl := Lib.hid hTl
          have HTL : Hid (TL ≤ 512) := Lib.hid (by have := HnP.out; omega)
          clear hbad hL hM hlm hm hl ht hTl hTL
          go_wp2_with fail
          refine (encode_any _ g bp cb N n P al ps T b HC4.out HTx.out HB4.out HN.out Hn.out HP.out HnP.out).mono ?_
          rw [HE1.out]
          rintro e w5 ⟨sp5, cap5, rfl, hn5, hb5⟩
          dsimp only at hn5 ⊢
          have HX5 := Lib.hid (HX4.out.later hb5)
          have HC5 := Lib.hid (HC4.out.later hb5)
          have HD5 := Lib.hid (HD4.out.later hb5)
          have HB5 := Lib.hid (HB4.out.below hb5)
          have HPr5 := Lib.hid (HPr4.out.below hb5)
          have HL5 := Lib.hid hn5
          clear hn5 hb5
          rw [HLl.out]
          go_wp2_with fail
          refine (encode_any _ dg bp cb N n P' al Q TQ b HD5.out HTx'.out HB5.out HN.out Hn.out HQl0.out HnP2.out).mono ?_
          rw [HE2.out]
          rintro e w6 ⟨sp6, cap6, rfl, hn6, hb6⟩
          dsimp only at hn6 ⊢
          have HX6 := Lib.hid (HX5.out.later hb6)
          have HC6 := Lib.hid (HC5.out.later hb6)
          have HPr6 := Lib.hid (HPr5.out.below hb6)
          have HL6 := Lib.hid (Tn.Nums.below HL5.out hb6)
          have HM6 := Lib.hid hn6
          clear hn6 hb6
          rw [HMl.out]
          obtain ⟨r0, r1⟩ := HX6.out.cells
          obtain ⟨c, o, e, hrg⟩ := HPr6.out.at_ P' (by rw [HP.out, HP'.out]; omega)
          subst e
          rw [HXY.out] at hrg
          have HRg := Lib.hid hrg
          have hPP : P' < P := by have := HP'.out; omega
          clear hrg
          have HPz0 := Lib.hid (Pz.made w6 x0 y0)
          have HMg0 : Hid (Mg w6 M (x0, y0) t 0 0 (.slice none 0 0) [] (w6.alloc (.cells #[.int .i64 x0, .int .i64 y0] 48))) := Lib.hid ⟨HPz0.out.below, World.ownsRow_nil _ _ _ _, rfl, Nat.le_refl _, rfl⟩
          go_upto_region 13 with (refine wpList_load_mid rfl 48 (.tmp 110) rfl c (o + P' * 2) rfl [.int .i64 x0, .int .i64 y0] _ HRg.out under_pair rfl size_bpair ?_)
          refine gen_w (Q := fun w => Code.wp _ _ _ _ w) _ (fun W => Pz w6 x0 y0 W ∧ Mg w6 M (x0, y0) t 0 0 (.slice none 0 0) [] W) ⟨HPz0.out, HMg0.out⟩ ?_
          rintro w7 ⟨hp7, hm7⟩
          have HPz1 := Lib.hid hp7
          have HMg1 := Lib.hid hm7
          clear hp7 hm7 HPz0 HMg0 r0 r1 hPP
          go_wp2
          go_loopw [17, 18] (fun v i wr => ∃ (k nn : Nat) (d : List Int), k ≤ m ∧ i = .int .i64 k ∧ Pz w6 x0 y0 wr ∧ Mg w6 M (x0, y0) t nn k v d wr) (fun _ i _ => m - (intOf i).toNat)
          case atStart => exact ⟨0, 0, [], by omega, rfl, HPz1.out, HMg1.out⟩
          case round =>
            clear HMg1 HPz1
            obtain ⟨k, nn, d, hk, rfl, hp, hm⟩ := hrel
            obtain ⟨sv, cv, rfl, _, _, _⟩ := Tn.Sl.all1 hm.own
            have HPz := Lib.hid hp
            have HMg := Lib.hid hm
            obtain ⟨q1, q2⟩ := hp.cells
            have hnk := hm.le
            have HMr := Lib.hid (HM6.out.below hm.below)
            have HCr := Lib.hid (HC6.out.later hm.below)
            clear hp hm
            by_cases hlt : k < m
            · have hdt : decide (k < m) = true := by simpa using hlt
              obtain ⟨c, o, e, h9⟩ := HMr.out.at_ k (by rw [HMl.out]; omega)
              clear h9
              subst e
              have c1 := Nums.cell HMr.out k (by rw [HMl.out]; omega)
              by_cases hk1 : k + 1 < m
              · have hdt1 : decide (k + 1 < m) = true := by simpa using hk1
                have hdt2 : decide ((k : Int) + 1 < (m : Int)) = true := by simp; omega
                have c2 := Nums.cell HMr.out (k + 1) (by rw [HMl.out]; exact hk1)
                obtain ⟨x, hx⟩ : ∃ x, M.getD k 0 = x := ⟨_, rfl⟩
                obtain ⟨y, hy⟩ : ∃ y, M.getD (k + 1) 0 = y := ⟨_, rfl⟩
                rw [hx] at c1
                rw [hy] at c2
                have HXx := Lib.hid hx
                have HYy := Lib.hid hy
                clear hx hy
                by_cases hxa : x = x0
                · by_cases hyb : y = y0
                  · subst hxa hyb
                    have e1 := same_beq x
                    have e2 := same_beq y
                    go_wp2
                    go_quiet (fail)
                    have HM2 : Hid (Mg w6 M (x, y) t nn k (.slice sv nn cv) d (wr.drewN nq)) := Lib.hid ⟨below_drewN HMg.out.below _, owns_drewN HMg.out.own _, HMg.out.len, HMg.out.le, HMg.out.rest⟩
                    have HP2 : Hid (Pz w6 x y (wr.drewN nq)) := Lib.hid (HPz.out.later (below_drewN (Below.refl wr.heap.size wr) _))
                    have HC7 := Lib.hid (HCr.out.later (below_drewN (Below.refl wr.heap.size wr) nq))
                    generalize wr.drewN nq = w7 at HM2 HP2 HC7 ⊢
                    clear q1 q2 c1 c2
                    obtain ⟨mm, sp, cc, h1, _⟩ := HC7.out
                    rw [HTl.out] at h1
                    go_wp2_with fail
                    refine (many_any w7 g mm al ps sp TL cc h1 (by have := HTL.out; unfold maxLen; omega)).mono ?_
                    rintro e w8 ⟨rfl, rfl⟩
                    clear h1
                    go_wp2_with (refine Tn.wpList_push rfl (.tmp 140) (.tmp 144) rfl (w6.heap.size + 1) _ nn d t rfl HM2.out.own rfl (by omega) HP2.out.lt ?_; intro v2 w9 hown hb3; have HO3 := Lib.hid hown; have HB3 := Lib.hid hb3; clear hown hb3)
                    go_roundw
                    case rel => exact ⟨k + 2, nn + 1, d ++ [t], by omega, by go_num, HP2.out.push HB3.out, HM2.out.yes (by rw [HMl.out]; exact hk1) HXx.out HYy.out HO3.out HB3.out⟩
                    case measure => simp [intOf]; omega
                  · subst hxa
                    have e1 := same_beq x
                    have e2 : (y == y0) = false := by simpa using hyb
                    have HNo : Hid (¬ (k + 1 < M.length ∧ M.getD k 0 = (x, y0).1 ∧ M.getD (k + 1) 0 = (x, y0).2)) := Lib.hid (by rintro ⟨_, _, h⟩; rw [HYy.out] at h; exact hyb h)
                    go_wp2
                    go_quiet (fail)
                    have HM2 : Hid (Mg w6 M (x, y0) t nn k (.slice sv nn cv) d (wr.drewN nq)) := Lib.hid ⟨below_drewN HMg.out.below _, owns_drewN HMg.out.own _, HMg.out.len, HMg.out.le, HMg.out.rest⟩
                    have HP2 : Hid (Pz w6 x y0 (wr.drewN nq)) := Lib.hid (HPz.out.later (below_drewN (Below.refl wr.heap.size wr) _))
                    have HL3 := Lib.hid (HMr.out.below (below_drewN (Below.refl wr.heap.size wr) nq))
                    have c3 := Nums.cell HL3.out k (by rw [HMl.out]; omega)
                    rw [HXx.out] at c3
                    generalize wr.drewN nq = w7 at HM2 HP2 HL3 c3 ⊢
                    clear q1 q2 c1
                    go_wp2_with (refine Tn.wpList_push rfl (.tmp 148) (.tmp 153) rfl (w6.heap.size + 1) _ nn d x rfl HM2.out.own rfl (by omega) HP2.out.lt ?_; intro v2 w9 hown hb3; have HO3 := Lib.hid hown; have HB3 := Lib.hid hb3; clear hown hb3)
                    go_roundw
                    case rel => exact ⟨k + 1, nn + 1, d ++ [x], by omega, by go_num, HP2.out.push HB3.out, by have h9 := HM2.out.no (by rw [HMl.out]; exact hlt) HNo.out (by rw [HXx.out]; exact HO3.out) HB3.out; rwa [HXx.out] at h9⟩
                    case measure => simp [intOf]; omega
                · have e1 : (x == x0) = false := by simpa using hxa
                  have HNo : Hid (¬ (k + 1 < M.length ∧ M.getD k 0 = (x0, y0).1 ∧ M.getD (k + 1) 0 = (x0, y0).2)) := Lib.hid (by rintro ⟨_, h, _⟩; rw [HXx.out] at h; exact hxa h)
                  go_wp2
                  go_quiet (fail)
                  have HM2 : Hid (Mg w6 M (x0, y0) t nn k (.slice sv nn cv) d (wr.drewN nq)) := Lib.hid ⟨below_drewN HMg.out.below _, owns_drewN HMg.out.own _, HMg.out.len, HMg.out.le, HMg.out.rest⟩
                  have HP2 : Hid (Pz w6 x0 y0 (wr.drewN nq)) := Lib.hid (HPz.out.later (below_drewN (Below.refl wr.heap.size wr) _))
                  have HL3 := Lib.hid (HMr.out.below (below_drewN (Below.refl wr.heap.size wr) nq))
                  have c3 := Nums.cell HL3.out k (by rw [HMl.out]; omega)
                  rw [HXx.out] at c3
                  generalize wr.drewN nq = w7 at HM2 HP2 HL3 c3 ⊢
                  clear q1 q2 c1
                  go_wp2_with (refine Tn.wpList_push rfl (.tmp 148) (.tmp 153) rfl (w6.heap.size + 1) _ nn d x rfl HM2.out.own rfl (by omega) HP2.out.lt ?_; intro v2 w9 hown hb3; have HO3 := Lib.hid hown; have HB3 := Lib.hid hb3; clear hown hb3)
                  go_roundw
                  case rel => exact ⟨k + 1, nn + 1, d ++ [x], by omega, by go_num, HP2.out.push HB3.out, by have h9 := HM2.out.no (by rw [HMl.out]; exact hlt) HNo.out (by rw [HXx.out]; exact HO3.out) HB3.out; rwa [HXx.out] at h9⟩
                  case measure => simp [intOf]; omega
              · have hdf1 : decide (k + 1 < m) = false := by simpa using hk1
                have hdf2 : decide ((k : Int) + 1 < (m : Int)) = false := by simp; omega
                obtain ⟨x, hx⟩ : ∃ x, M.getD k 0 = x := ⟨_, rfl⟩
                rw [hx] at c1
                have HXx := Lib.hid hx
                clear hx
                have HNo : Hid (¬ (k + 1 < M.length ∧ M.getD k 0 = (x0, y0).1 ∧ M.getD (k + 1) 0 = (x0, y0).2)) := Lib.hid (by rintro ⟨h, _⟩; rw [HMl.out] at h; exact hk1 h)
                go_wp2
                go_quiet (fail)
                have HM2 : Hid (Mg w6 M (x0, y0) t nn k (.slice sv nn cv) d (wr.drewN nq)) := Lib.hid ⟨below_drewN HMg.out.below _, owns_drewN HMg.out.own _, HMg.out.len, HMg.out.le, HMg.out.rest⟩
                have HP2 : Hid (Pz w6 x0 y0 (wr.drewN nq)) := Lib.hid (HPz.out.later (below_drewN (Below.refl wr.heap.size wr) _))
                have HL3 := Lib.hid (HMr.out.below (below_drewN (Below.refl wr.heap.size wr) nq))
                have c3 := Nums.cell HL3.out k (by rw [HMl.out]; omega)
                rw [HXx.out] at c3
                generalize wr.drewN nq = w7 at HM2 HP2 HL3 c3 ⊢
                clear q1 q2 c1
                go_wp2_with (refine Tn.wpList_push rfl (.tmp 148) (.tmp 153) rfl (w6.heap.size + 1) _ nn d x rfl HM2.out.own rfl (by omega) HP2.out.lt ?_; intro v2 w9 hown hb3; have HO3 := Lib.hid hown; have HB3 := Lib.hid hb3; clear hown hb3)
                go_roundw
                case rel => exact ⟨k + 1, nn + 1, d ++ [x], by omega, by go_num, HP2.out.push HB3.out, by have h9 := HM2.out.no (by rw [HMl.out]; exact hlt) HNo.out (by rw [HXx.out]; exact HO3.out) HB3.out; rwa [HXx.out] at h9⟩
                case measure => simp [intOf]; omega
            · obtain rfl : k = m := by omega
              have hdf : decide (k < k) = false := by simp
              have hrest := HMg.out.rest
              rw [List.drop_of_length_le (by rw [HMl.out]; exact Nat.le_refl _)] at hrest
              have hd : d = L := by rw [HLM.out, ← hrest]; simp [merg]
              obtain ⟨so, co, e2, hln, hno⟩ := Tn.own_nums HMg.out.own
              cases e2
              rw [hd] at hno hln
              rw [HLl.out] at hln
              subst hln
              have HNo := Lib.hid hno
              have HLr := Lib.hid (HL6.out.below HMg.out.below)
              have HBr := Lib.hid (HX6.out.below.trans (HMg.out.below.mono HX6.out.below.size))
              clear hrest hd hno hlt hk
              go_wp2_with fail
              refine (ints_same _ sp5 _ cap5 _ _ L HLl.out HLr.out HNo.out).mono ?_
              rintro e w8 ⟨rfl, hb8⟩
              have HB8 := Lib.hid (HBr.out.trans (hb8.mono HBr.out.size))
              clear hb8
              go_wp2_with fail
              refine (awake_any _).mono ?_
              rintro e w9 ⟨rfl, hb9⟩
              have HB9 := Lib.hid (HB8.out.trans (hb9.mono HB8.out.size))
              clear hb9
              go_wp2
              go_ret
              exact ⟨rfl, HB9.out⟩
  · have hX : (decide (n ≤ 600) && decide (P ≤ 60)) = false ∨ ((decide (n ≤ 600) && decide (P ≤ 60)) = true ∧ (decide (z < 0) = true ∨ (decide (z < 0) = false ∧ decide (60 < N) = true ∧ decide ((60 : Int) < (N : Int)) = true))) := by
      have hz := HZ.out
      by_cases h1 : n ≤ 600 ∧ P ≤ 60
      · right
        refine ⟨by simp [h1.1, h1.2], ?_⟩
        by_cases h2 : z < 0
        · exact Or.inl (by simpa using h2)
        · have h3 : 60 < N := by
            have h9 : ¬ (1 ≤ P ∧ N ≤ 60) := fun h => hfew ⟨h1, h⟩
            omega
          exact Or.inr ⟨by simpa using h2, by simpa using h3, by simp; omega⟩
      · left
        rw [← Bool.not_eq_true]
        intro h
        simp at h
        exact h1 h
    clear hfew
    rcases hX with hf | ⟨hf, k1 | ⟨k1, k2, k3⟩⟩
    · rw [hf]
      clear hf
      go_wp2_with fail
      refine (awake_any w2).mono ?_
      rintro e w3 ⟨rfl, hb3⟩
      have HX3 := Lib.hid (HX2.out.later hb3)
      clear hb3
      go_wp2
      go_ret
      exact ⟨rfl, HX3.out.below⟩
    · rw [hf]
      clear hf
      go_wp2_with fail
      refine (awake_any w2).mono ?_
      rintro e w3 ⟨rfl, hb3⟩
      have HX3 := Lib.hid (HX2.out.later hb3)
      clear hb3
      go_wp2
      go_ret
      exact ⟨rfl, HX3.out.below⟩
    · rw [hf]
      clear hf
      go_wp2_with fail
      refine (awake_any w2).mono ?_
      rintro e w3 ⟨rfl, hb3⟩
      have HX3 := Lib.hid (HX2.out.later hb3)
      clear hb3
      go_wp2
      go_ret
      exact ⟨rfl, HX3.out.below⟩
end Go.Proofs.Ytllaecliaojmjaa.Bp
