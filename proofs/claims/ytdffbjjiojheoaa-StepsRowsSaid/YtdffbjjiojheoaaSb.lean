/- Steps: plans, and which may be. -/
import Derived.Test.YtdffbjjiojheoaaSa
import Derived.Test.YtdffbjjiojheoaaZm
namespace Go.Proofs.Ytdffbjjiojheoaa.St
set_option maxRecDepth 100000
open Go.ChangeShapes Go.WideShapes Go.ChangeAt Go.RowKit Go.Shelf Go.Proofs.Ytdffbjjiojheoaa.Tn Go.Proofs.Ytdffbjjiojheoaa.Wg
/-- a plan: sizes, the prompt's length, Limit, K -/
structure Pl where
  c : Cfg
  p : Int
  m : Int
  k : Int
def Pl.cells (q : Pl) : Array Value := #[.int .i64 q.c.v, .int .i64 q.c.d, .int .i64 q.c.h, .int .i64 q.c.l, .int .i64 q.c.x, .int .i64 q.c.i, .int .i64 q.p, .int .i64 q.m, .int .i64 q.k]
/-- may so many tokens come behind such a prompt? -/
def mchk (c : Cfg) (ps : List Int) (li k : Int) : Int :=
  if c.chk ≠ 0 then c.chk else if ps.length = 0 ∨ li < 1 then 13 else if c.x - ps.length < li then 20 else if (∃ t ∈ ps, t < 0 ∨ c.v ≤ t) ∨ k < 1 ∨ c.v < k then 10 else 0
theorem isTok_any (w : World) (c : Cfg) (t : Int) : Calls Try.prog 59 #[.agg c.cells, .int .i64 t] w fun e w' => e = .returned (.bool (decide (0 ≤ t ∧ t < c.v))) ∧ Below w.heap.size w w' := by
  unfold Cfg.cells
  by_cases h1 : 0 ≤ t
  · have d1 : decide (0 ≤ t) = true := by simpa using h1
    by_cases h2 : t < c.v
    · have d2 : decide (t < c.v) = true := by simpa using h2
      have e : decide (0 ≤ t ∧ t < c.v) = true := by simp [h1, h2]
      rw [e]
      clear h1 h2 e
      go_enter Try.func59, Try.ntmps59
      go_wp2
      go_ret
      exact ⟨rfl, (Below.refl _ _).alloc (Nat.le_refl _) _⟩
    · have d2 : decide (t < c.v) = false := by simpa using h2
      have e : decide (0 ≤ t ∧ t < c.v) = false := by simp [h2]
      rw [e]
      clear h1 h2 e
      go_enter Try.func59, Try.ntmps59
      go_wp2
      go_ret
      exact ⟨rfl, (Below.refl _ _).alloc (Nat.le_refl _) _⟩
  · have d1 : decide (0 ≤ t) = false := by simpa using h1
    have e : decide (0 ≤ t ∧ t < c.v) = false := by simp [h1]
    rw [e]
    clear h1 e
    go_enter Try.func59, Try.ntmps59
    go_wp2
    go_ret
    exact ⟨rfl, (Below.refl _ _).alloc (Nat.le_refl _) _⟩
theorem isNone_any (w : World) (c : Cfg) (t : Int) (g : Nat) (hg : w.heap[g]? = some (.cells c.cells 31 (0, 0))) : Calls Try.prog 58 #[.int .i64 t, .pointer (some ⟨g, 0, none⟩)] w fun e w' => e = .returned (.bool (!decide (0 ≤ t ∧ t < c.v))) ∧ Below w.heap.size w w' := by
  have HT := Lib.hid (isTok_any w c t)
  have HG := Lib.hid hg
  obtain ⟨b, hb⟩ : ∃ b, decide (0 ≤ t ∧ t < c.v) = b := ⟨_, rfl⟩
  rw [hb] at HT ⊢
  clear hg hb
  unfold Cfg.cells at HT HG
  go_enter Try.func58, Try.ntmps58
  go_wp2_with (first
    | (refine wpList_load_row rfl 31 (.tmp 1) rfl g rfl 31 _ (0, 0) _ HG.out Try.underlying31 rfl size_cfg ?_)
    | (go_at_call 59; refine HT.out.mono ?_; rintro e w2 ⟨rfl, hb2⟩; have HB := Lib.hid hb2; clear hb2))
  go_ret
  exact ⟨rfl, HB.out⟩
theorem exec_callV {a : Act} {o : Oper} {W : World} (fid : FuncId) (f x : Operand) (ats : Array TypeId) (cap : Array Value) (v : Value) (ho : o.op = .call { callee := .value f, args := #[x], argTypes := ats }) (hf : a.eval f = .func (.func fid) #[] cap) (hx : a.eval x = v)
    (hcf : (callFunc fid (#[v] ++ cap)).run Try.prog W = .ok (.enter fid (#[v] ++ cap)) W) : (execOp a.eval o).run Try.prog W = .ok (.enter fid (#[v] ++ cap)) W := by
  unfold execOp
  simp only [ho, resolve, hf, Deferred.ofValue, Sem.run_bind, Sem.run_pure, Result.andThen_ok, invoke, Array.empty_append, List.map_toArray, List.map_cons, List.map_nil, hx]
  exact hcf
theorem getD_at {l : List Int} {k : Nat} (h : k < l.length) : l.getD k 0 = l[k] := by simp [h]
theorem index_any (w : World) (s : Option Addr) (n c : Nat) (l : List Int) (hl : l.length = n) (hN : Nums w s c l) (fid : FuncId) (cap : Array Value) (f : Int → Bool) (hcf : ∀ vs W, (callFunc fid vs).run Try.prog W = .ok (.enter fid vs) W)
    (hc : ∀ (t : Int) W, Below w.heap.size w W → Calls Try.prog fid (#[.int .i64 t] ++ cap) W fun e W' => e = .returned (.bool (f t)) ∧ Below W.heap.size W W') :
    Calls Try.prog 69 #[.slice s n c, .func (.func fid) #[] cap] w fun e w' => ∃ r : Int, e = .returned (.int .i64 r) ∧ decide (0 ≤ r) = l.any f ∧ Below w.heap.size w w' := by
  have hn : n ≤ 9223372036854775807 := by have := hN.len; omega
  have HN := Lib.hid hN
  have HL := Lib.hid hl
  have HCf := Lib.hid hcf
  have HC := Lib.hid hc
  clear hN hl hcf hc
  go_enter Try.func69, Try.ntmps69
  go_wp2
  go_loopw [8] (fun iv wr => ∃ i : Nat, i ≤ n ∧ iv = .int .i64 i ∧ (∀ k, k < i → f (l.getD k 0) = false) ∧ Below w.heap.size w wr) (fun iv _ => n - (intOf iv).toNat)
  case atStart => exact ⟨0, by omega, rfl, fun k hk => absurd hk (by omega), Below.refl _ _⟩
  case round =>
    obtain ⟨i, hi, rfl, hk, hb⟩ := hrel
    have HK := Lib.hid hk
    have HB := Lib.hid hb
    clear hk hb
    by_cases hlt : i < n
    · have e1 : decide (i < n) = true := by simpa using hlt
      have e2 : decide ((i : Int) < (n : Int)) = true := by simp; omega
      obtain ⟨cc, oo, rfl, hy⟩ := HN.out.at_ i (by rw [HL.out]; exact hlt)
      obtain ⟨y, hyy⟩ : ∃ y, l.getD i 0 = y := ⟨_, rfl⟩
      rw [hyy] at hy
      have HY := Lib.hid hyy
      have hy1 : wr.cell? ⟨cc, oo + i, none⟩ = some (.int .i64 y) := (HB.out.cell (block_lt_of_cell hy)).trans hy
      have HY1 := Lib.hid hy1
      obtain ⟨b, hb⟩ : ∃ b, f y = b := ⟨_, rfl⟩
      have HF := Lib.hid hb
      have HCl := Lib.hid (HC.out y wr HB.out)
      rw [hb] at HCl
      clear hy hy1 hyy hb
      go_upto_region 4 with fail
      refine wp_region_lit ?_
      refine Mk.wpList_vl rfl _ (Mk.exec_movM (.tmp 1) rfl _ rfl) ?_
      simp only [Act.put, List.setIfInBounds_toArray, List.set_cons_succ, List.set_cons_zero]
      refine Mk.wpList_vl rfl _ (Mk.exec_movM (.tmp 0) rfl _ rfl) ?_
      simp only [Act.put, List.setIfInBounds_toArray, List.set_cons_succ, List.set_cons_zero]
      refine Mk.wpList_vl rfl _ (Mk.exec_movM (.tmp 5) rfl _ rfl) ?_
      simp only [Act.put, List.setIfInBounds_toArray, List.set_cons_succ, List.set_cons_zero]
      refine Mk.wpList_vl rfl (.pointer (some ⟨cc, oo + i, none⟩)) (Mk.exec_atM (.tmp 12) (.tmp 13) rfl cc oo n c i rfl rfl hlt) ?_
      simp only [Act.put, List.setIfInBounds_toArray, List.set_cons_succ, List.set_cons_zero]
      refine Mk.wpList_vl rfl (.int .i64 y) (Bp.exec_load1 3 (.tmp 14) rfl ⟨cc, oo + i, none⟩ rfl _ HY1.out _ Try.underlying3 rfl) ?_
      simp only [Act.put, List.setIfInBounds_toArray, List.set_cons_succ, List.set_cons_zero]
      refine Mk.wpList_callM rfl fid _ (exec_callV fid (.tmp 11) (.tmp 15) _ cap _ rfl rfl rfl (HCf.out _ _)) HCl.out ?_
      rintro e w2 ⟨rfl, hb2⟩
      refine ⟨_, rfl, ?_⟩
      simp only [Act.put, List.setIfInBounds_toArray, List.set_cons_succ, List.set_cons_zero]
      have HB2 := Lib.hid (HB.out.trans (hb2.mono HB.out.size))
      clear hb2
      cases b with
      | true =>
        go_wp2
        go_ret
        refine ⟨_, rfl, ?_, HB2.out⟩
        have h1 : l.any f = true := List.any_eq_true.2 ⟨y, by rw [← HY.out, getD_at (by rw [HL.out]; exact hlt)]; exact List.getElem_mem _, HF.out⟩
        rw [h1]
        simp
      | false =>
        go_wp2
        go_roundw
        case rel => exact ⟨i + 1, by omega, by go_num, fun k hk => by
          by_cases hki : k = i
          · subst hki; rw [HY.out]; exact HF.out
          · exact HK.out k (by omega), HB2.out⟩
        case measure => simp [intOf]; omega
    · obtain rfl : i = n := by omega
      have e1 : decide (i < i) = false := by simp
      have e2 : decide ((i : Int) < (i : Int)) = false := by simp
      go_wp2
      go_ret
      refine ⟨_, rfl, ?_, HB.out⟩
      have h1 : l.any f = false := List.any_eq_false.2 fun x hx => by
        obtain ⟨k, hk, rfl⟩ := List.getElem_of_mem hx
        have := HK.out k (by rw [← HL.out]; exact hk)
        rw [getD_at hk] at this
        rw [this]; decide
      rw [h1]
      rfl
theorem contains_any (w : World) (s : Option Addr) (n c : Nat) (l : List Int) (hl : l.length = n) (hN : Nums w s c l) (fid : FuncId) (cap : Array Value) (f : Int → Bool) (hcf : ∀ vs W, (callFunc fid vs).run Try.prog W = .ok (.enter fid vs) W)
    (hc : ∀ (t : Int) W, Below w.heap.size w W → Calls Try.prog fid (#[.int .i64 t] ++ cap) W fun e W' => e = .returned (.bool (f t)) ∧ Below W.heap.size W W') :
    Calls Try.prog 51 #[.slice s n c, .func (.func fid) #[] cap] w fun e w' => e = .returned (.bool (l.any f)) ∧ Below w.heap.size w w' := by
  have HI := Lib.hid (index_any w s n c l hl hN fid cap f hcf hc)
  clear hl hN hcf hc
  obtain ⟨b, hb⟩ : ∃ b, l.any f = b := ⟨_, rfl⟩
  rw [hb] at HI ⊢
  clear hb
  go_enter Try.func51, Try.ntmps51
  go_wp2_with (go_at_call 69; refine HI.out.mono ?_; rintro e w2 ⟨r, rfl, hr, hb2⟩; have HB := Lib.hid hb2; clear hb2)
  go_ret
  exact ⟨rfl, HB.out⟩
/-- the boxes of Check: the sizes, what is asked -/
structure CkI (w : World) (c : Cfg) (cs : Array Value) (W : World) : Prop where
  below : Below w.heap.size w W
  cf : W.heap[w.heap.size]? = some (.cells c.cells 31 (0, 0))
  as_ : W.heap[w.heap.size + 1]? = some (.cells cs 29 (0, 0))
theorem CkI.later {w W W' : World} {c : Cfg} {cs : Array Value} (h : CkI w c cs W) (hb : Below W.heap.size W W') : CkI w c cs W' :=
  ⟨h.below.trans (hb.mono h.below.size), (hb.block _ (Array.getElem?_eq_some_iff.1 h.cf).1).trans h.cf, (hb.block _ (Array.getElem?_eq_some_iff.1 h.as_).1).trans h.as_⟩
theorem CkI.made (w : World) (c : Cfg) (cs : Array Value) : CkI w c cs ((w.alloc (.cells c.cells 31)).alloc (.cells cs 29)) := by
  obtain ⟨O1, hO1⟩ : ∃ O, (Obj.cells c.cells 31 (0, 0)) = O := ⟨_, rfl⟩
  obtain ⟨O2, hO2⟩ : ∃ O, (Obj.cells cs 29 (0, 0)) = O := ⟨_, rfl⟩
  rw [hO1, hO2]
  have e1 : (w.alloc O1).heap.size = w.heap.size + 1 := by simp
  refine ⟨((Below.refl _ _).alloc (Nat.le_refl _) _).alloc (by simp) _, ?_, ?_⟩
  · rw [hO1, heap_alloc_old _ _ (by omega)]; exact heap_alloc_new _ _
  · rw [hO2, ← e1]; exact heap_alloc_new _ _
set_option maxHeartbeats 4000000 in
theorem mcheck_any (w : World) (c : Cfg) (cs : Array Value) (sp : Option Addr) (n cp : Nat) (ps : List Int) (k li : Int) (hl : ps.length = n) (hN : Nums w sp cp ps) (h0 : cs[0]? = some (.slice sp n cp)) (h33 : cs[33]? = some (.int .i64 k)) (h34 : cs[34]? = some (.int .i64 li)) (hn : n ≤ 1000000) :
    Calls Try.prog 38 #[.agg c.cells, .agg cs] w fun e w' => e = .returned (.int .i64 (mchk c ps li k)) ∧ Below w.heap.size w w' := by
  have HM := Lib.hid (CkI.made w c cs)
  have HCk := Lib.hid (fun W => chk_any W c)
  have HN := Lib.hid hN
  have HL := Lib.hid hl
  have HX := Lib.hid hn
  obtain ⟨E, hE⟩ : ∃ E, mchk c ps li k = E := ⟨_, rfl⟩
  obtain ⟨K, hK⟩ : ∃ K, c.chk = K := ⟨_, rfl⟩
  rw [hE]
  rw [hK] at HCk
  unfold mchk at hE
  rw [hK, HL.out] at hE
  have HE := Lib.hid hE
  have HKk := Lib.hid hK
  clear hN hl hn hE hK
  go_enter Try.func38, Try.ntmps38
  go_upto_region 1 with fail
  refine Mk.genM (Q := fun w => Code.wp _ _ _ _ w) _ (CkI w c cs) HM.out ?_
  clear HM
  intro w1 hx
  have HI := Lib.hid hx
  clear hx
  go_upto_region 2 with (first
    | (refine wpList_load_row rfl 31 (.tmp 2) rfl w.heap.size rfl 31 _ (0, 0) _ HI.out.cf Try.underlying31 rfl size_cfg ?_)
    | (go_at_call 37; refine (HCk.out _).mono ?_; rintro e w2 ⟨rfl, hb2⟩; have HI2 := Lib.hid (HI.out.later hb2); clear hb2))
  by_cases hk0 : K = 0
  · subst hk0
    have hE := HE.out
    rw [if_neg (by omega)] at hE
    have hO := Cfg.ok_of_chk HKk.out
    obtain ⟨_, _, _, _, ⟨hx1, hx2⟩, _⟩ := hO
    have c4 : w2.cell? ⟨w.heap.size, 4, none⟩ = some (.int .i64 c.x) := (cfg_cells HI2.out.cf).2.2.2.2.1
    have c0 : w2.cell? ⟨w.heap.size, 0, none⟩ = some (.int .i64 c.v) := (cfg_cells HI2.out.cf).1
    have a0 : w2.cell? ⟨w.heap.size + 1, 0, none⟩ = some (.slice sp n cp) := by rw [cell_of_row _ _ _ _ _ _ HI2.out.as_]; exact h0
    have a33 : w2.cell? ⟨w.heap.size + 1, 33, none⟩ = some (.int .i64 k) := by rw [cell_of_row _ _ _ _ _ _ HI2.out.as_]; exact h33
    have a34 : w2.cell? ⟨w.heap.size + 1, 34, none⟩ = some (.int .i64 li) := by rw [cell_of_row _ _ _ _ _ _ HI2.out.as_]; exact h34
    have HEe := Lib.hid hE
    have hn := HX.out
    obtain ⟨X, hX⟩ : ∃ X, c.x = X := ⟨_, rfl⟩
    rw [hX] at c4 hx1 hx2 HEe
    clear hE hX HI
    by_cases hn0 : n = 0
    · have d1 : decide ((n : Int) = 0) = true := by simp [hn0]
      have d2 : ((n : Int) == 0) = true := by simp [hn0]
      have HR : Hid (E = 13) := Lib.hid (by have := HEe.out; rw [if_pos (Or.inl hn0)] at this; exact this.symm)
      clear hn0
      go_wp2
      go_ret
      exact ⟨by rw [HR.out]; rfl, HI2.out.below⟩
    · have d1 : decide ((n : Int) = 0) = false := by simp [hn0]
      have d2 : ((n : Int) == 0) = false := by simp [hn0]
      by_cases hl1 : li < 1
      · have d3 : decide (li < 1) = true := by simp [hl1]
        have HR : Hid (E = 13) := Lib.hid (by have := HEe.out; rw [if_pos (Or.inr hl1)] at this; exact this.symm)
        clear hn0 hl1
        go_wp2
        go_ret
        exact ⟨by rw [HR.out]; rfl, HI2.out.below⟩
      · have d3 : decide (li < 1) = false := by simp [hl1]
        have hw : wrap64 (X - (n : Int)) = X - (n : Int) := by unfold wrap64; omega
        have hw2 : IntKind.i64.wrap (X - (n : Int)) = X - (n : Int) := IntWalk.i64_in _ (by omega)
        have hE := HEe.out
        rw [if_neg (by omega)] at hE
        by_cases hlo : X - (n : Int) < li
        · have d4 : decide (X - (n : Int) < li) = true := by simp [hlo]
          have HR : Hid (E = 20) := Lib.hid (by rw [if_pos hlo] at hE; exact hE.symm)
          clear hn0 hl1 hlo hE hx1 hx2 hn
          go_wp2
          go_ret
          exact ⟨by rw [HR.out]; rfl, HI2.out.below⟩
        · have d4 : decide (X - (n : Int) < li) = false := by simp [hlo]
          rw [if_neg hlo] at hE
          have HEf := Lib.hid hE
          have HCo := Lib.hid (contains_any w2 sp n cp ps HL.out (Sl.below HN.out (Nat.le_refl _) (HI2.out.below)) 58 #[.pointer (some ⟨w.heap.size, 0, none⟩)] (fun t => !decide (0 ≤ t ∧ t < c.v)) (Tn.cf Try.func58 (by kernel_rfl) (by kernel_rfl)) (fun t W hb => isNone_any W c t w.heap.size ((hb.block _ (Array.getElem?_eq_some_iff.1 HI2.out.cf).1).trans HI2.out.cf)))
          obtain ⟨B, hB⟩ : ∃ B, ps.any (fun t => !decide (0 ≤ t ∧ t < c.v)) = B := ⟨_, rfl⟩
          have hBp : B = true ↔ ∃ t ∈ ps, t < 0 ∨ c.v ≤ t := by
            rw [← hB, List.any_eq_true]
            constructor
            · rintro ⟨t, h1, h2⟩
              exact ⟨t, h1, by simp at h2; omega⟩
            · rintro ⟨t, h1, h2⟩
              exact ⟨t, h1, by simp; omega⟩
          rw [hB] at HCo
          have HBp := Lib.hid hBp
          clear hn0 hl1 hlo hE hx1 hx2 hn hB hBp HEe
          cases B with
          | true =>
            have HR : Hid (E = 10) := Lib.hid (by have := HEf.out; rw [if_pos (Or.inl (HBp.out.1 rfl))] at this; exact this.symm)
            clear HEf
            go_wp2_with (go_at_call 51; refine HCo.out.mono ?_; rintro e w3 ⟨rfl, hb3⟩; have HI3 := Lib.hid (HI2.out.later hb3); clear hb3)
            go_ret
            exact ⟨by rw [HR.out]; rfl, HI3.out.below⟩
          | false =>
            have hno : ¬ ∃ t ∈ ps, t < 0 ∨ c.v ≤ t := fun h => by have := HBp.out.2 h; cases this
            by_cases hk1 : k < 1
            · have d5 : decide (k < 1) = true := by simp [hk1]
              have HR : Hid (E = 10) := Lib.hid (by have := HEf.out; rw [if_pos (Or.inr (Or.inl hk1))] at this; exact this.symm)
              clear HEf hk1 hno
              go_wp2_with (go_at_call 51; refine HCo.out.mono ?_; rintro e w3 ⟨rfl, hb3⟩; have HI3 := Lib.hid (HI2.out.later hb3); clear hb3; replace a33 : w3.cell? ⟨w.heap.size + 1, 33, none⟩ = some (.int .i64 k) := by rw [cell_of_row _ _ _ _ _ _ HI3.out.as_]; exact h33)
              go_ret
              exact ⟨by rw [HR.out]; rfl, HI3.out.below⟩
            · have d5 : decide (k < 1) = false := by simp [hk1]
              by_cases hk2 : c.v < k
              · have d6 : decide (c.v < k) = true := by simp [hk2]
                have HR : Hid (E = 10) := Lib.hid (by have := HEf.out; rw [if_pos (Or.inr (Or.inr hk2))] at this; exact this.symm)
                clear HEf hk1 hk2 hno
                go_wp2_with (go_at_call 51; refine HCo.out.mono ?_; rintro e w3 ⟨rfl, hb3⟩; have HI3 := Lib.hid (HI2.out.later hb3); clear hb3; replace a33 : w3.cell? ⟨w.heap.size + 1, 33, none⟩ = some (.int .i64 k) := (by rw [cell_of_row _ _ _ _ _ _ HI3.out.as_]; exact h33); replace c0 : w3.cell? ⟨w.heap.size, 0, none⟩ = some (.int .i64 c.v) := (cfg_cells HI3.out.cf).1)
                go_ret
                exact ⟨by rw [HR.out]; rfl, HI3.out.below⟩
              · have d6 : decide (c.v < k) = false := by simp [hk2]
                have HR : Hid (E = 0) := Lib.hid (by have := HEf.out; rw [if_neg (by rintro (h | h | h); exact hno h; exact hk1 h; exact hk2 h)] at this; exact this.symm)
                clear HEf hk1 hk2 hno
                go_wp2_with (go_at_call 51; refine HCo.out.mono ?_; rintro e w3 ⟨rfl, hb3⟩; have HI3 := Lib.hid (HI2.out.later hb3); clear hb3; replace a33 : w3.cell? ⟨w.heap.size + 1, 33, none⟩ = some (.int .i64 k) := (by rw [cell_of_row _ _ _ _ _ _ HI3.out.as_]; exact h33); replace c0 : w3.cell? ⟨w.heap.size, 0, none⟩ = some (.int .i64 c.v) := (cfg_cells HI3.out.cf).1)
                go_ret
                exact ⟨by rw [HR.out]; rfl, HI3.out.below⟩
  · have n1 : (K == 0) = false := by simpa using hk0
    have n2 : (K != 0) = true := by simpa using hk0
    have HR : Hid (E = K) := Lib.hid (by have := HE.out; rw [if_pos hk0] at this; exact this.symm)
    clear hk0 HI
    go_wp2
    go_ret
    exact ⟨by rw [HR.out]; rfl, HI2.out.below⟩
end Go.Proofs.Ytdffbjjiojheoaa.St
