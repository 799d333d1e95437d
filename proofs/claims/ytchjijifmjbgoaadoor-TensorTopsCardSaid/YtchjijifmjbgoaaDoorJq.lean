import Derived.Test.YtchjijifmjbgoaaDoorJp
import Derived.Great.BuildSlice
namespace Go.Proofs.YtchjijifmjbgoaaDoor.Tn
set_option maxRecDepth 100000
open Go.ChangeShapes Go.WideShapes Go.ChangeAt Go.RowKit Go.Proofs.YtchjijifmjbgoaaDoor.Fx Go.Proofs.YtchjijifmjbgoaaDoor.Rf

/-! ### the landed code: what is ahead of what -/
def cmpI (x y : Int) : Int := if x < y then -1 else if y < x then 1 else 0
def orI (c d : Int) : Int := if c ≠ 0 then c else d
set_option maxHeartbeats 4000000 in
theorem nan_any (w : World) (x : Int) : Calls Tryd.prog 100 #[.int .i64 x] w fun e w' => e = .returned (.bool false) ∧ w = w' := by
  have hx : (x != x) = false := by simp
  go_enter Tryd.func100, Tryd.ntmps100
  go_wp2
  go_ret
  exact ⟨rfl, rfl⟩
set_option maxHeartbeats 4000000 in
theorem compare_any (w : World) (x y : Int) : Calls Tryd.prog 88 #[.int .i64 x, .int .i64 y] w fun e w' => e = .returned (.int .i64 (cmpI x y)) ∧ w = w' := by
  unfold cmpI
  by_cases h1 : x < y
  · rw [if_pos h1]
    have d1 : decide (x < y) = true := by simpa using h1
    go_enter Tryd.func88, Tryd.ntmps88
    go_wp2_with (go_at_call 100; refine (nan_any _ _).mono ?_; rintro e w' ⟨rfl, rfl⟩)
    go_ret
    exact ⟨rfl, rfl⟩
  · rw [if_neg h1]
    have d1 : decide (x < y) = false := by simpa using h1
    by_cases h2 : y < x
    · rw [if_pos h2]
      have d2 : decide (y < x) = true := by simpa using h2
      go_enter Tryd.func88, Tryd.ntmps88
      go_wp2_with (go_at_call 100; refine (nan_any _ _).mono ?_; rintro e w' ⟨rfl, rfl⟩)
      go_ret
      exact ⟨rfl, rfl⟩
    · rw [if_neg h2]
      have d2 : decide (y < x) = false := by simpa using h2
      go_enter Tryd.func88, Tryd.ntmps88
      go_wp2_with (go_at_call 100; refine (nan_any _ _).mono ?_; rintro e w' ⟨rfl, rfl⟩)
      go_ret
      exact ⟨rfl, rfl⟩
set_option maxHeartbeats 4000000 in
theorem or_any (w : World) (b : Nat) (c d : Int) (h0 : w.cell? ⟨b, 0, none⟩ = some (.int .i64 c)) (h1 : w.cell? ⟨b, 1, none⟩ = some (.int .i64 d)) : Calls Tryd.prog 87 #[.slice (some ⟨b, 0, none⟩) 2 2] w fun e w' => e = .returned (.int .i64 (orI c d)) ∧ w = w' := by
  have H0 := Lib.hid h0
  have H1 := Lib.hid h1
  have HO : Hid (c ≠ 0 → orI c d = c) := Lib.hid (fun h => by unfold orI; rw [if_pos h])
  have HO2 : Hid (c = 0 → orI c d = d) := Lib.hid (fun h => by unfold orI; rw [if_neg (fun hh => hh h)])
  obtain ⟨R, hR⟩ : ∃ R, orI c d = R := ⟨_, rfl⟩
  rw [hR] at HO HO2 ⊢
  clear h0 h1 hR
  go_enter Tryd.func87, Tryd.ntmps87
  go_wp2
  go_loop [8] (fun t => ∃ k : Nat, k ≤ 2 ∧ t = .int .i64 k ∧ (1 ≤ k → c = 0) ∧ (2 ≤ k → d = 0)) (fun t => 2 - (intOf t).toNat)
  case atStart => exact ⟨0, by omega, rfl, (fun h => absurd h (by omega)), (fun h => absurd h (by omega))⟩
  case round =>
    obtain ⟨k, hk, rfl, hc, hd⟩ := hrel
    have HC := Lib.hid hc
    have HD := Lib.hid hd
    clear hc hd
    rcases k with _ | _ | k
    · have hdt : decide (((0 : Nat) : Int) < 2) = true := by decide
      have h0 := H0.out
      by_cases hcz : c = 0
      · have hne : (c != 0) = false := by simpa using hcz
        have HZ := Lib.hid hcz
        clear hcz
        go_wp2
        go_round
        case rel => exact ⟨1, by omega, by rfl, (fun _ => HZ.out), (fun h => absurd h (by omega))⟩
        case measure => simp [intOf]
      · have hne := ne0 hcz
        have HR := Lib.hid (HO.out hcz)
        clear hcz
        go_wp2
        go_ret
        exact ⟨by rw [← HR.out]; rfl, rfl⟩
    · have hdt : decide (((1 : Nat) : Int) < 2) = true := by decide
      have h1 := H1.out
      have HR := Lib.hid (HO2.out (HC.out (by omega)))
      by_cases hdz : d = 0
      · have hne : (d != 0) = false := by simpa using hdz
        have HZ := Lib.hid hdz
        clear hdz
        go_wp2
        go_round
        case rel => exact ⟨2, by omega, by rfl, (fun _ => HC.out (by omega)), (fun _ => HZ.out)⟩
        case measure => simp [intOf]
      · have hne := ne0 hdz
        clear hdz
        go_wp2
        go_ret
        exact ⟨by rw [HR.out]; rfl, rfl⟩
    · obtain rfl : k = 0 := by omega
      have hdf : decide (((0 + 1 + 1 : Nat) : Int) < 2) = false := by decide
      have HR := Lib.hid (HO2.out (HC.out (by omega)))
      have HZ := Lib.hid (HD.out (by omega))
      go_wp2
      go_ret
      exact ⟨by rw [HR.out, HZ.out]; rfl, rfl⟩
/-- below 0: i is ahead of j -/
def cfI (l : List Int) (i j : Nat) : Int := orI (cmpI (l.getD j 0) (l.getD i 0)) (cmpI i j)
theorem cfI_lt {l : List Int} {i j : Nat} : cfI l i j < 0 ↔ ahead l i j := by
  unfold cfI ahead
  obtain ⟨x, hx⟩ : ∃ x, l.getD i 0 = x := ⟨_, rfl⟩
  obtain ⟨y, hy⟩ : ∃ y, l.getD j 0 = y := ⟨_, rfl⟩
  rw [hx, hy]
  unfold orI cmpI
  by_cases h1 : y < x
  · rw [if_pos h1, if_pos (by omega)]
    constructor
    · intro _; exact Or.inl h1
    · intro _; omega
  · rw [if_neg h1]
    by_cases h2 : x < y
    · rw [if_pos h2, if_pos (by omega)]
      constructor
      · intro h; omega
      · intro h; rcases h with h | h <;> omega
    · rw [if_neg h2, if_neg (by omega)]
      by_cases h3 : (i : Int) < (j : Int)
      · rw [if_pos h3]
        constructor
        · intro _; exact Or.inr ⟨by omega, by omega⟩
        · intro _; omega
      · rw [if_neg h3]
        constructor
        · intro h; split at h <;> omega
        · intro h; rcases h with h | h <;> omega
/-- a new block of two numbers -/
def NewP (_w : World) (c d : Int) (W : World) (v : Value) : Prop := ∃ g, v = .slice (some ⟨g, 0, none⟩) 2 2 ∧ W.heap[g]? = some (.cells #[.int .i64 c, .int .i64 d] 3 (0, 0))
theorem NewP.later {w W W' : World} {c d : Int} {v : Value} (h : NewP w c d W v) (hb : Below W.heap.size W W') : NewP w c d W' v := by
  obtain ⟨g, e, h0⟩ := h
  exact ⟨g, e, (hb.block _ (Array.getElem?_eq_some_iff.1 h0).1).trans h0⟩
/-- the address of a struct's field of one cell -/
theorem exec_fld {P : Program} {a : Act} {o : Oper} {W : World} (ty : TypeId) (fs : Array Field) (hu : P.underlying ty = some (.struct fs)) (k : Nat) (f : Field) (hf : fs[k]? = some f) (hs : (P.info? f.type).map (·.size) = some 1) (x : Operand) (ho : o.op = .fieldAddr ty x k) (g c : Nat) (hx : a.eval x = .pointer (some ⟨g, c, none⟩)) : (execOp a.eval o).run P W = .ok (.value (.pointer (some ⟨g, c + f.offset, none⟩))) W := by
  cases hq : P.info? f.type with
  | none => simp [hq] at hs
  | some j =>
    have hj : j.size = 1 := by simpa [hq] using hs
    unfold execOp
    simp [ho, hx, Instr.fieldAt, run_underlying hu, Instr.sureAddr, hf, fieldPlace, sizeOf, typeInfo, hq, hj, add_plain]
theorem exec_pairS {a : Act} {o : Oper} {W : World} (x y : Operand) (ho : o.op = .buildSlice 22 2 #[(0, x), (1, y)]) (c d : Int) (hx : a.eval x = .int .i64 c) (hy : a.eval y = .int .i64 d) : (execOp a.eval o).run Tryd.prog W = .ok (.value (.slice (some ⟨W.heap.size, 0, none⟩) 2 2)) (W.alloc (.cells #[.int .i64 c, .int .i64 d] 3)) := by
  obtain ⟨i0, hi, hz0, hz1, hz2⟩ := info_parts info3
  unfold execOp
  have hr := run_buildSlice (P := Tryd.prog) W 22 3 2 #[(0, .int .i64 c), (1, .int .i64 d)] #[.int .i64 c, .int .i64 d] i0 _ Tryd.underlying22 hi hz0 (by rw [hz1]; decide) (by rw [hz1]; decide) (by rw [hz1]; kernel_rfl)
  have e : (#[((0 : Nat), x), (1, y)].map fun (i, x) => (i, a.eval x)) = #[(0, .int .i64 c), (1, .int .i64 d)] := by simp [hx, hy]
  simp only [ho, e, Sem.run_bind, hr, Result.andThen_ok, Sem.run_pure]
set_option maxHeartbeats 4000000 in
theorem ord_any (w : World) (sp sq : Option Addr) (cap N n caq i j : Nat) (l : List Int) (hN : l.length = N) (hl : Nums w sp cap l) (hi : i < N) (hj : j < N) :
    Calls Tryd.prog 78 #[.agg #[.slice sp N cap, .slice sq n caq], .int .i64 i, .int .i64 j] w fun e w' => e = .returned (.int .i64 (cfI l i j)) ∧ Below w.heap.size w w' := by
  obtain ⟨c, o, rfl, hci⟩ := hl.at_ i (by omega)
  obtain ⟨c', o', e, hcj⟩ := hl.at_ j (by omega)
  cases e
  have hlt := block_lt_of_cell hci
  unfold cfI
  obtain ⟨x, hx⟩ : ∃ x, l.getD i 0 = x := ⟨_, rfl⟩
  obtain ⟨y, hy⟩ : ∃ y, l.getD j 0 = y := ⟨_, rfl⟩
  rw [hx] at hci ⊢
  rw [hy] at hcj ⊢
  obtain ⟨c1, hc1⟩ : ∃ c1, cmpI y x = c1 := ⟨_, rfl⟩
  obtain ⟨c2, hc2⟩ : ∃ c2, cmpI (i : Int) (j : Int) = c2 := ⟨_, rfl⟩
  have HC1 := Lib.hid (fun W => compare_any W y x)
  have HC2 := Lib.hid (fun W => compare_any W (i : Int) (j : Int))
  rw [hc1] at HC1 ⊢
  rw [hc2] at HC2 ⊢
  have HOr := Lib.hid (fun W b h0 h1 => or_any W b c1 c2 h0 h1)
  obtain ⟨R, hR⟩ : ∃ R, orI c1 c2 = R := ⟨_, rfl⟩
  rw [hR] at HOr ⊢
  have HI := Lib.hid hci
  have HJ := Lib.hid hcj
  clear hl hN hx hy hc1 hc2 hR hci hcj
  go_enter Tryd.func78, Tryd.ntmps78
  go_upto_region 1 with fail
  refine gen_world (Q := fun w => Code.wp _ _ _ _ w) _ (fun W => Below w.heap.size w W ∧ W.heap[w.heap.size]? = some (.cells #[.slice (some ⟨c, o, none⟩) N cap, .slice sq n caq] 83 (0, 0))) ⟨(Below.refl _ _).alloc (Nat.le_refl _) _, heap_alloc_new _ _⟩ ?_
  rintro w1 ⟨hb1, hr1⟩
  have HB1 := Lib.hid hb1
  have HI1 := Lib.hid ((hb1.cell (p := ⟨c, o + i, none⟩) hlt).trans HI.out)
  have HJ1 := Lib.hid ((hb1.cell (p := ⟨c, o + j, none⟩) hlt).trans HJ.out)
  have HF1 : Hid (w1.cell? ⟨w.heap.size, 0, none⟩ = some (.slice (some ⟨c, o, none⟩) N cap)) := Lib.hid (by rw [cell_of_row _ _ _ _ _ _ hr1]; rfl)
  have HLt := Lib.hid (Array.getElem?_eq_some_iff.1 hr1).1
  clear hb1 hr1
  refine wp_region_spec (C := fun W => Below w1.heap.size w1 W) (Le := fun W W' => Below W.heap.size W W') 16 (fun u q W v => (q = 14 → NewP w1 c1 c2 W v) ∧ (q ≠ 14 → v = ([.pointer (some ⟨w.heap.size, 0, none⟩), .slice (some ⟨c, o, none⟩) N cap, .int .i64 (j : Int), .pointer (some ⟨c, o + j, none⟩), .int .i64 y, .pointer (some ⟨w.heap.size, 0, none⟩), .slice (some ⟨c, o, none⟩) N cap, .int .i64 (i : Int), .pointer (some ⟨c, o + i, none⟩), .int .i64 x, .int .i64 c1, .int .i64 (i : Int), .int .i64 (j : Int), .int .i64 c2, undef, .int .i64 R] : List Value).getD q undef)) (by kernel_rfl) (by kernel_rfl) ⟨rfl, rfl, rfl, Nat.le_refl _, fun _ _ => rfl⟩ (fun _ _ _ _ _ _ h => h) (fun _ _ _ _ _ hb h => ⟨fun e => (h.1 e).later hb, h.2⟩) (fun q v => q ≠ 14 → v = ([.pointer (some ⟨w.heap.size, 0, none⟩), .slice (some ⟨c, o, none⟩) N cap, .int .i64 (j : Int), .pointer (some ⟨c, o + j, none⟩), .int .i64 y, .pointer (some ⟨w.heap.size, 0, none⟩), .slice (some ⟨c, o, none⟩) N cap, .int .i64 (i : Int), .pointer (some ⟨c, o + i, none⟩), .int .i64 x, .int .i64 c1, .int .i64 (i : Int), .int .i64 (j : Int), .int .i64 c2, undef, .int .i64 R] : List Value).getD q undef) (fun _ _ _ _ h => h.2) (fun q => ([.pointer (some ⟨w.heap.size, 0, none⟩), .slice (some ⟨c, o, none⟩) N cap, .int .i64 (j : Int), .pointer (some ⟨c, o + j, none⟩), .int .i64 y, .pointer (some ⟨w.heap.size, 0, none⟩), .slice (some ⟨c, o, none⟩) N cap, .int .i64 (i : Int), .pointer (some ⟨c, o + i, none⟩), .int .i64 x, .int .i64 c1, .int .i64 (i : Int), .int .i64 (j : Int), .int .i64 c2, undef, .int .i64 R] : List Value).getD q undef) (fun _ _ => rfl) ?_ ?_
  · intro u hu
    have h0 : u 0 = .pointer (some ⟨w.heap.size, 0, none⟩) := hu 0 (by decide)
    have h1 : u 1 = .slice (some ⟨c, o, none⟩) N cap := hu 1 (by decide)
    have h2 : u 2 = .int .i64 (j : Int) := hu 2 (by decide)
    have h3 : u 3 = .pointer (some ⟨c, o + j, none⟩) := hu 3 (by decide)
    have h4 : u 4 = .int .i64 y := hu 4 (by decide)
    have h5 : u 5 = .pointer (some ⟨w.heap.size, 0, none⟩) := hu 5 (by decide)
    have h6 : u 6 = .slice (some ⟨c, o, none⟩) N cap := hu 6 (by decide)
    have h7 : u 7 = .int .i64 (i : Int) := hu 7 (by decide)
    have h8 : u 8 = .pointer (some ⟨c, o + i, none⟩) := hu 8 (by decide)
    have h9 : u 9 = .int .i64 x := hu 9 (by decide)
    have h10 : u 10 = .int .i64 c1 := hu 10 (by decide)
    have h11 : u 11 = .int .i64 (i : Int) := hu 11 (by decide)
    have h12 : u 12 = .int .i64 (j : Int) := hu 12 (by decide)
    have h13 : u 13 = .int .i64 c2 := hu 13 (by decide)
    have h15 : u 15 = .int .i64 R := hu 15 (by decide)
    simp only [List.take_succ_cons, List.take_zero]
    refine spec_cons (fun W hC hd => ⟨by rfl, ?_⟩) ?_
    · exact gives_val (.pointer (some ⟨w.heap.size, 0, none⟩)) W (exec_fld 83 _ Tryd.underlying83 0 _ rfl size22 (.tmp 3) rfl w.heap.size 0 rfl) ⟨hC, Below.refl _ _, (fun h => absurd h (by decide)), fun _ => rfl⟩
    simp only [Act.put, List.setIfInBounds_toArray, List.set_cons_succ, List.set_cons_zero, Nat.reduceAdd]
    rw [h0]
    refine spec_cons (fun W hC hd => ⟨by rfl, ?_⟩) ?_
    · exact gives_val (.slice (some ⟨c, o, none⟩) N cap) W (exec_load1 22 (.tmp 7) rfl ⟨w.heap.size, 0, none⟩ rfl _ (below_cell hC HF1.out) _ Tryd.underlying22 rfl) ⟨hC, Below.refl _ _, (fun h => absurd h (by decide)), fun _ => rfl⟩
    simp only [Act.put, List.setIfInBounds_toArray, List.set_cons_succ, List.set_cons_zero, Nat.reduceAdd]
    rw [h1]
    refine spec_cons (fun W hC hd => ⟨by rfl, ?_⟩) ?_
    · exact gives_val (.int .i64 (j : Int)) W (rfl) ⟨hC, Below.refl _ _, (fun h => absurd h (by decide)), fun _ => rfl⟩
    simp only [Act.put, List.setIfInBounds_toArray, List.set_cons_succ, List.set_cons_zero, Nat.reduceAdd]
    rw [h2]
    refine spec_cons (fun W hC hd => ⟨by rfl, ?_⟩) ?_
    · exact gives_val (.pointer (some ⟨c, o + j, none⟩)) W (exec_at1 22 3 Tryd.underlying22 size3 (.tmp 8) (.tmp 9) rfl c o N cap j rfl rfl hj) ⟨hC, Below.refl _ _, (fun h => absurd h (by decide)), fun _ => rfl⟩
    simp only [Act.put, List.setIfInBounds_toArray, List.set_cons_succ, List.set_cons_zero, Nat.reduceAdd]
    rw [h3]
    refine spec_cons (fun W hC hd => ⟨by rfl, ?_⟩) ?_
    · exact gives_val (.int .i64 y) W (exec_load1 3 (.tmp 10) rfl ⟨c, o + j, none⟩ rfl _ (below_cell hC HJ1.out) _ Tryd.underlying3 rfl) ⟨hC, Below.refl _ _, (fun h => absurd h (by decide)), fun _ => rfl⟩
    simp only [Act.put, List.setIfInBounds_toArray, List.set_cons_succ, List.set_cons_zero, Nat.reduceAdd]
    rw [h4]
    refine spec_cons (fun W hC hd => ⟨by rfl, ?_⟩) ?_
    · exact gives_val (.pointer (some ⟨w.heap.size, 0, none⟩)) W (exec_fld 83 _ Tryd.underlying83 0 _ rfl size22 (.tmp 3) rfl w.heap.size 0 rfl) ⟨hC, Below.refl _ _, (fun h => absurd h (by decide)), fun _ => rfl⟩
    simp only [Act.put, List.setIfInBounds_toArray, List.set_cons_succ, List.set_cons_zero, Nat.reduceAdd]
    rw [h5]
    refine spec_cons (fun W hC hd => ⟨by rfl, ?_⟩) ?_
    · exact gives_val (.slice (some ⟨c, o, none⟩) N cap) W (exec_load1 22 (.tmp 12) rfl ⟨w.heap.size, 0, none⟩ rfl _ (below_cell hC HF1.out) _ Tryd.underlying22 rfl) ⟨hC, Below.refl _ _, (fun h => absurd h (by decide)), fun _ => rfl⟩
    simp only [Act.put, List.setIfInBounds_toArray, List.set_cons_succ, List.set_cons_zero, Nat.reduceAdd]
    rw [h6]
    refine spec_cons (fun W hC hd => ⟨by rfl, ?_⟩) ?_
    · exact gives_val (.int .i64 (i : Int)) W (rfl) ⟨hC, Below.refl _ _, (fun h => absurd h (by decide)), fun _ => rfl⟩
    simp only [Act.put, List.setIfInBounds_toArray, List.set_cons_succ, List.set_cons_zero, Nat.reduceAdd]
    rw [h7]
    refine spec_cons (fun W hC hd => ⟨by rfl, ?_⟩) ?_
    · exact gives_val (.pointer (some ⟨c, o + i, none⟩)) W (exec_at1 22 3 Tryd.underlying22 size3 (.tmp 13) (.tmp 14) rfl c o N cap i rfl rfl hi) ⟨hC, Below.refl _ _, (fun h => absurd h (by decide)), fun _ => rfl⟩
    simp only [Act.put, List.setIfInBounds_toArray, List.set_cons_succ, List.set_cons_zero, Nat.reduceAdd]
    rw [h8]
    refine spec_cons (fun W hC hd => ⟨by rfl, ?_⟩) ?_
    · exact gives_val (.int .i64 x) W (exec_load1 3 (.tmp 15) rfl ⟨c, o + i, none⟩ rfl _ (below_cell hC HI1.out) _ Tryd.underlying3 rfl) ⟨hC, Below.refl _ _, (fun h => absurd h (by decide)), fun _ => rfl⟩
    simp only [Act.put, List.setIfInBounds_toArray, List.set_cons_succ, List.set_cons_zero, Nat.reduceAdd]
    rw [h9]
    refine spec_cons (fun W hC hd => ⟨by rfl, ?_⟩) ?_
    · exact gives_call _ _ (exec_call2 88 (.tmp 11) (.tmp 16) #[3, 3] _ _ rfl rfl rfl (cf Tryd.func88 (by kernel_rfl) (by kernel_rfl) _ _)) ((HC1.out W).mono fun e W' h => ⟨_, h.1, by rw [← h.2]; exact hC, by rw [← h.2]; exact Below.refl _ _, (fun h => absurd h (by decide)), fun _ => rfl⟩)
    simp only [Act.put, List.setIfInBounds_toArray, List.set_cons_succ, List.set_cons_zero, Nat.reduceAdd]
    rw [h10]
    refine spec_cons (fun W hC hd => ⟨by rfl, ?_⟩) ?_
    · exact gives_val (.int .i64 (i : Int)) W (rfl) ⟨hC, Below.refl _ _, (fun h => absurd h (by decide)), fun _ => rfl⟩
    simp only [Act.put, List.setIfInBounds_toArray, List.set_cons_succ, List.set_cons_zero, Nat.reduceAdd]
    rw [h11]
    refine spec_cons (fun W hC hd => ⟨by rfl, ?_⟩) ?_
    · exact gives_val (.int .i64 (j : Int)) W (rfl) ⟨hC, Below.refl _ _, (fun h => absurd h (by decide)), fun _ => rfl⟩
    simp only [Act.put, List.setIfInBounds_toArray, List.set_cons_succ, List.set_cons_zero, Nat.reduceAdd]
    rw [h12]
    refine spec_cons (fun W hC hd => ⟨by rfl, ?_⟩) ?_
    · exact gives_call _ _ (exec_call2 88 (.tmp 18) (.tmp 19) #[3, 3] _ _ rfl rfl rfl (cf Tryd.func88 (by kernel_rfl) (by kernel_rfl) _ _)) ((HC2.out W).mono fun e W' h => ⟨_, h.1, by rw [← h.2]; exact hC, by rw [← h.2]; exact Below.refl _ _, (fun h => absurd h (by decide)), fun _ => rfl⟩)
    simp only [Act.put, List.setIfInBounds_toArray, List.set_cons_succ, List.set_cons_zero, Nat.reduceAdd]
    rw [h13]
    refine spec_cons (fun W hC hd => ⟨by rfl, ?_⟩) ?_
    · exact gives_val _ _ (exec_pairS (.tmp 17) (.tmp 20) rfl c1 c2 rfl rfl) ⟨hC.alloc hC.size _, (Below.refl _ _).alloc (Nat.le_refl _) _, (fun _ => ⟨_, rfl, heap_alloc_new _ _⟩), fun h => absurd rfl h⟩
    simp only [Act.put, List.setIfInBounds_toArray, List.set_cons_succ, List.set_cons_zero, Nat.reduceAdd]
    refine spec_cons (fun W hC hd => ⟨by rfl, ?_⟩) ?_
    · obtain ⟨g, hg, hgr⟩ := (hd ⟨14, .data⟩ (by simp) rfl).1 rfl
      have z0 : W.cell? ⟨g, 0, none⟩ = some (.int .i64 c1) := by rw [cell_of_row _ _ _ _ _ _ hgr]; rfl
      have z1 : W.cell? ⟨g, 1, none⟩ = some (.int .i64 c2) := by rw [cell_of_row _ _ _ _ _ _ hgr]; rfl
      exact gives_call _ _ (exec_call1 87 (.tmp 21) #[22] (.slice (some ⟨g, 0, none⟩) 2 2) rfl hg (cf Tryd.func87 (by kernel_rfl) (by kernel_rfl) _ _)) ((HOr.out W g z0 z1).mono fun e W' h => ⟨_, h.1, by rw [← h.2]; exact hC, by rw [← h.2]; exact Below.refl _ _, (fun h => absurd h (by decide)), fun _ => rfl⟩)
    simp only [Act.put, List.setIfInBounds_toArray, List.set_cons_succ, List.set_cons_zero, Nat.reduceAdd]
    rw [h15]
    exact spec_nil
  intro u W hu hC _
  have h0 : u 0 = .pointer (some ⟨w.heap.size, 0, none⟩) := hu 0 (by decide)
  have h1 : u 1 = .slice (some ⟨c, o, none⟩) N cap := hu 1 (by decide)
  have h2 : u 2 = .int .i64 (j : Int) := hu 2 (by decide)
  have h3 : u 3 = .pointer (some ⟨c, o + j, none⟩) := hu 3 (by decide)
  have h4 : u 4 = .int .i64 y := hu 4 (by decide)
  have h5 : u 5 = .pointer (some ⟨w.heap.size, 0, none⟩) := hu 5 (by decide)
  have h6 : u 6 = .slice (some ⟨c, o, none⟩) N cap := hu 6 (by decide)
  have h7 : u 7 = .int .i64 (i : Int) := hu 7 (by decide)
  have h8 : u 8 = .pointer (some ⟨c, o + i, none⟩) := hu 8 (by decide)
  have h9 : u 9 = .int .i64 x := hu 9 (by decide)
  have h10 : u 10 = .int .i64 c1 := hu 10 (by decide)
  have h11 : u 11 = .int .i64 (i : Int) := hu 11 (by decide)
  have h12 : u 12 = .int .i64 (j : Int) := hu 12 (by decide)
  have h13 : u 13 = .int .i64 c2 := hu 13 (by decide)
  have h15 : u 15 = .int .i64 R := hu 15 (by decide)
  simp only [List.take_succ_cons, List.take_zero, List.drop_succ_cons, List.drop_zero, putAll, Act.put, List.setIfInBounds_toArray, List.set_cons_succ, List.set_cons_zero, Nat.reduceAdd]
  rw [h0, h1, h2, h3, h4, h5, h6, h7, h8, h9, h10, h11, h12, h13, h15]
  clear hu h0 h1 h2 h3 h4 h5 h6 h7 h8 h9 h10 h11 h12 h13 h15
  have HB := Lib.hid (HB1.out.trans (hC.mono HB1.out.size))
  clear hC
  go_wp2
  go_ret
  exact ⟨rfl, HB.out⟩
end Go.Proofs.YtchjijifmjbgoaaDoor.Tn
