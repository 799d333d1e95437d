import Derived.Test.YtmolkbmdfkeniaaDoorTb
import Derived.Great.BuildSlice
import Derived.Lib.QuietBelow
import Derived.Shelf.RegionOpenPlain
import Derived.Sort.Defs
import Derived.Sort.LotA
-- from Jq
namespace Go.Proofs.YtmolkbmdfkeniaaDoor.Tn
set_option maxRecDepth 100000
open Go.ChangeShapes Go.WideShapes Go.ChangeAt Go.RowKit Go.Proofs.YtmolkbmdfkeniaaDoor.Fx Go.Proofs.YtmolkbmdfkeniaaDoor.Rf
/-! ### the landed code: what is ahead of what -/
def cmpI (x y : Int) : Int := if x < y then -1 else if y < x then 1 else 0
def orI (c d : Int) : Int := if c ≠ 0 then c else d
set_option maxHeartbeats 4000000 in
theorem nan_any (w : World) (x : Int) : Calls Tryd.prog 95 #[.int .i64 x] w fun e w' => e = .returned (.bool false) ∧ w = w' := by
  have hx : (x != x) = false := by simp
  go_enter Tryd.func95, Tryd.ntmps95
  go_wp2
  go_ret
  exact ⟨rfl, rfl⟩
set_option maxHeartbeats 4000000 in
theorem compare_any (w : World) (x y : Int) : Calls Tryd.prog 82 #[.int .i64 x, .int .i64 y] w fun e w' => e = .returned (.int .i64 (cmpI x y)) ∧ w = w' := by
  unfold cmpI
  by_cases h1 : x < y
  · rw [if_pos h1]
    have d1 : decide (x < y) = true := by simpa using h1
    go_enter Tryd.func82, Tryd.ntmps82
    go_wp2_with (go_at_call 95; refine (nan_any _ _).mono ?_; rintro e w' ⟨rfl, rfl⟩)
    go_ret
    exact ⟨rfl, rfl⟩
  · rw [if_neg h1]
    have d1 : decide (x < y) = false := by simpa using h1
    by_cases h2 : y < x
    · rw [if_pos h2]
      have d2 : decide (y < x) = true := by simpa using h2
      go_enter Tryd.func82, Tryd.ntmps82
      go_wp2_with (go_at_call 95; refine (nan_any _ _).mono ?_; rintro e w' ⟨rfl, rfl⟩)
      go_ret
      exact ⟨rfl, rfl⟩
    · rw [if_neg h2]
      have d2 : decide (y < x) = false := by simpa using h2
      go_enter Tryd.func82, Tryd.ntmps82
      go_wp2_with (go_at_call 95; refine (nan_any _ _).mono ?_; rintro e w' ⟨rfl, rfl⟩)
      go_ret
      exact ⟨rfl, rfl⟩
set_option maxHeartbeats 4000000 in
theorem or_any (w : World) (b : Nat) (c d : Int) (h0 : w.cell? ⟨b, 0, none⟩ = some (.int .i64 c)) (h1 : w.cell? ⟨b, 1, none⟩ = some (.int .i64 d)) : Calls Tryd.prog 81 #[.slice (some ⟨b, 0, none⟩) 2 2] w fun e w' => e = .returned (.int .i64 (orI c d)) ∧ w = w' := by
  have H0 := Lib.hid h0
  have H1 := Lib.hid h1
  have HO : Hid (c ≠ 0 → orI c d = c) := Lib.hid (fun h => by unfold orI; rw [if_pos h])
  have HO2 : Hid (c = 0 → orI c d = d) := Lib.hid (fun h => by unfold orI; rw [if_neg (fun hh => hh h)])
  obtain ⟨R, hR⟩ : ∃ R, orI c d = R := ⟨_, rfl⟩
  rw [hR] at HO HO2 ⊢
  clear h0 h1 hR
  go_enter Tryd.func81, Tryd.ntmps81
  go_wp2
  go_loop [8] (fun t => ∃ k : Nat, k ≤ 2 ∧ t = .int .i64 k ∧ (1 ≤ k → c = 0) ∧ (2 ≤ k → d = 0)) (fun t => 2 - (intOf t).toNat)
  case atStart => exact ⟨0, by omega, rfl, (fun h => absurd h (by omega)), (fun h => absurd h (by omega))⟩
  case round =>
    obtain ⟨k, hk, rfl, hc, hd⟩ := hrel
    have HC := Lib.hid hc
    have HD := Lib.hid hd
    clear hc hd
    rcases k with _ | _ | k
    · have hdt : decide (((0 : Nat) : Int) < 2) = true := by decide
      have h0 := H0.out
      by_cases hcz : c = 0
      · have hne : (c != 0) = false := by simpa using hcz
        have HZ := Lib.hid hcz
        clear hcz
        go_wp2
        go_round
        case rel => exact ⟨1, by omega, by rfl, (fun _ => HZ.out), (fun h => absurd h (by omega))⟩
        case measure => simp [intOf]
      · have hne := ne0 hcz
        have HR := Lib.hid (HO.out hcz)
        clear hcz
        go_wp2
        go_ret
        exact ⟨by rw [← HR.out]; rfl, rfl⟩
    · have hdt : decide (((1 : Nat) : Int) < 2) = true := by decide
      have h1 := H1.out
      have HR := Lib.hid (HO2.out (HC.out (by omega)))
      by_cases hdz : d = 0
      · have hne : (d != 0) = false := by simpa using hdz
        have HZ := Lib.hid hdz
        clear hdz
        go_wp2
        go_round
        case rel => exact ⟨2, by omega, by rfl, (fun _ => HC.out (by omega)), (fun _ => HZ.out)⟩
        case measure => simp [intOf]
      · have hne := ne0 hdz
        clear hdz
        go_wp2
        go_ret
        exact ⟨by rw [HR.out]; rfl, rfl⟩
    · obtain rfl : k = 0 := by omega
      have hdf : decide (((0 + 1 + 1 : Nat) : Int) < 2) = false := by decide
      have HR := Lib.hid (HO2.out (HC.out (by omega)))
      have HZ := Lib.hid (HD.out (by omega))
      go_wp2
      go_ret
      exact ⟨by rw [HR.out, HZ.out]; rfl, rfl⟩
/-- below 0: i is ahead of j -/
def cfI (l : List Int) (i j : Nat) : Int := orI (cmpI (l.getD j 0) (l.getD i 0)) (cmpI i j)
theorem cfI_lt {l : List Int} {i j : Nat} : cfI l i j < 0 ↔ ahead l i j := by
  unfold cfI ahead
  obtain ⟨x, hx⟩ : ∃ x, l.getD i 0 = x := ⟨_, rfl⟩
  obtain ⟨y, hy⟩ : ∃ y, l.getD j 0 = y := ⟨_, rfl⟩
  rw [hx, hy]
  unfold orI cmpI
  by_cases h1 : y < x
  · rw [if_pos h1, if_pos (by omega)]
    constructor
    · intro _; exact Or.inl h1
    · intro _; omega
  · rw [if_neg h1]
    by_cases h2 : x < y
    · rw [if_pos h2, if_pos (by omega)]
      constructor
      · intro h; omega
      · intro h; rcases h with h | h <;> omega
    · rw [if_neg h2, if_neg (by omega)]
      by_cases h3 : (i : Int) < (j : Int)
      · rw [if_pos h3]
        constructor
        · intro _; exact Or.inr ⟨by omega, by omega⟩
        · intro _; omega
      · rw [if_neg h3]
        constructor
        · intro h; split at h <;> omega
        · intro h; rcases h with h | h <;> omega
/-- a new block of two numbers -/
def NewP (_w : World) (c d : Int) (W : World) (v : Value) : Prop := ∃ g, v = .slice (some ⟨g, 0, none⟩) 2 2 ∧ W.heap[g]? = some (.cells #[.int .i64 c, .int .i64 d] 3 (0, 0))
theorem NewP.later {w W W' : World} {c d : Int} {v : Value} (h : NewP w c d W v) (hb : Below W.heap.size W W') : NewP w c d W' v := by
  obtain ⟨g, e, h0⟩ := h
  exact ⟨g, e, (hb.block _ (Array.getElem?_eq_some_iff.1 h0).1).trans h0⟩
/-- the address of a struct's field of one cell -/
theorem exec_fld {P : Program} {a : Act} {o : Oper} {W : World} (ty : TypeId) (fs : Array Field) (hu : P.underlying ty = some (.struct fs)) (k : Nat) (f : Field) (hf : fs[k]? = some f) (hs : (P.info? f.type).map (·.size) = some 1) (x : Operand) (ho : o.op = .fieldAddr ty x k) (g c : Nat) (hx : a.eval x = .pointer (some ⟨g, c, none⟩)) : (execOp a.eval o).run P W = .ok (.value (.pointer (some ⟨g, c + f.offset, none⟩))) W := by
  cases hq : P.info? f.type with
  | none => simp [hq] at hs
  | some j =>
    have hj : j.size = 1 := by simpa [hq] using hs
    unfold execOp
    simp [ho, hx, Instr.fieldAt, run_underlying hu, Instr.sureAddr, hf, fieldPlace, sizeOf, typeInfo, hq, hj, add_plain]
theorem exec_pairS {a : Act} {o : Oper} {W : World} (x y : Operand) (ho : o.op = .buildSlice 39 2 #[(0, x), (1, y)]) (c d : Int) (hx : a.eval x = .int .i64 c) (hy : a.eval y = .int .i64 d) : (execOp a.eval o).run Tryd.prog W = .ok (.value (.slice (some ⟨W.heap.size, 0, none⟩) 2 2)) (W.alloc (.cells #[.int .i64 c, .int .i64 d] 3)) := by
  obtain ⟨i0, hi, hz0, hz1, hz2⟩ := info_parts info3
  unfold execOp
  have hr := run_buildSlice (P := Tryd.prog) W 39 3 2 #[(0, .int .i64 c), (1, .int .i64 d)] #[.int .i64 c, .int .i64 d] i0 _ Tryd.underlying39 hi hz0 (by rw [hz1]; decide) (by rw [hz1]; decide) (by rw [hz1]; kernel_rfl)
  have e : (#[((0 : Nat), x), (1, y)].map fun (i, x) => (i, a.eval x)) = #[(0, .int .i64 c), (1, .int .i64 d)] := by simp [hx, hy]
  simp only [ho, e, Sem.run_bind, hr, Result.andThen_ok, Sem.run_pure]
set_option maxHeartbeats 4000000 in
theorem ord_any (w : World) (sp sq : Option Addr) (cap N n caq i j : Nat) (l : List Int) (hN : l.length = N) (hl : Nums w sp cap l) (hi : i < N) (hj : j < N) :
    Calls Tryd.prog 71 #[.agg #[.slice sp N cap, .slice sq n caq], .int .i64 i, .int .i64 j] w fun e w' => e = .returned (.int .i64 (cfI l i j)) ∧ Below w.heap.size w w' := by
  obtain ⟨c, o, rfl, hci⟩ := hl.at_ i (by omega)
  obtain ⟨c', o', e, hcj⟩ := hl.at_ j (by omega)
  cases e
  have hlt := block_lt_of_cell hci
  unfold cfI
  obtain ⟨x, hx⟩ : ∃ x, l.getD i 0 = x := ⟨_, rfl⟩
  obtain ⟨y, hy⟩ : ∃ y, l.getD j 0 = y := ⟨_, rfl⟩
  rw [hx] at hci ⊢
  rw [hy] at hcj ⊢
  obtain ⟨c1, hc1⟩ : ∃ c1, cmpI y x = c1 := ⟨_, rfl⟩
  obtain ⟨c2, hc2⟩ : ∃ c2, cmpI (i : Int) (j : Int) = c2 := ⟨_, rfl⟩
  have HC1 := Lib.hid (fun W => compare_any W y x)
  have HC2 := Lib.hid (fun W => compare_any W (i : Int) (j : Int))
  rw [hc1] at HC1 ⊢
  rw [hc2] at HC2 ⊢
  have HOr := Lib.hid (fun W b h0 h1 => or_any W b c1 c2 h0 h1)
  obtain ⟨R, hR⟩ : ∃ R, orI c1 c2 = R := ⟨_, rfl⟩
  rw [hR] at HOr ⊢
  have HI := Lib.hid hci
  have HJ := Lib.hid hcj
  clear hl hN hx hy hc1 hc2 hR hci hcj
  go_enter Tryd.func71, Tryd.ntmps71
  go_upto_region 1 with fail
  refine gen_world (Q := fun w => Code.wp _ _ _ _ w) _ (fun W => Below w.heap.size w W ∧ W.heap[w.heap.size]? = some (.cells #[.slice (some ⟨c, o, none⟩) N cap, .slice sq n caq] 100 (0, 0))) ⟨(Below.refl _ _).alloc (Nat.le_refl _) _, heap_alloc_new _ _⟩ ?_
  rintro w1 ⟨hb1, hr1⟩
  have HB1 := Lib.hid hb1
  have HI1 := Lib.hid ((hb1.cell (p := ⟨c, o + i, none⟩) hlt).trans HI.out)
  have HJ1 := Lib.hid ((hb1.cell (p := ⟨c, o + j, none⟩) hlt).trans HJ.out)
  have HF1 : Hid (w1.cell? ⟨w.heap.size, 0, none⟩ = some (.slice (some ⟨c, o, none⟩) N cap)) := Lib.hid (by rw [cell_of_row _ _ _ _ _ _ hr1]; rfl)
  have HLt := Lib.hid (Array.getElem?_eq_some_iff.1 hr1).1
  clear hb1 hr1
  refine wp_region_spec (C := fun W => Below w1.heap.size w1 W) (Le := fun W W' => Below W.heap.size W W') 16 (fun u q W v => (q = 14 → NewP w1 c1 c2 W v) ∧ (q ≠ 14 → v = ([.pointer (some ⟨w.heap.size, 0, none⟩), .slice (some ⟨c, o, none⟩) N cap, .int .i64 (j : Int), .pointer (some ⟨c, o + j, none⟩), .int .i64 y, .pointer (some ⟨w.heap.size, 0, none⟩), .slice (some ⟨c, o, none⟩) N cap, .int .i64 (i : Int), .pointer (some ⟨c, o + i, none⟩), .int .i64 x, .int .i64 c1, .int .i64 (i : Int), .int .i64 (j : Int), .int .i64 c2, undef, .int .i64 R] : List Value).getD q undef)) (by kernel_rfl) (by kernel_rfl) ⟨rfl, rfl, rfl, Nat.le_refl _, fun _ _ => rfl⟩ (fun _ _ _ _ _ _ h => h) (fun _ _ _ _ _ hb h => ⟨fun e => (h.1 e).later hb, h.2⟩) (fun q v => q ≠ 14 → v = ([.pointer (some ⟨w.heap.size, 0, none⟩), .slice (some ⟨c, o, none⟩) N cap, .int .i64 (j : Int), .pointer (some ⟨c, o + j, none⟩), .int .i64 y, .pointer (some ⟨w.heap.size, 0, none⟩), .slice (some ⟨c, o, none⟩) N cap, .int .i64 (i : Int), .pointer (some ⟨c, o + i, none⟩), .int .i64 x, .int .i64 c1, .int .i64 (i : Int), .int .i64 (j : Int), .int .i64 c2, undef, .int .i64 R] : List Value).getD q undef) (fun _ _ _ _ h => h.2) (fun q => ([.pointer (some ⟨w.heap.size, 0, none⟩), .slice (some ⟨c, o, none⟩) N cap, .int .i64 (j : Int), .pointer (some ⟨c, o + j, none⟩), .int .i64 y, .pointer (some ⟨w.heap.size, 0, none⟩), .slice (some ⟨c, o, none⟩) N cap, .int .i64 (i : Int), .pointer (some ⟨c, o + i, none⟩), .int .i64 x, .int .i64 c1, .int .i64 (i : Int), .int .i64 (j : Int), .int .i64 c2, undef, .int .i64 R] : List Value).getD q undef) (fun _ _ => rfl) ?_ ?_
  · intro u hu
    have h0 : u 0 = .pointer (some ⟨w.heap.size, 0, none⟩) := hu 0 (by decide)
    have h1 : u 1 = .slice (some ⟨c, o, none⟩) N cap := hu 1 (by decide)
    have h2 : u 2 = .int .i64 (j : Int) := hu 2 (by decide)
    have h3 : u 3 = .pointer (some ⟨c, o + j, none⟩) := hu 3 (by decide)
    have h4 : u 4 = .int .i64 y := hu 4 (by decide)
    have h5 : u 5 = .pointer (some ⟨w.heap.size, 0, none⟩) := hu 5 (by decide)
    have h6 : u 6 = .slice (some ⟨c, o, none⟩) N cap := hu 6 (by decide)
    have h7 : u 7 = .int .i64 (i : Int) := hu 7 (by decide)
    have h8 : u 8 = .pointer (some ⟨c, o + i, none⟩) := hu 8 (by decide)
    have h9 : u 9 = .int .i64 x := hu 9 (by decide)
    have h10 : u 10 = .int .i64 c1 := hu 10 (by decide)
    have h11 : u 11 = .int .i64 (i : Int) := hu 11 (by decide)
    have h12 : u 12 = .int .i64 (j : Int) := hu 12 (by decide)
    have h13 : u 13 = .int .i64 c2 := hu 13 (by decide)
    have h15 : u 15 = .int .i64 R := hu 15 (by decide)
    simp only [List.take_succ_cons, List.take_zero]
    refine spec_cons (fun W hC hd => ⟨by rfl, ?_⟩) ?_
    · exact gives_val (.pointer (some ⟨w.heap.size, 0, none⟩)) W (exec_fld 100 _ Tryd.underlying100 0 _ rfl size22 (.tmp 3) rfl w.heap.size 0 rfl) ⟨hC, Below.refl _ _, (fun h => absurd h (by decide)), fun _ => rfl⟩
    simp only [Act.put, List.setIfInBounds_toArray, List.set_cons_succ, List.set_cons_zero, Nat.reduceAdd]
    rw [h0]
    refine spec_cons (fun W hC hd => ⟨by rfl, ?_⟩) ?_
    · exact gives_val (.slice (some ⟨c, o, none⟩) N cap) W (exec_load1 39 (.tmp 7) rfl ⟨w.heap.size, 0, none⟩ rfl _ (below_cell hC HF1.out) _ Tryd.underlying39 rfl) ⟨hC, Below.refl _ _, (fun h => absurd h (by decide)), fun _ => rfl⟩
    simp only [Act.put, List.setIfInBounds_toArray, List.set_cons_succ, List.set_cons_zero, Nat.reduceAdd]
    rw [h1]
    refine spec_cons (fun W hC hd => ⟨by rfl, ?_⟩) ?_
    · exact gives_val (.int .i64 (j : Int)) W (rfl) ⟨hC, Below.refl _ _, (fun h => absurd h (by decide)), fun _ => rfl⟩
    simp only [Act.put, List.setIfInBounds_toArray, List.set_cons_succ, List.set_cons_zero, Nat.reduceAdd]
    rw [h2]
    refine spec_cons (fun W hC hd => ⟨by rfl, ?_⟩) ?_
    · exact gives_val (.pointer (some ⟨c, o + j, none⟩)) W (exec_at1 39 3 Tryd.underlying39 size3 (.tmp 8) (.tmp 9) rfl c o N cap j rfl rfl hj) ⟨hC, Below.refl _ _, (fun h => absurd h (by decide)), fun _ => rfl⟩
    simp only [Act.put, List.setIfInBounds_toArray, List.set_cons_succ, List.set_cons_zero, Nat.reduceAdd]
    rw [h3]
    refine spec_cons (fun W hC hd => ⟨by rfl, ?_⟩) ?_
    · exact gives_val (.int .i64 y) W (exec_load1 3 (.tmp 10) rfl ⟨c, o + j, none⟩ rfl _ (below_cell hC HJ1.out) _ Tryd.underlying3 rfl) ⟨hC, Below.refl _ _, (fun h => absurd h (by decide)), fun _ => rfl⟩
    simp only [Act.put, List.setIfInBounds_toArray, List.set_cons_succ, List.set_cons_zero, Nat.reduceAdd]
    rw [h4]
    refine spec_cons (fun W hC hd => ⟨by rfl, ?_⟩) ?_
    · exact gives_val (.pointer (some ⟨w.heap.size, 0, none⟩)) W (exec_fld 100 _ Tryd.underlying100 0 _ rfl size22 (.tmp 3) rfl w.heap.size 0 rfl) ⟨hC, Below.refl _ _, (fun h => absurd h (by decide)), fun _ => rfl⟩
    simp only [Act.put, List.setIfInBounds_toArray, List.set_cons_succ, List.set_cons_zero, Nat.reduceAdd]
    rw [h5]
    refine spec_cons (fun W hC hd => ⟨by rfl, ?_⟩) ?_
    · exact gives_val (.slice (some ⟨c, o, none⟩) N cap) W (exec_load1 39 (.tmp 12) rfl ⟨w.heap.size, 0, none⟩ rfl _ (below_cell hC HF1.out) _ Tryd.underlying39 rfl) ⟨hC, Below.refl _ _, (fun h => absurd h (by decide)), fun _ => rfl⟩
    simp only [Act.put, List.setIfInBounds_toArray, List.set_cons_succ, List.set_cons_zero, Nat.reduceAdd]
    rw [h6]
    refine spec_cons (fun W hC hd => ⟨by rfl, ?_⟩) ?_
    · exact gives_val (.int .i64 (i : Int)) W (rfl) ⟨hC, Below.refl _ _, (fun h => absurd h (by decide)), fun _ => rfl⟩
    simp only [Act.put, List.setIfInBounds_toArray, List.set_cons_succ, List.set_cons_zero, Nat.reduceAdd]
    rw [h7]
    refine spec_cons (fun W hC hd => ⟨by rfl, ?_⟩) ?_
    · exact gives_val (.pointer (some ⟨c, o + i, none⟩)) W (exec_at1 39 3 Tryd.underlying39 size3 (.tmp 13) (.tmp 14) rfl c o N cap i rfl rfl hi) ⟨hC, Below.refl _ _, (fun h => absurd h (by decide)), fun _ => rfl⟩
    simp only [Act.put, List.setIfInBounds_toArray, List.set_cons_succ, List.set_cons_zero, Nat.reduceAdd]
    rw [h8]
    refine spec_cons (fun W hC hd => ⟨by rfl, ?_⟩) ?_
    · exact gives_val (.int .i64 x) W (exec_load1 3 (.tmp 15) rfl ⟨c, o + i, none⟩ rfl _ (below_cell hC HI1.out) _ Tryd.underlying3 rfl) ⟨hC, Below.refl _ _, (fun h => absurd h (by decide)), fun _ => rfl⟩
    simp only [Act.put, List.setIfInBounds_toArray, List.set_cons_succ, List.set_cons_zero, Nat.reduceAdd]
    rw [h9]
    refine spec_cons (fun W hC hd => ⟨by rfl, ?_⟩) ?_
    · exact gives_call _ _ (exec_call2 82 (.tmp 11) (.tmp 16) #[3, 3] _ _ rfl rfl rfl (cf Tryd.func82 (by kernel_rfl) (by kernel_rfl) _ _)) ((HC1.out W).mono fun e W' h => ⟨_, h.1, by rw [← h.2]; exact hC, by rw [← h.2]; exact Below.refl _ _, (fun h => absurd h (by decide)), fun _ => rfl⟩)
    simp only [Act.put, List.setIfInBounds_toArray, List.set_cons_succ, List.set_cons_zero, Nat.reduceAdd]
    rw [h10]
    refine spec_cons (fun W hC hd => ⟨by rfl, ?_⟩) ?_
    · exact gives_val (.int .i64 (i : Int)) W (rfl) ⟨hC, Below.refl _ _, (fun h => absurd h (by decide)), fun _ => rfl⟩
    simp only [Act.put, List.setIfInBounds_toArray, List.set_cons_succ, List.set_cons_zero, Nat.reduceAdd]
    rw [h11]
    refine spec_cons (fun W hC hd => ⟨by rfl, ?_⟩) ?_
    · exact gives_val (.int .i64 (j : Int)) W (rfl) ⟨hC, Below.refl _ _, (fun h => absurd h (by decide)), fun _ => rfl⟩
    simp only [Act.put, List.setIfInBounds_toArray, List.set_cons_succ, List.set_cons_zero, Nat.reduceAdd]
    rw [h12]
    refine spec_cons (fun W hC hd => ⟨by rfl, ?_⟩) ?_
    · exact gives_call _ _ (exec_call2 82 (.tmp 18) (.tmp 19) #[3, 3] _ _ rfl rfl rfl (cf Tryd.func82 (by kernel_rfl) (by kernel_rfl) _ _)) ((HC2.out W).mono fun e W' h => ⟨_, h.1, by rw [← h.2]; exact hC, by rw [← h.2]; exact Below.refl _ _, (fun h => absurd h (by decide)), fun _ => rfl⟩)
    simp only [Act.put, List.setIfInBounds_toArray, List.set_cons_succ, List.set_cons_zero, Nat.reduceAdd]
    rw [h13]
    refine spec_cons (fun W hC hd => ⟨by rfl, ?_⟩) ?_
    · exact gives_val _ _ (exec_pairS (.tmp 17) (.tmp 20) rfl c1 c2 rfl rfl) ⟨hC.alloc hC.size _, (Below.refl _ _).alloc (Nat.le_refl _) _, (fun _ => ⟨_, rfl, heap_alloc_new _ _⟩), fun h => absurd rfl h⟩
    simp only [Act.put, List.setIfInBounds_toArray, List.set_cons_succ, List.set_cons_zero, Nat.reduceAdd]
    refine spec_cons (fun W hC hd => ⟨by rfl, ?_⟩) ?_
    · obtain ⟨g, hg, hgr⟩ := (hd ⟨14, .data⟩ (by simp) rfl).1 rfl
      have z0 : W.cell? ⟨g, 0, none⟩ = some (.int .i64 c1) := by rw [cell_of_row _ _ _ _ _ _ hgr]; rfl
      have z1 : W.cell? ⟨g, 1, none⟩ = some (.int .i64 c2) := by rw [cell_of_row _ _ _ _ _ _ hgr]; rfl
      exact gives_call _ _ (exec_call1 81 (.tmp 21) #[39] (.slice (some ⟨g, 0, none⟩) 2 2) rfl hg (cf Tryd.func81 (by kernel_rfl) (by kernel_rfl) _ _)) ((HOr.out W g z0 z1).mono fun e W' h => ⟨_, h.1, by rw [← h.2]; exact hC, by rw [← h.2]; exact Below.refl _ _, (fun h => absurd h (by decide)), fun _ => rfl⟩)
    simp only [Act.put, List.setIfInBounds_toArray, List.set_cons_succ, List.set_cons_zero, Nat.reduceAdd]
    rw [h15]
    exact spec_nil
  intro u W hu hC _
  have h0 : u 0 = .pointer (some ⟨w.heap.size, 0, none⟩) := hu 0 (by decide)
  have h1 : u 1 = .slice (some ⟨c, o, none⟩) N cap := hu 1 (by decide)
  have h2 : u 2 = .int .i64 (j : Int) := hu 2 (by decide)
  have h3 : u 3 = .pointer (some ⟨c, o + j, none⟩) := hu 3 (by decide)
  have h4 : u 4 = .int .i64 y := hu 4 (by decide)
  have h5 : u 5 = .pointer (some ⟨w.heap.size, 0, none⟩) := hu 5 (by decide)
  have h6 : u 6 = .slice (some ⟨c, o, none⟩) N cap := hu 6 (by decide)
  have h7 : u 7 = .int .i64 (i : Int) := hu 7 (by decide)
  have h8 : u 8 = .pointer (some ⟨c, o + i, none⟩) := hu 8 (by decide)
  have h9 : u 9 = .int .i64 x := hu 9 (by decide)
  have h10 : u 10 = .int .i64 c1 := hu 10 (by decide)
  have h11 : u 11 = .int .i64 (i : Int) := hu 11 (by decide)
  have h12 : u 12 = .int .i64 (j : Int) := hu 12 (by decide)
  have h13 : u 13 = .int .i64 c2 := hu 13 (by decide)
  have h15 : u 15 = .int .i64 R := hu 15 (by decide)
  simp only [List.take_succ_cons, List.take_zero, List.drop_succ_cons, List.drop_zero, putAll, Act.put, List.setIfInBounds_toArray, List.set_cons_succ, List.set_cons_zero, Nat.reduceAdd]
  rw [h0, h1, h2, h3, h4, h5, h6, h7, h8, h9, h10, h11, h12, h13, h15]
  clear hu h0 h1 h2 h3 h4 h5 h6 h7 h8 h9 h10 h11 h12 h13 h15
  have HB := Lib.hid (HB1.out.trans (hC.mono HB1.out.size))
  clear hC
  go_wp2
  go_ret
  exact ⟨rfl, HB.out⟩
end Go.Proofs.YtmolkbmdfkeniaaDoor.Tn
-- from Jr
namespace Go.Proofs.YtmolkbmdfkeniaaDoor.Tn
set_option maxRecDepth 100000
open Go.ChangeShapes Go.WideShapes Go.ChangeAt Go.RowKit Go.Sort Go.Proofs.YtmolkbmdfkeniaaDoor.Fx Go.Proofs.YtmolkbmdfkeniaaDoor.Rf
/-! ### the landed code: places in order -/
/-- places, as values -/
def rowN (d : List Nat) : Array Value := (d.map fun i : Nat => Value.int .i64 (i : Int)).toArray
theorem rowN_get (d : List Nat) (k : Nat) (hk : k < d.length) : (rowN d)[k]? = some (.int .i64 ((d.getD k 0 : Nat) : Int)) := by
  unfold rowN
  simp [hk]
theorem rowN_set (d : List Nat) (k x : Nat) : (rowN d).setIfInBounds k (.int .i64 (x : Int)) = rowN (d.set k x) := by
  unfold rowN
  simp [List.map_set]
/-- while the places are laid -/
def rgN (k n : Nat) : List Nat := List.range k ++ List.replicate (n - k) 0
theorem rgN_length {k n : Nat} (h : k ≤ n) : (rgN k n).length = n := by simp [rgN]; omega
theorem rgN_set {k n : Nat} (h : k < n) : (rgN k n).set k k = rgN (k + 1) n := by
  unfold rgN
  obtain ⟨d, hd⟩ : ∃ d, n - k = d + 1 := ⟨n - k - 1, by omega⟩
  rw [hd, List.replicate_succ, List.set_append_right _ _ (by simp), show n - (k + 1) = d by omega, List.range_succ]
  simp
theorem rgN_all (n : Nat) : rgN n n = List.range n := by simp [rgN]
structure OrdS (w : World) (sp : Option Addr) (cap n : Nat) (d : List Nat) (W : World) : Prop where
  below : Below w.heap.size w W
  res : ∃ X, X.size = 2 ∧ W.heap[w.heap.size]? = some (.cells X 100 (0, 0))
  row : W.heap[w.heap.size + 1]? = some (.cells (rowN d) 3 (0, 0))
  box : W.heap[w.heap.size + 2]? = some (.cells #[.slice sp n cap, .slice (some ⟨w.heap.size + 1, 0, none⟩) n n] 100 (0, 0))
theorem OrdS.made (w : World) (sp : Option Addr) (cap n : Nat) (X Y Z : Array Value) (hX : X.size = 2) (hY : Y = rowN (List.replicate n 0)) (hZ : Z = #[.slice sp n cap, .slice (some ⟨w.heap.size + 1, 0, none⟩) n n]) :
    OrdS w sp cap n (List.replicate n 0) (((w.alloc (.cells X 100)).alloc (.cells Y 3)).alloc (.cells Z 100)) := by
  subst hY
  subst hZ
  have b1 := heap_alloc_new w (.cells X 100)
  have b2 := heap_alloc_new (w.alloc (.cells X 100)) (.cells (rowN (List.replicate n 0)) 3)
  have b3 := heap_alloc_new ((w.alloc (.cells X 100)).alloc (.cells (rowN (List.replicate n 0)) 3)) (.cells #[.slice sp n cap, .slice (some ⟨w.heap.size + 1, 0, none⟩) n n] 100)
  simp only [World.size_alloc] at b2 b3
  refine ⟨(((Below.refl _ _).alloc (Nat.le_refl _) _).alloc (by simp) _).alloc (by simp; omega) _, ⟨X, hX, ?_⟩, ?_, b3⟩
  · rw [Below.heap_alloc _ _ _ (by simp; omega), Below.heap_alloc _ _ _ (by simp)]
    exact b1
  · rw [Below.heap_alloc _ _ _ (by simp)]
    exact b2
theorem OrdS.set {w W : World} {sp : Option Addr} {cap n : Nat} {d : List Nat} (h : OrdS w sp cap n d W) (k x : Nat) : OrdS w sp cap n (d.set k x) (W.setCell ⟨w.heap.size + 1, k, none⟩ (.int .i64 (x : Int))) := by
  obtain ⟨X, hX, h0⟩ := h.res
  refine ⟨h.below.setCell (p := ⟨w.heap.size + 1, k, none⟩) (by simp) _, ⟨X, hX, ?_⟩, ?_, ?_⟩
  · exact (heap_setCell_other W ⟨w.heap.size + 1, k, none⟩ _ _ (by simp)).trans h0
  · rw [heap_setCell_same _ _ _ _ _ _ h.row, rowN_set]
  · exact (heap_setCell_other W ⟨w.heap.size + 1, k, none⟩ _ _ (by simp)).trans h.box
theorem size_order : (Tryd.prog.info? 100).map (·.size) = some 2 := by kernel_rfl
theorem madeRow (n : Nat) : madeCells (Value.int .i64 0).cells n = rowN (List.replicate n 0) := by
  apply Array.toList_inj.1
  rw [made_list _ _ rfl]
  unfold rowN
  simp
/-- what orderOf answers: the numbers, and their places in a block of the call's own -/
def OrdE (w : World) (sp : Option Addr) (cap n : Nat) (e : Ending) (w' : World) : Prop :=
  e = .returned (.agg #[.slice sp n cap, .slice (some ⟨w.heap.size + 1, 0, none⟩) n n]) ∧ Below w.heap.size w w' ∧ w'.heap[w.heap.size + 1]? = some (.cells (rowN (List.range n)) 3 (0, 0))
set_option maxHeartbeats 4000000 in
theorem orderOf_any (w : World) (sp : Option Addr) (cap n : Nat) (hn : n ≤ 512) : Calls Tryd.prog 59 #[.slice sp n cap] w (OrdE w sp cap n) := by
  go_enter Tryd.func59, Tryd.ntmps59
  go_upto_region 2 with (refine wpList_makeN 39 3 8 (.int .i64 0) Tryd.underlying39 info3 (by decide) rfl (.tmp 7) (.tmp 7) rfl n rfl rfl (by omega) ?_)
  refine gen_world (Q := fun w => Code.wp _ _ _ _ w) _ (OrdS w sp cap n (rgN 0 n)) (by
    have := OrdS.made w sp cap n _ (madeCells (Value.int .i64 0).cells n) _ (show (#[Value.slice none 0 0, Value.slice none 0 0] : Array Value).size = 2 from rfl) (madeRow n) rfl
    have e : rgN 0 n = List.replicate n 0 := by simp [rgN]
    rw [e]
    exact this) ?_
  intro W hW
  have HW := Lib.hid hW
  have c1 : W.cell? ⟨w.heap.size + 2, 1, none⟩ = some (.slice (some ⟨w.heap.size + 1, 0, none⟩) n n) := by rw [cell_of_row _ _ _ _ _ _ hW.box]; rfl
  clear hW
  go_wp2
  go_loopw [13] (fun t wr => ∃ k : Nat, k ≤ n ∧ t = .int .i64 k ∧ OrdS w sp cap n (rgN k n) wr) (fun t _ => n - (intOf t).toNat)
  case atStart => exact ⟨0, by omega, rfl, HW.out⟩
  case round =>
    clear c1
    obtain ⟨k, hk, rfl, hS⟩ := hrel
    have HS := Lib.hid hS
    have c1 : wr.cell? ⟨w.heap.size + 2, 1, none⟩ = some (.slice (some ⟨w.heap.size + 1, 0, none⟩) n n) := by rw [cell_of_row _ _ _ _ _ _ hS.box]; rfl
    by_cases hlt : k < n
    · have hdt : decide (k < n) = true := by simp; omega
      have hck : wr.cell? ⟨w.heap.size + 1, k, none⟩ = some (.int .i64 (((rgN k n).getD k 0 : Nat) : Int)) := by
        rw [cell_of_row _ _ _ _ _ _ hS.row]
        exact rowN_get _ _ (by rw [rgN_length hk]; exact hlt)
      have hfk : wr.frozen? ⟨w.heap.size + 1, k, none⟩ = false := frozen_of_row _ _ _ _ _ hS.row
      have HN := Lib.hid (hS.set k k)
      have HE := Lib.hid (rgN_set hlt)
      clear hS
      go_wp2
      clear hck hfk
      go_roundw
      case rel => exact ⟨k + 1, by omega, by go_num, by rw [← HE.out]; exact HN.out⟩
      case measure => simp [intOf]; omega
    · obtain rfl : k = n := by omega
      have hdf : decide (k < k) = false := by simp
      obtain ⟨X, hX, h0⟩ := hS.res
      have H0 := Lib.hid h0
      have HX := Lib.hid hX
      have H1 : (#[Value.slice sp k cap, .slice (some ⟨w.heap.size + 1, 0, none⟩) k k] : Array Value).all (·.oneCell') = true := by simp [Value.oneCell']
      clear hS h0 hX
      go_wp2_with (first
        | (refine wpList_load_row rfl 100 (.tmp 3) rfl (w.heap.size + 2) rfl 100 #[.slice sp k cap, .slice (some ⟨w.heap.size + 1, 0, none⟩) k k] (0, 0) _ HS.out.box Tryd.underlying100 rfl size_order ?_)
        | (refine wpList_store_row rfl 100 (.tmp 2) (.tmp 22) rfl w.heap.size #[.slice sp k cap, .slice (some ⟨w.heap.size + 1, 0, none⟩) k k] rfl rfl 100 _ H0.out size_order HX.out H1 ?_))
      refine bodyPost_ret (v := .agg #[.slice sp k cap, .slice (some ⟨w.heap.size + 1, 0, none⟩) k k]) (results_cell_row Tryd.results59 _ _ w.heap.size 100 #[.slice sp k cap, .slice (some ⟨w.heap.size + 1, 0, none⟩) k k] (0, 0) _ rfl (setRow_heap _ _ _ _ _ _ H0.out) Tryd.underlying100 rfl size_order) rfl ⟨rfl, below_setRow HS.out.below (Nat.le_refl _) _, ?_⟩
      rw [setRow_other _ _ _ _ (by omega), ← rgN_all]
      exact HS.out.row
end Go.Proofs.YtmolkbmdfkeniaaDoor.Tn
-- from Jt
namespace Go.Proofs.YtmolkbmdfkeniaaDoor.Tn
set_option maxRecDepth 100000
open Go.ChangeShapes Go.WideShapes Go.ChangeAt Go.RowKit Go.Sort Go.Proofs.YtmolkbmdfkeniaaDoor.Fx Go.Proofs.YtmolkbmdfkeniaaDoor.Rf
/-! ### the landed code: the first of the greatest ones -/
theorem ahead_total {l : List Int} {p q : Nat} (h : p ≠ q) : ahead l p q ∨ ahead l q p := by
  unfold ahead
  by_cases h1 : l.getD q 0 < l.getD p 0
  · exact Or.inl (Or.inl h1)
  · by_cases h2 : l.getD p 0 < l.getD q 0
    · exact Or.inr (Or.inl h2)
    · rcases Nat.lt_or_ge p q with h3 | h3
      · exact Or.inl (Or.inr ⟨by omega, h3⟩)
      · exact Or.inr (Or.inr ⟨by omega, by omega⟩)
/-- a comparison, whatever the world (what lay in wb lies as it lay) -/
def CmpOK (wb : World) (g : FuncId) (recv : Value) (n : Nat) (cf : Nat → Nat → Int) : Prop :=
  ∀ W, Below wb.heap.size wb W → ∀ i j : Nat, i < n → j < n → Calls Tryd.prog g #[recv, .int .i64 (i : Int), .int .i64 (j : Int)] W fun e w' => e = .returned (.int .i64 (cf i j)) ∧ Below W.heap.size W w'
theorem cmp_ord (wb : World) (sp sq : Option Addr) (cap N n caq : Nat) (l : List Int) (hN : l.length = N) (hl : Nums wb sp cap l) : CmpOK wb 71 (.agg #[.slice sp N cap, .slice sq n caq]) N (cfI l) :=
  fun W hb i j hi hj => ord_any W sp sq cap N n caq i j l hN (hl.below hb) hi hj
end Go.Proofs.YtmolkbmdfkeniaaDoor.Tn
-- from Ks
namespace Go.Proofs.YtmolkbmdfkeniaaDoor.Tn
set_option maxRecDepth 100000
open Go.ChangeShapes Go.WideShapes Go.ChangeAt Go.RowKit Go.Sort Go.Proofs.YtmolkbmdfkeniaaDoor.Fx Go.Proofs.YtmolkbmdfkeniaaDoor.Rf
/-! ### the library's sort, at places: what its worlds hold -/
/-- below 0: less -/
def ltc (cf : Nat → Nat → Int) (x y : Nat) : Bool := decide (cf x y < 0)
def rowA (d : Array Nat) : Array Value := d.map fun i : Nat => Value.int .i64 (i : Int)
theorem rowA_get (d : Array Nat) (k : Nat) (hk : k < d.size) : (rowA d)[k]? = some (.int .i64 ((d[k]! : Nat) : Int)) := by
  unfold rowA
  simp [hk]
theorem rowA_set (d : Array Nat) (k x : Nat) : (rowA d).setIfInBounds k (.int .i64 (x : Int)) = rowA (d.setIfInBounds k x) := by
  unfold rowA
  simp
theorem rowN_rowA (l : List Nat) : rowN l = rowA l.toArray := by
  unfold rowN rowA
  simp
/-- the comparison, as the sort is handed it -/
structure Srt (wb : World) (g : FuncId) (recv : Value) (n : Nat) (cf : Nat → Nat → Int) : Prop where
  eg : ∀ args w, (callFunc g args).run Tryd.prog w = .ok (.enter g args) w
  cmp : CmpOK wb g recv n cf
  le : n ≤ 1000
/-- a world of the sort's: places d lie at P, and nothing else of w0 has turned -/
structure SrtW (wb : World) (P n : Nat) (w0 : World) (d : Array Nat) (W : World) : Prop where
  below : Below wb.heap.size wb W
  grown : w0.grownBy W (some P)
  row : W.heap[P]? = some (.cells (rowA d) 3 (0, 0))
  size : d.size = n
  all : ∀ i, i < n → d[i]! < n
  big : wb.heap.size ≤ P
section
variable {wb w0 W W' : World} {P n : Nat} {d : Array Nat}
theorem SrtW.start (h : SrtW wb P n w0 d W) : SrtW wb P n W d W := ⟨h.below, ⟨rfl, rfl, rfl, Nat.le_refl _, fun _ _ _ => rfl⟩, h.row, h.size, h.all, h.big⟩
theorem grown_trans {A B C : World} {r : Option Nat} (h1 : A.grownBy B r) (h2 : B.grownBy C r) : A.grownBy C r :=
  ⟨h2.os.trans h1.os, h2.tape.trans h1.tape, h2.output.trans h1.output, Nat.le_trans h1.size h2.size, fun k hk hne => (h2.block k (Nat.lt_of_lt_of_le hk h1.size) hne).trans (h1.block k hk hne)⟩
theorem SrtW.trans {d' : Array Nat} (h : SrtW wb P n w0 d W) (h2 : SrtW wb P n W d' W') : SrtW wb P n w0 d' W' := ⟨h2.below, grown_trans h.grown h2.grown, h2.row, h2.size, h2.all, h2.big⟩
theorem SrtW.lt (h : SrtW wb P n w0 d W) : P < W.heap.size := (Array.getElem?_eq_some_iff.1 h.row).1
theorem SrtW.later (h : SrtW wb P n w0 d W) (hb : Below W.heap.size W W') : SrtW wb P n w0 d W' :=
  ⟨h.below.trans (hb.mono h.below.size), grown_trans h.grown ⟨hb.os, hb.tape, hb.output, hb.size, fun k hk _ => hb.block k hk⟩, (hb.block _ h.lt).trans h.row, h.size, h.all, h.big⟩
theorem SrtW.drew (h : SrtW wb P n w0 d W) : SrtW wb P n w0 d W.drew := h.later ⟨rfl, rfl, rfl, Nat.le_refl _, fun _ _ => rfl⟩
theorem SrtW.regrown (h : SrtW wb P n w0 d W) (q : Nat) (os : Array Obj) : SrtW wb P n w0 d (grow (redrawn W q) os) := h.later (below_regrown W q os)
theorem SrtW.cell (h : SrtW wb P n w0 d W) (k : Nat) (hk : k < n) : W.cell? ⟨P, k, none⟩ = some (.int .i64 ((d[k]! : Nat) : Int)) := by
  rw [cell_of_row _ _ _ _ _ _ h.row]
  exact rowA_get _ _ (by rw [h.size]; exact hk)
theorem SrtW.frozen (h : SrtW wb P n w0 d W) (k : Nat) : W.frozen? ⟨P, k, none⟩ = false := frozen_of_row _ _ _ _ _ h.row
theorem swp_at (d : Array Nat) {i j : Nat} (hi : i < d.size) (hj : j < d.size) (k : Nat) : (swp d i j)[k]! = if k = j then d[i]! else if k = i then d[j]! else d[k]! := swp_get d hi hj k
theorem SrtW.swap (h : SrtW wb P n w0 d W) (i j : Nat) (hi : i < n) (hj : j < n) : SrtW wb P n w0 (swp d i j) ((W.setCell ⟨P, i, none⟩ (.int .i64 ((d[j]! : Nat) : Int))).setCell ⟨P, j, none⟩ (.int .i64 ((d[i]! : Nat) : Int))).drew := by
  have hs := h.size
  have hl := h.lt
  have r1 := heap_setCell_same W P i (rowA d) 3 (.int .i64 ((d[j]! : Nat) : Int)) h.row
  rw [rowA_set] at r1
  have r2 := heap_setCell_same (W.setCell ⟨P, i, none⟩ (.int .i64 ((d[j]! : Nat) : Int))) P j _ 3 (.int .i64 ((d[i]! : Nat) : Int)) r1
  rw [rowA_set] at r2
  have hb : Below wb.heap.size wb ((W.setCell ⟨P, i, none⟩ (.int .i64 ((d[j]! : Nat) : Int))).setCell ⟨P, j, none⟩ (.int .i64 ((d[i]! : Nat) : Int))) :=
    (h.below.setCell (p := ⟨P, i, none⟩) h.big _).setCell (p := ⟨P, j, none⟩) h.big _
  refine ⟨hb.trans ⟨rfl, rfl, rfl, Nat.le_refl _, fun _ _ => rfl⟩, grown_trans h.grown ⟨rfl, rfl, rfl, by simp, fun k _ hk => ?_⟩, r2, by rw [swp_size]; exact hs, fun k hk => ?_, h.big⟩
  · have hne : k ≠ P := fun e => hk (by rw [e])
    show ((W.setCell ⟨P, i, none⟩ _).setCell ⟨P, j, none⟩ _).heap[k]? = _
    rw [heap_setCell_other _ ⟨P, j, none⟩ _ _ (by simpa using hne), heap_setCell_other _ ⟨P, i, none⟩ _ _ (by simpa using hne)]
  · rw [swp_at d (by omega) (by omega)]
    split
    · exact h.all i hi
    · split
      · exact h.all j hj
      · exact h.all k hk
theorem SrtW.cell2 (h : SrtW wb P n w0 d W) (i j : Nat) (hj : j < n) (hij : i ≠ j) (v : Value) : (W.setCell ⟨P, i, none⟩ v).cell? ⟨P, j, none⟩ = some (.int .i64 ((d[j]! : Nat) : Int)) :=
  (World.cell?_setCell_other _ _ _ _ (by intro e; simp only [Addr.mk.injEq] at e; omega)).trans (h.cell j hj)
end
theorem Srt.at_ {wb w0 W : World} {g : FuncId} {recv : Value} {P n : Nat} {cf : Nat → Nat → Int} {d : Array Nat} (S : Srt wb g recv n cf) (h : SrtW wb P n w0 d W) (i j : Nat) (hi : i < n) (hj : j < n) (q : Nat) (os : Array Obj) :
    Calls Tryd.prog g #[recv, .int .i64 ((d[i]! : Nat) : Int), .int .i64 ((d[j]! : Nat) : Int)] (grow (redrawn W q) os) fun e w'' => e = .returned (.int .i64 (cf d[i]! d[j]!)) ∧ ∃ p : Regrown, w'' = grow (redrawn W p.d) p.os :=
  Calls.regrown_of (S.cmp _ (h.regrown q os).below _ _ (h.all i hi) (h.all j hj))
theorem insInner_go (lt : Nat → Nat → Bool) (a j : Nat) (d : Array Nat) (h1 : a < j + 1) (h2 : lt d[j + 1]! d[j]! = true) : insInner lt a (j + 1) d = insInner lt a j (swp d (j + 1) j) := by
  rw [insInner, if_pos (by simp [h1, h2])]
theorem insInner_stop (lt : Nat → Nat → Bool) (a j : Nat) (d : Array Nat) (h : a < j + 1 → lt d[j + 1]! d[j]! = false) : insInner lt a (j + 1) d = d := by
  rw [insInner, if_neg]
  intro hh
  simp only [gt_iff_lt, Bool.and_eq_true, decide_eq_true_eq] at hh
  rw [h hh.1] at hh
  exact absurd hh.2 (by simp)
theorem insOuter_go (lt : Nat → Nat → Bool) (a b i : Nat) (d : Array Nat) (h : i < b) : insOuter lt a b i d = insOuter lt a b (i + 1) (insInner lt a i d) := by
  rw [insOuter, if_pos h]
theorem insOuter_end (lt : Nat → Nat → Bool) (a b i : Nat) (d : Array Nat) (h : ¬ i < b) : insOuter lt a b i d = d := by
  rw [insOuter, if_neg h]
end Go.Proofs.YtmolkbmdfkeniaaDoor.Tn
-- from Kt
namespace Go.Proofs.YtmolkbmdfkeniaaDoor.Tn
set_option maxRecDepth 100000
open Go.ChangeShapes Go.WideShapes Go.ChangeAt Go.RowKit Go.Sort Go.Proofs.YtmolkbmdfkeniaaDoor.Fx Go.Proofs.YtmolkbmdfkeniaaDoor.Rf
set_option maxHeartbeats 4000000 in
theorem ins_any {wb : World} {g : FuncId} {recv : Value} {n : Nat} {cf : Nat → Nat → Int} (S : Srt wb g recv n cf) (w : World) (P a b : Nat) (d : Array Nat) (hs : SrtW wb P n w d w) (hab : a ≤ b) (hb : b ≤ n) :
    Calls Tryd.prog 85 #[.slice (some ⟨P, 0, none⟩) n n, .int .i64 a, .int .i64 b, .func (.func g) #[recv] #[]] w fun e w' => e = .returned (.tuple #[]) ∧ SrtW wb P n w (insertionSort (ltc cf) d a b) w' := by
  have HS := Lib.hid S
  have mixed : Tryd.prog.follows Departure.mixedOrders = true := by kernel_rfl
  have hn := S.le
  have eg := S.eg
  have HW : Hid (SrtW wb P n w d w) := hs
  have HT : Hid (insOuter (ltc cf) a b (a + 1) d = insertionSort (ltc cf) d a b) := Lib.hid rfl
  obtain ⟨T, hT⟩ : ∃ T, insertionSort (ltc cf) d a b = T := ⟨_, rfl⟩
  rw [hT] at HT ⊢
  clear S hs hT
  go_enter Tryd.func85, Tryd.ntmps85
  go_wp2
  go_loopw [8] (fun t wr => ∃ (i : Nat) (d1 : Array Nat), a + 1 ≤ i ∧ (i ≤ b ∨ i = a + 1) ∧ t = .int .i64 i ∧ SrtW wb P n w d1 wr ∧ insOuter (ltc cf) a b i d1 = T) (fun t _ => b + 1 - (intOf t).toNat)
  case atStart => exact ⟨a + 1, d, by omega, Or.inr rfl, by simp, HW.out, HT.out⟩
  case round =>
    clear HT HW
    obtain ⟨i, d1, hi1, hi2, rfl, hW, hO⟩ := hrel
    have HW := Lib.hid hW
    have HO := Lib.hid hO
    clear hW hO
    by_cases hlt : i < b
    · have hdt : decide (i < b) = true := by simpa using hlt
      have HO2 : Hid (insOuter (ltc cf) a b (i + 1) (insInner (ltc cf) a i d1) = T) := Lib.hid (by rw [← insOuter_go _ _ _ _ _ hlt]; exact HO.out)
      clear HO
      go_wp2
      go_loopw [9] (fun t wr => ∃ (j : Nat) (dj : Array Nat), a ≤ j ∧ j ≤ i ∧ t = .int .i64 j ∧ SrtW wb P n w dj wr ∧ insOuter (ltc cf) a b (i + 1) (insInner (ltc cf) a j dj) = T) (fun t _ => (intOf t).toNat)
      case atStart => exact ⟨i, d1, by omega, by omega, rfl, HW.out, HO2.out⟩
      case round =>
        clear HO2 HW
        obtain ⟨j, dj, hj1, hj2, rfl, hW, hO⟩ := hrel
        have HW := Lib.hid hW
        have HO := Lib.hid hO
        clear hW hO
        by_cases hja : a < j
        · obtain ⟨k, hk⟩ : ∃ k, j = k + 1 := ⟨j - 1, by omega⟩
          have HK := Lib.hid hk
          have hjk : (j : Int) - 1 = (k : Int) := by omega
          have hwk : IntKind.i64.wrap (k : Int) = (k : Int) := IntWalk.i64_in _ (by omega)
          have hjn : j < n := by omega
          have hkn : k < n := by omega
          have hak : a ≤ k := by omega
          have hjt : decide ((a : Int) < (j : Int)) = true := by simp; omega
          have hjt2 : decide (a < j) = true := by simpa using hja
          have q1 := cell_regrown (HW.out.cell j hjn)
          have q2 := cell_regrown (HW.out.cell k hkn)
          have qc := fun q os => HS.out.at_ HW.out j k hjn hkn q os
          by_cases hlt2 : cf dj[j]! dj[k]! < 0
          · have hd : decide (cf dj[j]! dj[k]! < 0) = true := by simpa using hlt2
            have HO2 : Hid (insOuter (ltc cf) a b (i + 1) (insInner (ltc cf) a k (swp dj j k)) = T) := Lib.hid (by
              subst hk
              rw [← insInner_go _ _ _ _ hja hd]
              exact HO.out)
            have HSw := Lib.hid (fun W (h : SrtW wb P n w dj W) => h.swap j k hjn hkn)
            have HC1 := Lib.hid (fun W (h : SrtW wb P n w dj W) => h.cell j hjn)
            have HC2 := Lib.hid (fun W (h : SrtW wb P n w dj W) => h.cell k hkn)
            have HC3 := Lib.hid (fun W (h : SrtW wb P n w dj W) v => h.cell2 j k hkn (by omega) v)
            obtain ⟨x, hx⟩ : ∃ x, dj[j]! = x := ⟨_, rfl⟩
            obtain ⟨y, hy⟩ : ∃ y, dj[k]! = y := ⟨_, rfl⟩
            rw [hx, hy] at qc hd HSw
            rw [hx] at q1 HC1
            rw [hy] at q2 HC2 HC3
            clear hx hy hlt2 hk hja
            go_wp2
            refine wp_region_quiet_below (by kernel_rfl) (by kernel_rfl) ?_
            repeat (quiet_step (exact qc _ _))
            refine wpQuiet_nil ?_
            intro _ hw'
            obtain ⟨⟨dq, osq⟩, hw''⟩ := hw'
            subst hw''
            have HW2 := Lib.hid (HW.out.regrown dq osq)
            generalize grow (redrawn wr dq) osq = w2 at HW2 ⊢
            clear q1 q2 qc HW
            have c1 := HC1.out _ HW2.out
            have c2 := HC2.out _ HW2.out
            have c3 := HC3.out _ HW2.out (.int .i64 (y : Int))
            have f1 := HW2.out.frozen j
            have f2 := HW2.out.frozen k
            have HW3 := Lib.hid (HSw.out _ HW2.out)
            go_wp2
            go_big_region_o
            clear c1 c2 c3 f1 f2
            generalize ((w2.setCell ⟨P, j, none⟩ (.int .i64 (y : Int))).setCell ⟨P, k, none⟩ (.int .i64 (x : Int))).drew = w3 at HW3 ⊢
            go_wp2
            go_roundw
            case rel => exact ⟨k, _, by have := HK.out; omega, by have := HK.out; omega, by first | rfl | go_num, HW3.out, HO2.out⟩
            case measure => have := HK.out; simp [intOf]; omega
          · have hd : decide (cf dj[j]! dj[k]! < 0) = false := by simpa using hlt2
            have HO2 : Hid (insOuter (ltc cf) a b (i + 1) dj = T) := Lib.hid (by
              have h0 := HO.out
              subst hk
              rw [insInner_stop _ _ _ _ (fun _ => hd)] at h0
              exact h0)
            obtain ⟨x, hx⟩ : ∃ x, dj[j]! = x := ⟨_, rfl⟩
            obtain ⟨y, hy⟩ : ∃ y, dj[k]! = y := ⟨_, rfl⟩
            rw [hx, hy] at qc hd
            rw [hx] at q1
            rw [hy] at q2
            clear hx hy hlt2 hk hja
            go_wp2
            refine wp_region_quiet_below (by kernel_rfl) (by kernel_rfl) ?_
            repeat (quiet_step (exact qc _ _))
            refine wpQuiet_nil ?_
            intro _ hw'
            obtain ⟨⟨dq, osq⟩, hw''⟩ := hw'
            subst hw''
            have HW2 := Lib.hid (HW.out.regrown dq osq)
            generalize grow (redrawn wr dq) osq = w2 at HW2 ⊢
            clear q1 q2 qc HW
            go_wp2
            go_roundw
            case rel => exact ⟨i + 1, dj, by omega, by omega, by first | rfl | go_num, HW2.out, HO2.out⟩
            case measure => simp [intOf]; omega
        · have hja' : j = a := by omega
          have hjt : decide ((a : Int) < (j : Int)) = false := by simp; omega
          have hjt2 : decide (a < j) = false := by simp; omega
          have HO2 : Hid (insOuter (ltc cf) a b (i + 1) dj = T) := Lib.hid (by
            have h0 := HO.out
            rw [hja'] at h0
            rcases a with _ | a
            · exact h0
            · rw [insInner_stop _ _ _ _ (fun h => absurd h (by omega))] at h0
              exact h0)
          clear hja'
          go_wp2
          go_big_region_o
          have HW2 := Lib.hid HW.out.drew
          generalize wr.drew = w2 at HW2 ⊢
          clear HW
          go_wp2
          go_roundw
          case rel => exact ⟨i + 1, dj, by omega, by omega, by first | rfl | go_num, HW2.out, HO2.out⟩
          case measure => simp [intOf]; omega
    · have hdf : decide (i < b) = false := by simpa using hlt
      have HE : Hid (d1 = T) := Lib.hid (by rw [← HO.out, insOuter_end _ _ _ _ _ hlt])
      go_wp2
      go_end0
      exact ⟨rfl, by rw [← HE.out]; exact HW.out⟩
end Go.Proofs.YtmolkbmdfkeniaaDoor.Tn
-- from Ku
namespace Go.Proofs.YtmolkbmdfkeniaaDoor.Tn
set_option maxRecDepth 100000
open Go.ChangeShapes Go.WideShapes Go.ChangeAt Go.RowKit Go.Sort Go.Proofs.YtmolkbmdfkeniaaDoor.Fx Go.Proofs.YtmolkbmdfkeniaaDoor.Rf
theorem byte_lt (b : UInt8) : b.toNat < 256 := b.toNat_lt
theorem wrapB (b : UInt8) : wrap64 (8 + wrap64 (b.toNat : Int)) = ((8 + b.toNat : Nat) : Int) := by
  have h := byte_lt b
  have e : wrap64 (b.toNat : Int) = (b.toNat : Int) := by unfold wrap64; omega
  rw [e]
  unfold wrap64
  omega
theorem wrapC (b : UInt8) : wrap64 (wrap64 (b.toNat : Int)) = ((b.toNat : Nat) : Int) := by
  have h := byte_lt b
  have e : wrap64 (b.toNat : Int) = (b.toNat : Int) := by unfold wrap64; omega
  rw [e, e]
theorem ret_wrapB (b : UInt8) : ∃ L : Nat, Ending.returned (Value.int .i64 (wrap64 (8 + wrap64 (b.toNat : Int)))) = .returned (.int .i64 (L : Int)) := ⟨_, by rw [wrapB]⟩
theorem ret_wrapC (b : UInt8) : ∃ L : Nat, Ending.returned (Value.int .i64 (wrap64 (wrap64 (b.toNat : Int)))) = .returned (.int .i64 (L : Int)) := ⟨_, by rw [wrapC]⟩
set_option maxHeartbeats 4000000 in
theorem len64_any (w : World) (x : Nat) (h : x < 65536) : Calls Tryd.prog 94 #[.int .u64 (x : Int)] w fun e w' => (∃ L : Nat, e = .returned (.int .i64 (L : Int))) ∧ w = w' := by
  have d1 : decide ((4294967296 : Int) ≤ (x : Int)) = false := by simp; omega
  have d2 : decide ((65536 : Int) ≤ (x : Int)) = false := by simp; omega
  by_cases h3 : 256 ≤ x
  · have d3 : decide ((256 : Int) ≤ (x : Int)) = true := by simp; omega
    go_enter Tryd.func94, Tryd.ntmps94
    go_wp2
    go_ret
    exact ⟨ret_wrapB _, rfl⟩
  · have d3 : decide ((256 : Int) ≤ (x : Int)) = false := by simp; omega
    go_enter Tryd.func94, Tryd.ntmps94
    go_wp2
    go_ret
    exact ⟨ret_wrapC _, rfl⟩
set_option maxHeartbeats 4000000 in
theorem len_any (w : World) (x : Nat) (h : x < 65536) : Calls Tryd.prog 80 #[.int .u64 (x : Int)] w fun e w' => (∃ L : Nat, e = .returned (.int .i64 (L : Int))) ∧ w = w' := by
  have HX := Lib.hid (len64_any w x h)
  go_enter Tryd.func80, Tryd.ntmps80
  go_wp2_with fail
  refine HX.out.mono ?_
  rintro e w' ⟨⟨L, rfl⟩, rfl⟩
  go_wp2
  go_ret
  exact ⟨⟨L, rfl⟩, rfl⟩
end Go.Proofs.YtmolkbmdfkeniaaDoor.Tn
-- from Kv
namespace Go.Proofs.YtmolkbmdfkeniaaDoor.Tn
set_option maxRecDepth 100000
open Go.ChangeShapes Go.WideShapes Go.ChangeAt Go.RowKit Go.Sort Go.Proofs.YtmolkbmdfkeniaaDoor.Fx Go.Proofs.YtmolkbmdfkeniaaDoor.Rf
/-! ### the landed code: Top -/
theorem lt_ahead {l : List Int} {x y : Nat} : ltc (cfI l) x y = true ↔ ahead l x y := by
  unfold ltc
  rw [decide_eq_true_eq]
  exact cfI_lt
theorem lt_not {l : List Int} {x y : Nat} : ltc (cfI l) x y = false ↔ ¬ ahead l x y := by
  rw [← lt_ahead]
  simp
theorem swo_ord (l : List Int) : SWO (ltc (cfI l)) where
  irrefl x := lt_not.2 ahead_irrefl
  trans x y z h1 h2 := lt_ahead.2 (ahead_trans (lt_ahead.1 h1) (lt_ahead.1 h2))
  ntrans x y z h1 h2 := by
    rw [lt_not] at *
    intro h
    by_cases hxy : x = y
    · subst hxy; exact h2 h
    · rcases ahead_total (l := l) hxy with h3 | h3
      · exact h1 h3
      · exact h2 (ahead_trans h3 h)
/-- a sort of the whole row -/
def PdqOK (wb : World) (P n : Nat) (g : FuncId) (recv : Value) (cf : Nat → Nat → Int) : Prop :=
  ∀ (W : World) (d : Array Nat) (L : Nat), SrtW wb P n W d W → Calls Tryd.prog 79 #[.slice (some ⟨P, 0, none⟩) n n, .int .i64 0, .int .i64 n, .int .i64 (L : Int), .func (.func g) #[recv] #[]] W fun e w' => e = .returned (.tuple #[]) ∧ ∃ d', SrtW wb P n W d' w' ∧ PermIn 0 n d d' ∧ SortedIn (ltc cf) 0 n d'
set_option maxHeartbeats 4000000 in
theorem pdq_small {wb : World} {g : FuncId} {recv : Value} {n : Nat} {cf : Nat → Nat → Int} (S : Srt wb g recv n cf) (hO : SWO (ltc cf)) (P : Nat) (hn : n ≤ 12) : PdqOK wb P n g recv cf := fun W d L hs => by
  have hsp := insertionSort_holds hO d 0 n (Nat.zero_le _) (by rw [hs.size]; exact Nat.le_refl _)
  have HI := Lib.hid (ins_any S W P 0 n d hs (Nat.zero_le _) (Nat.le_refl _))
  obtain ⟨T, hT⟩ : ∃ T, insertionSort (ltc cf) d 0 n = T := ⟨_, rfl⟩
  rw [hT] at HI hsp
  have HS := Lib.hid hsp
  have d1 : decide ((n : Int) ≤ 12) = true := by simp; omega
  clear S hs hsp hT hO
  go_enter Tryd.func79, Tryd.ntmps79
  go_wp2
  refine wp_loop_rounds 1 ?_
  rw [rounds_succ]
  go_wp2_with fail
  refine HI.out.mono ?_
  rintro e w' ⟨rfl, hW⟩
  have HW := Lib.hid hW
  clear hW
  go_wp2
  (try simp only [Exit.inBlock, Exit.then])
  refine bodyPost_ret (results_none rfl _ _ _) rfl ?_
  exact ⟨rfl, T, HW.out, HS.out.1, HS.out.2⟩
set_option maxHeartbeats 4000000 in
theorem sort_any {wb : World} {g : FuncId} {recv : Value} {n : Nat} {cf : Nat → Nat → Int} (P : Nat) (hp : PdqOK wb P n g recv cf) (hn : n ≤ 1000) (w : World) (d : Array Nat) (hs : SrtW wb P n w d w) :
    Calls Tryd.prog 70 #[.slice (some ⟨P, 0, none⟩) n n, .func (.func g) #[recv] #[]] w fun e w' => e = .returned (.tuple #[]) ∧ ∃ d', SrtW wb P n w d' w' ∧ PermIn 0 n d d' ∧ SortedIn (ltc cf) 0 n d' := by
  have HP : Hid (∀ L : Nat, _) := Lib.hid (fun L : Nat => hp w d L hs)
  have HL := Lib.hid (len_any w n (by omega))
  clear hp hs
  go_enter Tryd.func70, Tryd.ntmps70
  go_wp2_with fail
  refine HL.out.mono ?_
  rintro e w' ⟨⟨L, rfl⟩, rfl⟩
  go_wp2_with fail
  refine (HP.out L).mono ?_
  rintro e w' ⟨rfl, d', h1, h2, h3⟩
  have H1 := Lib.hid h1
  have H2 := Lib.hid h2
  have H3 := Lib.hid h3
  clear h1 h2 h3
  go_wp2
  go_end0
  exact ⟨rfl, d', H1.out, H2.out, H3.out⟩
/-- the first k of sorted places are the k greatest ones -/
theorem sorted_top {l : List Int} {n k : Nat} {d' : Array Nat} (hn : l.length = n) (hk : k ≤ n) (hp : PermIn 0 n (List.range n).toArray d') (hs : SortedIn (ltc (cfI l)) 0 n d') : d'.toList.take k = topN l k := by
  obtain ⟨hz, _, hpm⟩ := hp
  have hsz : d'.size = n := by rw [hz]; simp
  have hl : d'.toList.length = n := by simpa using hsz
  have e1 : (d'.extract 0 n).toList = d'.toList := by rw [← hsz, Array.extract_size]
  have e2 : ((List.range n).toArray.extract 0 n).toList = List.range n := by
    rw [Array.toList_extract]
    simp [List.extract]
  rw [e1, e2] at hpm
  have hget : ∀ i (hi : i < n), d'[i]! = d'.toList[i]'(by omega) := fun i hi => by
    rw [getElem!_pos d' i (by omega)]
    simp
  refine TopIs.unique (by omega) ⟨by rw [List.length_take]; omega, fun p hp => ?_, ?_, fun i p hip q hq hnot => ?_⟩
  · have := hpm.mem_iff.1 (List.mem_of_mem_take hp)
    rw [hn]
    simpa using this
  · exact ((hpm.nodup_iff).2 List.nodup_range).sublist (List.take_sublist _ _)
  · have hik : i < k := by
      have := (List.getElem?_eq_some_iff.1 hip).1
      simp at this
      omega
    have hpi : d'.toList[i]'(by omega) = p := by
      obtain ⟨h1, h2⟩ := List.getElem?_eq_some_iff.1 hip
      rw [List.getElem_take] at h2
      exact h2
    have hqm : q ∈ d'.toList := hpm.mem_iff.2 (by simpa [hn] using hq)
    obtain ⟨j, hj, hjq⟩ := List.mem_iff_getElem.1 hqm
    have hij : i < j := by
      rcases Nat.lt_or_ge i j with h | h
      · exact h
      · exfalso
        refine hnot ?_
        rw [List.take_take, List.mem_iff_getElem]
        refine ⟨j, by simp; omega, ?_⟩
        rw [List.getElem_take]
        exact hjq
    have h1 := hs i j (Nat.zero_le _) hij (by omega)
    rw [hget i (by omega), hget j (by omega), hpi, hjq, lt_not] at h1
    have hne : p ≠ q := fun e => by
      have hnd := (hpm.nodup_iff).2 List.nodup_range
      exact List.pairwise_iff_getElem.1 hnd i j (by omega) hj hij (by rw [hpi, hjq, e])
    rcases ahead_total (l := l) hne with h2 | h2
    · exact h2
    · exact absurd h2 h1
end Go.Proofs.YtmolkbmdfkeniaaDoor.Tn
-- from Kw
namespace Go.Proofs.YtmolkbmdfkeniaaDoor.Tn
set_option maxRecDepth 100000
open Go.ChangeShapes Go.WideShapes Go.ChangeAt Go.RowKit Go.Sort Go.Proofs.YtmolkbmdfkeniaaDoor.Fx Go.Proofs.YtmolkbmdfkeniaaDoor.Rf
theorem srtW_range {wb W : World} {P n : Nat} (hb : RowKit.Below wb.heap.size wb W) (hr : W.heap[P]? = some (.cells (rowN (List.range n)) 3 (0, 0))) (hP : wb.heap.size ≤ P) : SrtW wb P n W (List.range n).toArray W :=
  ⟨hb, ⟨rfl, rfl, rfl, Nat.le_refl _, fun _ _ _ => rfl⟩, by rw [hr, rowN_rowA], by simp, fun i hi => by
    rw [getElem!_pos _ i (by simpa using hi)]
    simpa using hi, hP⟩
/-- s[:k] of a slice of numbers -/
theorem run_head2 (sp : Option Addr) (m cap k : Nat) (hk : k ≤ cap) (w : World) : (Instr.slice 39 (.slice sp m cap) none (some (.int .i64 (k : Int))) none).run Tryd.prog w = .ok (.slice sp k cap) w := by
  cases hq : Tryd.prog.info? 3 with
  | none => have := size3; simp [hq] at this
  | some i =>
    have hi : i.size = 1 := by have := size3; simpa [hq] using this
    simp only [Instr.slice, run_underlying Tryd.underlying39, Instr.sliceBounds, Instr.sliceBound, asIntOf, sizeOf, typeInfo, Sem.run_bind, Result.andThen_ok, Sem.run_pure, Sem.run_ite]
    have h0 : sp.map (·.add 0) = sp := by
      cases sp with
      | none => rfl
      | some a => obtain ⟨b, o, s⟩ := a; simp [Addr.add]
    simp [hq, hi, hk, h0]
theorem nums_top {W : World} {wb w0 : World} {P n k : Nat} {d' : Array Nat} (h : SrtW wb P n w0 d' W) (hn : n ≤ 1000) (hk : k ≤ n) : Nums W (some ⟨P, 0, none⟩) n ((d'.toList.take k).map fun i : Nat => (i : Int)) := by
  have hsz := h.size
  refine ⟨by simp; omega, by unfold maxLen; omega, (fun e => by cases e), fun _ => ⟨P, 0, rfl, fun i v hv => ?_⟩⟩
  have hi : i < k ∧ i < d'.size := by
    have := (List.getElem?_eq_some_iff.1 hv).1
    simp at this
    omega
  rw [Nat.zero_add, h.cell i (by omega), ← hv]
  simp [hi.1, hi.2]
set_option maxHeartbeats 4000000 in
theorem topm_any (w : World) (sp : Option Addr) (cap N P k : Nat) (l : List Int) (hN : l.length = N) (h1 : 1 ≤ N) (h5 : N ≤ 512) (_k1 : 1 ≤ k) (k2 : k ≤ N) (wb : World) (_hl : Nums wb sp cap l) (hP : wb.heap.size ≤ P) (hb : RowKit.Below wb.heap.size wb w) (hr : w.heap[P]? = some (.cells (rowN (List.range N)) 3 (0, 0)))
    (hp : PdqOK wb P N 71 (.agg #[.slice sp N cap, .slice (some ⟨P, 0, none⟩) N N]) (cfI l)) :
    Calls Tryd.prog 60 #[.agg #[.slice sp N cap, .slice (some ⟨P, 0, none⟩) N N], .int .i64 (k : Int)] w fun e w' => ∃ s c, e = .returned (.slice s k c) ∧ Nums w' s c (topI l k) ∧ RowKit.Below wb.heap.size wb w' := by
  have hPlt := (Array.getElem?_eq_some_iff.1 hr).1
  have HSo : Hid (∀ W, w.heap.size ≤ W.heap.size → RowKit.Below w.heap.size w W → Calls Tryd.prog 70 #[.slice (some ⟨P, 0, none⟩) N N, .func (.func 71) #[.agg #[.slice sp N cap, .slice (some ⟨P, 0, none⟩) N N]] #[]] W fun e w' => e = .returned (.tuple #[]) ∧ W.grownBy w' (some P) ∧ RowKit.Below wb.heap.size wb w' ∧ Nums w' (some ⟨P, 0, none⟩) N (topI l k)) := Lib.hid (fun W _ hW => by
    have hs := srtW_range (n := N) (hb.trans (hW.mono hb.size)) ((hW.block _ hPlt).trans hr) hP
    refine (sort_any P hp (by omega) W _ hs).mono ?_
    rintro e w' ⟨rfl, d', h1, h2, h3⟩
    have ht := sorted_top hN k2 h2 h3
    have hn := nums_top h1 (by omega) k2
    rw [ht] at hn
    exact ⟨rfl, h1.grown, h1.below, hn⟩)
  have HTl := Lib.hid (topI_length l k)
  have kC := run_head2 (some ⟨P, 0, none⟩) N N k k2
  obtain ⟨T, hT⟩ : ∃ T, topI l k = T := ⟨_, rfl⟩
  rw [hT] at HSo HTl ⊢
  clear hb hr _hl hN hp hT
  go_enter Tryd.func60, Tryd.ntmps60
  go_upto_region 1 with fail
  refine gen_world (Q := fun w => Code.wp _ _ _ _ w) _ (fun W => RowKit.Below w.heap.size w W ∧ W.heap[w.heap.size]? = some (.cells #[.slice sp N cap, .slice (some ⟨P, 0, none⟩) N N] 100 (0, 0))) ⟨(Below.refl _ _).alloc (Nat.le_refl _) _, heap_alloc_new _ _⟩ ?_
  rintro w1 ⟨hb1, hr1⟩
  have HB1 := Lib.hid hb1
  have HR1 := Lib.hid hr1
  have c1 : w1.cell? ⟨w.heap.size, 1, none⟩ = some (.slice (some ⟨P, 0, none⟩) N N) := by rw [cell_of_row _ _ _ _ _ _ hr1]; rfl
  clear hb1 hr1
  go_wp2_with (refine wpList_load_row rfl 100 (.tmp 2) rfl w.heap.size rfl 100 #[.slice sp N cap, .slice (some ⟨P, 0, none⟩) N N] (0, 0) _ HR1.out Tryd.underlying100 rfl size_order ?_)
  refine (HSo.out w1 HB1.out.size HB1.out).mono ?_
  rintro e w2 ⟨rfl, hg2, hb2, hn2⟩
  have hr2 := (hg2.block w.heap.size (Array.getElem?_eq_some_iff.1 HR1.out).1 (by simp; omega)).trans HR1.out
  have c1 : w2.cell? ⟨w.heap.size, 1, none⟩ = some (.slice (some ⟨P, 0, none⟩) N N) := by rw [cell_of_row _ _ _ _ _ _ hr2]; rfl
  have HB2 := Lib.hid hb2
  have HCl := Lib.hid (clone_any w2 ⟨P, 0, none⟩ N k T HTl.out hn2 (by omega))
  clear hg2 hb2 hn2 hr2
  go_wp2_with fail
  refine HCl.out.mono ?_
  rintro e w3 ⟨s3, c3, rfl, hn3, hb3⟩
  have HN3 := Lib.hid hn3
  have HB3 := Lib.hid (HB2.out.trans (hb3.mono HB2.out.size))
  clear hn3 hb3
  go_wp2
  go_ret
  exact ⟨s3, c3, by rw [HTl.out]; rfl, HN3.out, HB3.out⟩
set_option maxHeartbeats 4000000 in
theorem ttop_any (w : World) (sp : Option Addr) (cap N : Nat) (l : List Int) (k : Int) (hN : l.length = N) (hl : Nums w sp cap l) (k1 : -9223372036854775808 ≤ k) (k2 : k ≤ 9223372036854775807)
    (hp : chkV l = 0 → ∀ P, PdqOK w P N 71 (.agg #[.slice sp N cap, .slice (some ⟨P, 0, none⟩) N N]) (cfI l)) :
    Calls Tryd.prog 47 #[.slice sp N cap, .int .i64 k] w (AnsE w (topV l k) (topE l k)) := by
  have hNm : N ≤ 9223372036854775807 := by rw [← hN]; exact hl.len
  have HB0 := Lib.hid (Below.refl w.heap.size w)
  have HC := Lib.hid (fun W g (hg : g = W.heap.size) (hb : RowKit.Below w.heap.size w W) => check_any _ _ 1 1 [l] rfl (vecs_new1 W g hg sp cap N l hN (hl.below hb)))
  simp only [chkL1] at HC
  by_cases hc : chkV l = 0
  · obtain ⟨z1, z2, z3⟩ := chkV_zero hc
    have hN5 : N ≤ 512 := by omega
    by_cases hk : 1 ≤ k ∧ k ≤ (N : Int)
    · obtain ⟨q, hq⟩ : ∃ q : Nat, k = (q : Int) := ⟨k.toNat, by omega⟩
      subst hq
      have hE : topE l (q : Int) = 0 := by unfold topE; rw [if_neg (by omega), if_neg (by omega)]
      have hV : topV l (q : Int) = topI l q := by unfold topV; rw [if_pos hE, Int.toNat_natCast]
      rw [hE, hV]
      rw [hc] at HC
      have HT : Hid (cnt (q : Int) (N : Int) = true) := Lib.hid (cnt_yes hk)
      have HF := Lib.hid (fun W (P : Nat) (hP : w.heap.size ≤ P) (hb : RowKit.Below w.heap.size w W) hr => topm_any W sp cap N P q l hN (by omega) (by omega) (by omega) (by omega) w hl hP hb hr (hp hc P))
      have HTl := Lib.hid (topI_length l q)
      obtain ⟨T, hT⟩ : ∃ T, topI l q = T := ⟨_, rfl⟩
      rw [hT] at HF HTl ⊢
      clear hV hE hc z1 z2 z3 hl hN hT hk hp
      go_enter Tryd.func47, Tryd.ntmps47
      go_wp2_with fail
      refine (HC.out _ _ rfl HB0.out).mono ?_
      rintro e w1 ⟨rfl, hb1⟩
      have HB1 := Lib.hid ((HB0.out.alloc (Nat.le_refl _) (.cells #[.slice sp N cap] 39)).trans (hb1.mono (by simp)))
      clear hb1
      go_wp2_with fail
      refine (count_any _ _ _).mono ?_
      rintro e w' ⟨rfl, rfl⟩
      rw [HT.out]
      go_wp2_with fail
      refine (orderOf_any w1 sp cap N hN5).mono ?_
      rintro e w2 ⟨rfl, hb2, hr2⟩
      have HB2 := Lib.hid (HB1.out.trans (hb2.mono HB1.out.size))
      have HFF := Lib.hid (HF.out w2 (w1.heap.size + 1) (by have := HB1.out.size; omega) HB2.out hr2)
      clear hb2 hr2
      go_wp2_with fail
      refine HFF.out.mono ?_
      rintro e w3 ⟨s3, c3, rfl, hn3, hb3⟩
      have HN3 := Lib.hid hn3
      have HB3 := Lib.hid hb3
      clear hn3 hb3
      go_wp2
      go_ret2
      exact ⟨s3, c3, by rw [HTl.out]; rfl, HN3.out, HB3.out⟩
    · have hE : topE l k = 10 := by unfold topE; rw [if_neg (by omega), if_pos (by omega)]
      have hV : topV l k = [] := by unfold topV; rw [if_neg (by omega)]
      rw [hE, hV]
      rw [hc] at HC
      have HT : Hid (cnt k (N : Int) = false) := Lib.hid (cnt_no hk)
      clear hV hE hc z1 z2 z3 hl hN hk hp
      go_enter Tryd.func47, Tryd.ntmps47
      go_wp2_with fail
      refine (HC.out _ _ rfl HB0.out).mono ?_
      rintro e w1 ⟨rfl, hb1⟩
      have HB1 := Lib.hid ((HB0.out.alloc (Nat.le_refl _) (.cells #[.slice sp N cap] 39)).trans (hb1.mono (by simp)))
      clear hb1
      go_wp2_with fail
      refine (count_any _ _ _).mono ?_
      rintro e w' ⟨rfl, rfl⟩
      rw [HT.out]
      go_wp2
      go_ret2
      exact AnsE.no HB1.out
  · have hE : topE l k = chkV l := by unfold topE; rw [if_pos hc]
    have hV : topV l k = [] := by unfold topV; rw [if_neg (by omega)]
    rw [hE, hV]
    have hne := ne0 hc
    obtain ⟨E, hEE⟩ : ∃ E, chkV l = E := ⟨_, rfl⟩
    rw [hEE] at HC hne ⊢
    clear hV hE hc hl hN hEE hp
    go_enter Tryd.func47, Tryd.ntmps47
    go_wp2_with fail
    refine (HC.out _ _ rfl HB0.out).mono ?_
    rintro e w1 ⟨rfl, hb1⟩
    have HB1 := Lib.hid ((HB0.out.alloc (Nat.le_refl _) (.cells #[.slice sp N cap] 39)).trans (hb1.mono (by simp)))
    clear hb1
    go_wp2
    go_ret2
    exact AnsE.no HB1.out
theorem top_small (w : World) (sp : Option Addr) (cap N : Nat) (l : List Int) (k : Int) (hN : l.length = N) (hl : Nums w sp cap l) (h12 : N ≤ 12) (k1 : -9223372036854775808 ≤ k) (k2 : k ≤ 9223372036854775807) :
    Calls Tryd.prog 47 #[.slice sp N cap, .int .i64 k] w (AnsE w (topV l k) (topE l k)) :=
  ttop_any w sp cap N l k hN hl k1 k2 fun _ P => pdq_small ⟨eg_of Tryd.func71 (by kernel_rfl) (by kernel_rfl), cmp_ord w sp _ cap N N N l hN hl, by omega⟩ (swo_ord l) P h12
end Go.Proofs.YtmolkbmdfkeniaaDoor.Tn
