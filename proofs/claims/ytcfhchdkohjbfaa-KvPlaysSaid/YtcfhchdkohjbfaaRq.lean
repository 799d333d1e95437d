/- Pools of rows in pages: the document's Share of the law's. -/
import Derived.Test.YtcfhchdkohjbfaaRt
namespace Go.Proofs.Ytcfhchdkohjbfaa.Kv
set_option maxRecDepth 100000
open Go.ChangeShapes Go.WideShapes Go.ChangeAt Go.RowKit Go.Proofs.Ytcfhchdkohjbfaa.Tn
def shT (q r b k N cp n m cap : Nat) (sp : Option Addr) : Nat → Option Value
  | 0 => some (.pointer (some ⟨q, 0, none⟩))
  | 1 => some (.slice none 0 0)
  | 2 => some (.pointer (some ⟨r, 0, none⟩))
  | 3 => some (.pointer (some ⟨r, 0, none⟩))
  | 4 => some (.pointer (some ⟨r, 0, none⟩))
  | 5 => some (.slice (some ⟨b, 0, none⟩) N cp)
  | 6 => some (.int .i64 (k : Int))
  | 7 => some (.pointer (some ⟨b, k * 3, none⟩))
  | 8 => some (.pointer (some ⟨b, k * 3, none⟩))
  | 9 => some (.slice sp n cap)
  | 10 => some (.int .i64 (m : Int))
  | 11 => some (.slice sp m cap)
  | 13 => some (.pointer (some ⟨q, 0, none⟩))
  | _ => none
def shP (q r b k N cp m s mP u0 cg : Nat) (sg : Option Addr) : Nat → Option Value
  | 0 => some (.pointer (some ⟨q, 1, none⟩))
  | 1 => some (.slice none 0 0)
  | 2 => some (.pointer (some ⟨r, 0, none⟩))
  | 3 => some (.pointer (some ⟨r, 0, none⟩))
  | 4 => some (.pointer (some ⟨r, 0, none⟩))
  | 5 => some (.slice (some ⟨b, 0, none⟩) N cp)
  | 6 => some (.int .i64 (k : Int))
  | 7 => some (.pointer (some ⟨b, k * 3, none⟩))
  | 8 => some (.pointer (some ⟨b, k * 3 + 1, none⟩))
  | 9 => some (.slice sg mP cg)
  | 10 => some (.int .i64 (m : Int))
  | 11 => some (.pointer (some ⟨r, 0, none⟩))
  | 12 => some (.pointer (some ⟨r, 0, none⟩))
  | 13 => some (.pointer (some ⟨r, 2, none⟩))
  | 14 => some (.int .i64 (s : Int))
  | 15 => some (.int .i64 ((m + s : Nat) : Int))
  | 16 => some (.int .i64 ((m + s - 1 : Nat) : Int))
  | 17 => some (.pointer (some ⟨r, 0, none⟩))
  | 18 => some (.pointer (some ⟨r, 0, none⟩))
  | 19 => some (.pointer (some ⟨r, 2, none⟩))
  | 20 => some (.int .i64 (s : Int))
  | 21 => some (.int .i64 (u0 : Int))
  | 22 => some (.slice sg u0 cg)
  | 24 => some (.pointer (some ⟨q, 1, none⟩))
  | _ => none
def shR (_q r b N cp : Nat) (lv pv : Value) : Nat → Option Value
  | 0 => some (.pointer (some ⟨r, 0, none⟩))
  | 1 => some (.pointer (some ⟨r, 0, none⟩))
  | 2 => some (.pointer (some ⟨r, 0, none⟩))
  | 3 => some (.pointer (some ⟨r, 0, none⟩))
  | 4 => some (.slice (some ⟨b, 0, none⟩) N cp)
  | 5 => some (.agg #[lv, pv, .bool true])
  | 8 => some (.pointer (some ⟨r, 0, none⟩))
  | 9 => some (.pointer (some ⟨r, 0, none⟩))
  | _ => none
set_option maxHeartbeats 16000000 in
theorem share_yes {w : World} {τ : Tags} {r : Nat} {D : Doc Int} (h : Ref w τ r D) (hl : Low D) (k : Nat) (L : List Int) (P : List Nat) (hq : D.rows[k]? = some (some (L, P))) (hs0 : 1 ≤ D.size) (hs1 : D.size ≤ 64) (hN1 : D.rows.length ≤ 1023) (m : Nat) (hm : m ≤ L.length) (u0 : Nat) (hu0 : (m + D.size - 1) / D.size = u0) (huP : u0 ≤ P.length) :
    Calls Try.prog 36 #[.pointer (some ⟨r, 0, none⟩), .int .i64 (k : Int), .int .i64 (m : Int)] w fun e w' => e = .returned (.tuple #[.int .i64 (D.rows.length : Int), .int .i64 0]) ∧ ∃ τ', Ref w' τ' r (addRow D (L.take m) (P.take u0)) ∧ Step Tag.theirs τ τ' w w' := by
  have hRt := right_ref h hl.1 (k : Int)
  rw [rightD_nat D k _ hq] at hRt
  obtain ⟨ly, h⟩ := h
  have HRf := Lib.hid h
  obtain ⟨c0, _, c2⟩ := h.cells
  obtain ⟨sr, cp, hv, _, _, hrow⟩ := h.slice
  obtain ⟨rfl, u0c, u1c, _⟩ := hrow k _ hq
  obtain ⟨r1, r2, r3, r4⟩ := h.row k L P hq
  obtain ⟨N, hN⟩ : ∃ N, D.rows.length = N := ⟨_, rfl⟩
  have hkN : k < N := by rw [← hN]; exact (List.getElem?_eq_some_iff.1 hq).1
  have HLv := Lib.hid hv
  rw [hN] at hv hN1 ⊢
  rw [hv] at c0
  simp only [Option.isSome_some, if_true] at u0c u1c
  obtain ⟨sp, cap, hlv, _⟩ := r1.sl
  obtain ⟨sg, cg, hpv, hpm, hcgm, _⟩ := nat_at r3
  rw [List.length_map] at hlv
  obtain ⟨n, hn⟩ : ∃ n, L.length = n := ⟨_, rfl⟩
  obtain ⟨mP, hmP⟩ : ∃ m, P.length = m := ⟨_, rfl⟩
  obtain ⟨s, hs⟩ : ∃ s, D.size = s := ⟨_, rfl⟩
  have hnb : n ≤ 16384 := by rw [← hn]; exact (hl.2 k L P hq).2
  have hmb : mP ≤ 256 := by rw [← hmP]; exact (hl.2 k L P hq).1
  rw [hmP] at hpv hpm huP
  rw [hn] at hm
  rw [hs] at c2 hs0 hs1 hu0
  rw [hn] at hlv
  rw [hlv] at u0c r1
  rw [hpv] at u1c r3
  have hcap : n ≤ cap := by
    obtain ⟨_, _, e1, h1, _⟩ := r1.slice
    cases e1
    rw [List.length_map, hn] at h1
    exact h1
  have hrc := Row.cut (xs := L.map (Value.int .i64)) (sp := sp) (cap := cap) (by rw [List.length_map, hn]; exact r1) m (by rw [List.length_map, hn]; exact hm)
  rw [← List.map_take] at hrc
  have hrp := Row.cut (xs := P.map natV) (sp := sg) (cap := cg) (by rw [List.length_map, hmP]; exact r3) u0 (by rw [List.length_map, hmP]; exact huP)
  rw [← List.map_take] at hrp
  have hslL := hrc.asSl
  have hslP := hrp.asSl
  obtain ⟨b, hb⟩ : ∃ b, ly.b = b := ⟨_, rfl⟩
  rw [hb] at c0 u0c u1c
  have HRk : Hid (∀ W, Below w.heap.size w W → W.cell? ⟨r, 0, none⟩ = some (.slice (some ⟨b, 0, none⟩) N cp) ∧ W.cell? ⟨r, 2, none⟩ = some (.int .i64 (s : Int)) ∧ W.cell? ⟨b, k * 3, none⟩ = some (.slice sp n cap) ∧ W.cell? ⟨b, k * 3 + 1, none⟩ = some (.slice sg mP cg)) := Lib.hid fun W hW =>
    ⟨(hW.cell (block_lt_of_cell c0)).trans c0, (hW.cell (block_lt_of_cell c2)).trans c2, (hW.cell (block_lt_of_cell u0c)).trans u0c, (hW.cell (block_lt_of_cell u1c)).trans u1c⟩
  have HSL := Lib.hid hslL
  have HSP := Lib.hid hslP
  have HLt : Hid ((L.take m).length = m) := Lib.hid (by rw [List.length_take, hn]; omega)
  have HPt : Hid ((P.take u0).length = u0) := Lib.hid (by rw [List.length_take, hmP]; omega)
  have HMc : Hid (m ≤ cap) := Lib.hid (by omega)
  have HUc : Hid (u0 ≤ cg) := Lib.hid (by omega)
  have HMb : Hid (m ≤ 1000000) := Lib.hid (by omega)
  have HUb : Hid (u0 ≤ 1000000) := Lib.hid (by omega)
  have HAr : Hid (IntKind.i64.wrap ((m : Int) + (s : Int)) = ((m + s : Nat) : Int) ∧ IntKind.i64.wrap (((m + s : Nat) : Int) - 1) = ((m + s - 1 : Nat) : Int) ∧ (s : Int) ≠ 0 ∧ IntKind.i64.wrap (((m + s - 1 : Nat) : Int).tdiv (s : Int)) = (u0 : Int)) := Lib.hid (by
    refine ⟨?_, ?_, by omega, ?_⟩
    · rw [IntWalk.i64_in _ (by omega)]; omega
    · rw [IntWalk.i64_in _ (by omega)]; omega
    · have e : ((m + s - 1 : Nat) : Int).tdiv (s : Int) = (u0 : Int) := by rw [← hu0]; exact (Int.ofNat_tdiv _ _).symm
      rw [e]
      exact IntWalk.i64_in _ (by omega))
  have HK := Lib.hid hkN
  have HRt := Lib.hid hRt
  have HNn := Lib.hid hN
  have b1 : (0 : Int) ≤ (k : Int) := by omega
  have b2 : (k : Int) < (N : Int) := by omega
  have d1 : decide ((m : Int) < 0) = false := by simp
  have d2 : decide (n < m) = false := by simp; omega
  have d3 : decide ((n : Int) < (m : Int)) = false := by simp; omega
  have d4 : decide (1024 ≤ N) = false := by simp; omega
  have d5 : decide ((1024 : Int) ≤ (N : Int)) = false := by simp; omega
  have HB0 : Hid (∀ W, Below w.heap.size w W → W.heap[w.heap.size]? = some (.cells #[.slice none 0 0, .slice none 0 0, .bool true] 73 (0, 0)) → ShB w w.heap.size (.slice none 0 0) (.slice none 0 0) none none [] [] W) := Lib.hid fun W h1 h2 => ⟨h1, h2, Nat.le_refl _, Row.nil _ _ _, fun c hc => (by cases hc), Row.nil _ _ _, fun c hc => (by cases hc)⟩
  obtain ⟨q, hqq⟩ : ∃ q, w.heap.size = q := ⟨_, rfl⟩
  have HQq := Lib.hid hqq
  have HL1 : Hid (N ≤ 1023) := Lib.hid hN1
  have HVl : Hid (ly.v = .slice (some ⟨b, 0, none⟩) N cp) := Lib.hid (by rw [HLv.out, hN, hb])
  clear h hl hq hRt hv hrow r1 r2 r3 r4 hN hlv hpv hn hmP hs hb hslL hslP hrc hrp hqq HLv hu0
  go_enter Try.func36, Try.ntmps36
  go_wp2_with fail
  refine HRt.out.mono ?_
  rintro e w9 ⟨rfl, rfl⟩
  go_upto_region 8 with fail
  rw [HQq.out]
  refine I.gen_w (Q := fun w => Code.wp _ _ _ _ w) _ (fun W => ShB w q (.slice none 0 0) (.slice none 0 0) none none [] [] W) (by
    have := HB0.out _ ((Below.refl w.heap.size w).alloc (Nat.le_refl _) _) (alloc_new w _)
    rw [HQq.out] at this
    exact this) ?_
  clear HB0 c0 c2 u0c u1c
  rintro w1 k1
  have B1 := Lib.hid k1
  have HF : Hid ((∀ W, Below w1.heap.size w1 W → W.cell? ⟨q, 0, none⟩ = some (.slice none 0 0)) ∧ (∀ W, Below w1.heap.size w1 W → W.cell? ⟨r, 0, none⟩ = some (.slice (some ⟨b, 0, none⟩) N cp)) ∧ ∀ W, Below w1.heap.size w1 W → W.cell? ⟨b, k * 3, none⟩ = some (.slice sp n cap)) :=
    Lib.hid ⟨fun W hW => (B1.out.later hW).cells.1, fun W hW => (HRk.out W (B1.out.later hW).below).1, fun W hW => (HRk.out W (B1.out.later hW).below).2.2.1⟩
  have HSl := Lib.hid (Sl.below HSL.out (Nat.le_refl _) k1.below)
  clear k1
  refine Tn.wp_region_spec (C := fun W => Below w1.heap.size w1 W) (Le := fun W W' => Below W.heap.size W W') 14 (fun _ => slQ 12 w1.heap.size ((L.take m).map (Value.int .i64)) (shT q r b k N cp n m cap sp)) (by kernel_rfl) (by kernel_rfl) ⟨rfl, rfl, rfl, Nat.le_refl _, fun _ _ => rfl⟩ (fun _ _ _ _ _ _ h => h) (fun _ j W W' y hle h => slQ_later hle h) (fun ixx yy => ∀ z, shT q r b k N cp n m cap sp ixx = some z → yy = z) (fun _ _ _ _ h => h.2) (fun ixx => (shT q r b k N cp n m cap sp ixx).getD undef) (fun ixx z h => by simp [h]) ?_ ?_
  · intro u hu
    have h0 : u 0 = .pointer (some ⟨q, 0, none⟩) := hu 0 _ rfl
    have h1 : u 1 = .slice none 0 0 := hu 1 _ rfl
    have h2 : u 2 = .pointer (some ⟨r, 0, none⟩) := hu 2 _ rfl
    have h3 : u 3 = .pointer (some ⟨r, 0, none⟩) := hu 3 _ rfl
    have h4 : u 4 = .pointer (some ⟨r, 0, none⟩) := hu 4 _ rfl
    have h5 : u 5 = .slice (some ⟨b, 0, none⟩) N cp := hu 5 _ rfl
    have h6 : u 6 = .int .i64 (k : Int) := hu 6 _ rfl
    have h7 : u 7 = .pointer (some ⟨b, k * 3, none⟩) := hu 7 _ rfl
    have h8 : u 8 = .pointer (some ⟨b, k * 3, none⟩) := hu 8 _ rfl
    have h9 : u 9 = .slice sp n cap := hu 9 _ rfl
    have h10 : u 10 = .int .i64 (m : Int) := hu 10 _ rfl
    have h11 : u 11 = .slice sp m cap := hu 11 _ rfl
    have h13 : u 13 = .pointer (some ⟨q, 0, none⟩) := hu 13 _ rfl
    simp only [List.take_succ_cons, List.take_zero]
    refine Tn.spec_cons (fun W hC hd => ⟨by rfl, ?_⟩) ?_
    · exact Tn.gives_val (.pointer (some ⟨q, 0, none⟩)) W (exec_fld 73 0 (.tmp 8) rfl _ _ rfl (by kernel_rfl)) ⟨hC, Below.refl _ _, (fun h => absurd h (by decide)), fun z hz => by cases hz; rfl⟩
    simp only [Act.put, List.setIfInBounds_toArray, List.set_cons_succ, List.set_cons_zero, Nat.reduceAdd]
    rw [h0]
    refine Tn.spec_cons (fun W hC hd => ⟨by rfl, ?_⟩) ?_
    · exact Tn.gives_val (.slice none 0 0) W (exec_load1 40 (.tmp 35) rfl ⟨q, 0, none⟩ rfl _ (HF.out.1 W hC) _ Try.underlying40 rfl) ⟨hC, Below.refl _ _, (fun h => absurd h (by decide)), fun z hz => by cases hz; rfl⟩
    simp only [Act.put, List.setIfInBounds_toArray, List.set_cons_succ, List.set_cons_zero, Nat.reduceAdd]
    rw [h1]
    refine Tn.spec_cons (fun W hC hd => ⟨by rfl, ?_⟩) ?_
    · exact Tn.gives_val (.pointer (some ⟨r, 0, none⟩)) W (by rfl) ⟨hC, Below.refl _ _, (fun h => absurd h (by decide)), fun z hz => by cases hz; rfl⟩
    simp only [Act.put, List.setIfInBounds_toArray, List.set_cons_succ, List.set_cons_zero, Nat.reduceAdd]
    rw [h2]
    refine Tn.spec_cons (fun W hC hd => ⟨by rfl, ?_⟩) ?_
    · exact Tn.gives_val (.pointer (some ⟨r, 0, none⟩)) W (exec_nilc (.tmp 37) rfl _ rfl) ⟨hC, Below.refl _ _, (fun h => absurd h (by decide)), fun z hz => by cases hz; rfl⟩
    simp only [Act.put, List.setIfInBounds_toArray, List.set_cons_succ, List.set_cons_zero, Nat.reduceAdd]
    rw [h3]
    refine Tn.spec_cons (fun W hC hd => ⟨by rfl, ?_⟩) ?_
    · exact Tn.gives_val (.pointer (some ⟨r, 0, none⟩)) W (exec_fld 32 0 (.tmp 38) rfl _ _ rfl (by kernel_rfl)) ⟨hC, Below.refl _ _, (fun h => absurd h (by decide)), fun z hz => by cases hz; rfl⟩
    simp only [Act.put, List.setIfInBounds_toArray, List.set_cons_succ, List.set_cons_zero, Nat.reduceAdd]
    rw [h4]
    refine Tn.spec_cons (fun W hC hd => ⟨by rfl, ?_⟩) ?_
    · exact Tn.gives_val (.slice (some ⟨b, 0, none⟩) N cp) W (exec_load1 30 (.tmp 39) rfl ⟨r, 0, none⟩ rfl _ (HF.out.2.1 W hC) _ Try.underlying30 rfl) ⟨hC, Below.refl _ _, (fun h => absurd h (by decide)), fun z hz => by cases hz; rfl⟩
    simp only [Act.put, List.setIfInBounds_toArray, List.set_cons_succ, List.set_cons_zero, Nat.reduceAdd]
    rw [h5]
    refine Tn.spec_cons (fun W hC hd => ⟨by rfl, ?_⟩) ?_
    · exact Tn.gives_val (.int .i64 (k : Int)) W (by rfl) ⟨hC, Below.refl _ _, (fun h => absurd h (by decide)), fun z hz => by cases hz; rfl⟩
    simp only [Act.put, List.setIfInBounds_toArray, List.set_cons_succ, List.set_cons_zero, Nat.reduceAdd]
    rw [h6]
    refine Tn.spec_cons (fun W hC hd => ⟨by rfl, ?_⟩) ?_
    · exact Tn.gives_val (.pointer (some ⟨b, k * 3, none⟩)) W (exec_at3 (.tmp 40) (.tmp 41) rfl _ _ _ _ rfl rfl HK.out) ⟨hC, Below.refl _ _, (fun h => absurd h (by decide)), fun z hz => by cases hz; rfl⟩
    simp only [Act.put, List.setIfInBounds_toArray, List.set_cons_succ, List.set_cons_zero, Nat.reduceAdd]
    rw [h7]
    refine Tn.spec_cons (fun W hC hd => ⟨by rfl, ?_⟩) ?_
    · exact Tn.gives_val (.pointer (some ⟨b, k * 3, none⟩)) W (exec_fld 73 0 (.tmp 42) rfl _ _ rfl (by kernel_rfl)) ⟨hC, Below.refl _ _, (fun h => absurd h (by decide)), fun z hz => by cases hz; rfl⟩
    simp only [Act.put, List.setIfInBounds_toArray, List.set_cons_succ, List.set_cons_zero, Nat.reduceAdd]
    rw [h8]
    refine Tn.spec_cons (fun W hC hd => ⟨by rfl, ?_⟩) ?_
    · exact Tn.gives_val (.slice sp n cap) W (exec_load1 40 (.tmp 43) rfl ⟨b, k * 3, none⟩ rfl _ (HF.out.2.2 W hC) _ Try.underlying40 rfl) ⟨hC, Below.refl _ _, (fun h => absurd h (by decide)), fun z hz => by cases hz; rfl⟩
    simp only [Act.put, List.setIfInBounds_toArray, List.set_cons_succ, List.set_cons_zero, Nat.reduceAdd]
    rw [h9]
    refine Tn.spec_cons (fun W hC hd => ⟨by rfl, ?_⟩) ?_
    · exact Tn.gives_val (.int .i64 (m : Int)) W (by rfl) ⟨hC, Below.refl _ _, (fun h => absurd h (by decide)), fun z hz => by cases hz; rfl⟩
    simp only [Act.put, List.setIfInBounds_toArray, List.set_cons_succ, List.set_cons_zero, Nat.reduceAdd]
    rw [h10]
    refine Tn.spec_cons (fun W hC hd => ⟨by rfl, ?_⟩) ?_
    · exact Tn.gives_val (.slice sp m cap) W (exec_slice 40 3 Try.underlying40 size3 (.tmp 44) (.tmp 45) rfl _ _ _ _ rfl rfl HMc.out) ⟨hC, Below.refl _ _, (fun h => absurd h (by decide)), fun z hz => by cases hz; rfl⟩
    simp only [Act.put, List.setIfInBounds_toArray, List.set_cons_succ, List.set_cons_zero, Nat.reduceAdd]
    rw [h11]
    refine Tn.spec_cons (fun W hC hd => ⟨by rfl, ?_⟩) ?_
    · exact gives_append_nil (.tmp 36) (.tmp 46) rfl _ _ _ ((L.take m).map (Value.int .i64)) rfl rfl (by rw [List.length_map]; exact HLt.out) (HSl.out.below (Nat.le_refl _) hC) ((one_ints _)) HMb.out (fun v' W' b' h1 h2 h3 => ⟨hC.trans (h2.mono hC.size), h2, (fun _ => ⟨b', h1, fun c hc => Nat.le_trans hC.size (h3 c hc)⟩), fun z hz => by cases hz⟩)
    simp only [Act.put, List.setIfInBounds_toArray, List.set_cons_succ, List.set_cons_zero, Nat.reduceAdd]
    refine Tn.spec_cons (fun W hC hd => ⟨by rfl, ?_⟩) ?_
    · exact Tn.gives_val (.pointer (some ⟨q, 0, none⟩)) W (exec_fld 73 0 (.tmp 8) rfl _ _ rfl (by kernel_rfl)) ⟨hC, Below.refl _ _, (fun h => absurd h (by decide)), fun z hz => by cases hz; rfl⟩
    simp only [Act.put, List.setIfInBounds_toArray, List.set_cons_succ, List.set_cons_zero, Nat.reduceAdd]
    rw [h13]
    exact Tn.spec_nil
  · intro u W hu hC hP
    have h0 : u 0 = .pointer (some ⟨q, 0, none⟩) := hu 0 _ rfl
    have h1 : u 1 = .slice none 0 0 := hu 1 _ rfl
    have h2 : u 2 = .pointer (some ⟨r, 0, none⟩) := hu 2 _ rfl
    have h3 : u 3 = .pointer (some ⟨r, 0, none⟩) := hu 3 _ rfl
    have h4 : u 4 = .pointer (some ⟨r, 0, none⟩) := hu 4 _ rfl
    have h5 : u 5 = .slice (some ⟨b, 0, none⟩) N cp := hu 5 _ rfl
    have h6 : u 6 = .int .i64 (k : Int) := hu 6 _ rfl
    have h7 : u 7 = .pointer (some ⟨b, k * 3, none⟩) := hu 7 _ rfl
    have h8 : u 8 = .pointer (some ⟨b, k * 3, none⟩) := hu 8 _ rfl
    have h9 : u 9 = .slice sp n cap := hu 9 _ rfl
    have h10 : u 10 = .int .i64 (m : Int) := hu 10 _ rfl
    have h11 : u 11 = .slice sp m cap := hu 11 _ rfl
    have h13 : u 13 = .pointer (some ⟨q, 0, none⟩) := hu 13 _ rfl
    obtain ⟨b15, k15, k16⟩ := (hP 12 (by decide)).1 rfl
    obtain ⟨sq, cq, e15, _⟩ := k15.slice
    rw [List.length_map, HLt.out] at e15
    simp only [List.take_succ_cons, List.take_zero, List.drop_succ_cons, List.drop_zero, Tn.putAll, Act.put, List.setIfInBounds_toArray, List.set_cons_succ, List.set_cons_zero, Nat.reduceAdd]
    rw [e15] at k15
    rw [h0, h1, h2, h3, h4, h5, h6, h7, h8, h9, h10, h11, e15, h13]
    have HK15 := Lib.hid k15
    have HK16 := Lib.hid k16
    have HCw := Lib.hid hC
    clear hu hC hP e15 k15 k16 h0 h1 h2 h3 h4 h5 h6 h7 h8 h9 h10 h11 h13
    have c9 := (B1.out.later HCw.out).cells
    have q1 := c9.1
    have q2 := c9.2.2.2 0
    have HS9 := Lib.hid (B1.out.putL HCw.out (v := .slice sq m cq) HK15.out HK16.out)
    clear c9
    go_upto_region 9 with fail
    refine I.gen_w (Q := fun w => Code.wp _ _ _ _ w) _ (fun W => ∃ lb, ShB w q (.slice sq m cq) (.slice none 0 0) lb none (L.take m) [] W) ⟨_, HS9.out⟩ ?_
    clear q1 q2 HS9 HK15 HK16 HCw HF B1 HSl
    obtain ⟨lv, hlv⟩ : ∃ lv, Value.slice sq m cq = lv := ⟨_, rfl⟩
    rw [hlv]
    have HO1 : Hid (lv.oneCell' = true) := Lib.hid (by rw [← hlv]; rfl)
    clear hlv
    rintro w2 ⟨lb, k1⟩
    have B1 := Lib.hid k1
    have HF : Hid ((∀ W, Below w2.heap.size w2 W → W.cell? ⟨q, 1, none⟩ = some (.slice none 0 0)) ∧ (∀ W, Below w2.heap.size w2 W → W.cell? ⟨r, 0, none⟩ = some (.slice (some ⟨b, 0, none⟩) N cp)) ∧ (∀ W, Below w2.heap.size w2 W → W.cell? ⟨b, k * 3 + 1, none⟩ = some (.slice sg mP cg)) ∧ ∀ W, Below w2.heap.size w2 W → W.cell? ⟨r, 2, none⟩ = some (.int .i64 (s : Int))) :=
      Lib.hid ⟨fun W hW => (B1.out.later hW).cells.2.1, fun W hW => (HRk.out W (B1.out.later hW).below).1, fun W hW => (HRk.out W (B1.out.later hW).below).2.2.2, fun W hW => (HRk.out W (B1.out.later hW).below).2.1⟩
    have HSl := Lib.hid (Sl.below HSP.out (Nat.le_refl _) k1.below)
    clear k1
    refine Tn.wp_region_spec (C := fun W => Below w2.heap.size w2 W) (Le := fun W W' => Below W.heap.size W W') 25 (fun _ => slQ 23 w2.heap.size ((P.take u0).map natV) (shP q r b k N cp m s mP u0 cg sg)) (by kernel_rfl) (by kernel_rfl) ⟨rfl, rfl, rfl, Nat.le_refl _, fun _ _ => rfl⟩ (fun _ _ _ _ _ _ h => h) (fun _ j W W' y hle h => slQ_later hle h) (fun ixx yy => ∀ z, shP q r b k N cp m s mP u0 cg sg ixx = some z → yy = z) (fun _ _ _ _ h => h.2) (fun ixx => (shP q r b k N cp m s mP u0 cg sg ixx).getD undef) (fun ixx z h => by simp [h]) ?_ ?_
    · intro u hu
      have h0 : u 0 = .pointer (some ⟨q, 1, none⟩) := hu 0 _ rfl
      have h1 : u 1 = .slice none 0 0 := hu 1 _ rfl
      have h2 : u 2 = .pointer (some ⟨r, 0, none⟩) := hu 2 _ rfl
      have h3 : u 3 = .pointer (some ⟨r, 0, none⟩) := hu 3 _ rfl
      have h4 : u 4 = .pointer (some ⟨r, 0, none⟩) := hu 4 _ rfl
      have h5 : u 5 = .slice (some ⟨b, 0, none⟩) N cp := hu 5 _ rfl
      have h6 : u 6 = .int .i64 (k : Int) := hu 6 _ rfl
      have h7 : u 7 = .pointer (some ⟨b, k * 3, none⟩) := hu 7 _ rfl
      have h8 : u 8 = .pointer (some ⟨b, k * 3 + 1, none⟩) := hu 8 _ rfl
      have h9 : u 9 = .slice sg mP cg := hu 9 _ rfl
      have h10 : u 10 = .int .i64 (m : Int) := hu 10 _ rfl
      have h11 : u 11 = .pointer (some ⟨r, 0, none⟩) := hu 11 _ rfl
      have h12 : u 12 = .pointer (some ⟨r, 0, none⟩) := hu 12 _ rfl
      have h13 : u 13 = .pointer (some ⟨r, 2, none⟩) := hu 13 _ rfl
      have h14 : u 14 = .int .i64 (s : Int) := hu 14 _ rfl
      have h15 : u 15 = .int .i64 ((m + s : Nat) : Int) := hu 15 _ rfl
      have h16 : u 16 = .int .i64 ((m + s - 1 : Nat) : Int) := hu 16 _ rfl
      have h17 : u 17 = .pointer (some ⟨r, 0, none⟩) := hu 17 _ rfl
      have h18 : u 18 = .pointer (some ⟨r, 0, none⟩) := hu 18 _ rfl
      have h19 : u 19 = .pointer (some ⟨r, 2, none⟩) := hu 19 _ rfl
      have h20 : u 20 = .int .i64 (s : Int) := hu 20 _ rfl
      have h21 : u 21 = .int .i64 (u0 : Int) := hu 21 _ rfl
      have h22 : u 22 = .slice sg u0 cg := hu 22 _ rfl
      have h24 : u 24 = .pointer (some ⟨q, 1, none⟩) := hu 24 _ rfl
      simp only [List.take_succ_cons, List.take_zero]
      refine Tn.spec_cons (fun W hC hd => ⟨by rfl, ?_⟩) ?_
      · exact Tn.gives_val (.pointer (some ⟨q, 1, none⟩)) W (exec_fld 73 1 (.tmp 8) rfl _ _ rfl (by kernel_rfl)) ⟨hC, Below.refl _ _, (fun h => absurd h (by decide)), fun z hz => by cases hz; rfl⟩
      simp only [Act.put, List.setIfInBounds_toArray, List.set_cons_succ, List.set_cons_zero, Nat.reduceAdd]
      rw [h0]
      refine Tn.spec_cons (fun W hC hd => ⟨by rfl, ?_⟩) ?_
      · exact Tn.gives_val (.slice none 0 0) W (exec_load1 40 (.tmp 49) rfl ⟨q, 1, none⟩ rfl _ (HF.out.1 W hC) _ Try.underlying40 rfl) ⟨hC, Below.refl _ _, (fun h => absurd h (by decide)), fun z hz => by cases hz; rfl⟩
      simp only [Act.put, List.setIfInBounds_toArray, List.set_cons_succ, List.set_cons_zero, Nat.reduceAdd]
      rw [h1]
      refine Tn.spec_cons (fun W hC hd => ⟨by rfl, ?_⟩) ?_
      · exact Tn.gives_val (.pointer (some ⟨r, 0, none⟩)) W (by rfl) ⟨hC, Below.refl _ _, (fun h => absurd h (by decide)), fun z hz => by cases hz; rfl⟩
      simp only [Act.put, List.setIfInBounds_toArray, List.set_cons_succ, List.set_cons_zero, Nat.reduceAdd]
      rw [h2]
      refine Tn.spec_cons (fun W hC hd => ⟨by rfl, ?_⟩) ?_
      · exact Tn.gives_val (.pointer (some ⟨r, 0, none⟩)) W (exec_nilc (.tmp 51) rfl _ rfl) ⟨hC, Below.refl _ _, (fun h => absurd h (by decide)), fun z hz => by cases hz; rfl⟩
      simp only [Act.put, List.setIfInBounds_toArray, List.set_cons_succ, List.set_cons_zero, Nat.reduceAdd]
      rw [h3]
      refine Tn.spec_cons (fun W hC hd => ⟨by rfl, ?_⟩) ?_
      · exact Tn.gives_val (.pointer (some ⟨r, 0, none⟩)) W (exec_fld 32 0 (.tmp 52) rfl _ _ rfl (by kernel_rfl)) ⟨hC, Below.refl _ _, (fun h => absurd h (by decide)), fun z hz => by cases hz; rfl⟩
      simp only [Act.put, List.setIfInBounds_toArray, List.set_cons_succ, List.set_cons_zero, Nat.reduceAdd]
      rw [h4]
      refine Tn.spec_cons (fun W hC hd => ⟨by rfl, ?_⟩) ?_
      · exact Tn.gives_val (.slice (some ⟨b, 0, none⟩) N cp) W (exec_load1 30 (.tmp 53) rfl ⟨r, 0, none⟩ rfl _ (HF.out.2.1 W hC) _ Try.underlying30 rfl) ⟨hC, Below.refl _ _, (fun h => absurd h (by decide)), fun z hz => by cases hz; rfl⟩
      simp only [Act.put, List.setIfInBounds_toArray, List.set_cons_succ, List.set_cons_zero, Nat.reduceAdd]
      rw [h5]
      refine Tn.spec_cons (fun W hC hd => ⟨by rfl, ?_⟩) ?_
      · exact Tn.gives_val (.int .i64 (k : Int)) W (by rfl) ⟨hC, Below.refl _ _, (fun h => absurd h (by decide)), fun z hz => by cases hz; rfl⟩
      simp only [Act.put, List.setIfInBounds_toArray, List.set_cons_succ, List.set_cons_zero, Nat.reduceAdd]
      rw [h6]
      refine Tn.spec_cons (fun W hC hd => ⟨by rfl, ?_⟩) ?_
      · exact Tn.gives_val (.pointer (some ⟨b, k * 3, none⟩)) W (exec_at3 (.tmp 54) (.tmp 55) rfl _ _ _ _ rfl rfl HK.out) ⟨hC, Below.refl _ _, (fun h => absurd h (by decide)), fun z hz => by cases hz; rfl⟩
      simp only [Act.put, List.setIfInBounds_toArray, List.set_cons_succ, List.set_cons_zero, Nat.reduceAdd]
      rw [h7]
      refine Tn.spec_cons (fun W hC hd => ⟨by rfl, ?_⟩) ?_
      · exact Tn.gives_val (.pointer (some ⟨b, k * 3 + 1, none⟩)) W (exec_fld 73 1 (.tmp 56) rfl _ _ rfl (by kernel_rfl)) ⟨hC, Below.refl _ _, (fun h => absurd h (by decide)), fun z hz => by cases hz; rfl⟩
      simp only [Act.put, List.setIfInBounds_toArray, List.set_cons_succ, List.set_cons_zero, Nat.reduceAdd]
      rw [h8]
      refine Tn.spec_cons (fun W hC hd => ⟨by rfl, ?_⟩) ?_
      · exact Tn.gives_val (.slice sg mP cg) W (exec_load1 40 (.tmp 57) rfl ⟨b, k * 3 + 1, none⟩ rfl _ (HF.out.2.2.1 W hC) _ Try.underlying40 rfl) ⟨hC, Below.refl _ _, (fun h => absurd h (by decide)), fun z hz => by cases hz; rfl⟩
      simp only [Act.put, List.setIfInBounds_toArray, List.set_cons_succ, List.set_cons_zero, Nat.reduceAdd]
      rw [h9]
      refine Tn.spec_cons (fun W hC hd => ⟨by rfl, ?_⟩) ?_
      · exact Tn.gives_val (.int .i64 (m : Int)) W (by rfl) ⟨hC, Below.refl _ _, (fun h => absurd h (by decide)), fun z hz => by cases hz; rfl⟩
      simp only [Act.put, List.setIfInBounds_toArray, List.set_cons_succ, List.set_cons_zero, Nat.reduceAdd]
      rw [h10]
      refine Tn.spec_cons (fun W hC hd => ⟨by rfl, ?_⟩) ?_
      · exact Tn.gives_val (.pointer (some ⟨r, 0, none⟩)) W (by rfl) ⟨hC, Below.refl _ _, (fun h => absurd h (by decide)), fun z hz => by cases hz; rfl⟩
      simp only [Act.put, List.setIfInBounds_toArray, List.set_cons_succ, List.set_cons_zero, Nat.reduceAdd]
      rw [h11]
      refine Tn.spec_cons (fun W hC hd => ⟨by rfl, ?_⟩) ?_
      · exact Tn.gives_val (.pointer (some ⟨r, 0, none⟩)) W (exec_nilc (.tmp 60) rfl _ rfl) ⟨hC, Below.refl _ _, (fun h => absurd h (by decide)), fun z hz => by cases hz; rfl⟩
      simp only [Act.put, List.setIfInBounds_toArray, List.set_cons_succ, List.set_cons_zero, Nat.reduceAdd]
      rw [h12]
      refine Tn.spec_cons (fun W hC hd => ⟨by rfl, ?_⟩) ?_
      · exact Tn.gives_val (.pointer (some ⟨r, 2, none⟩)) W (exec_fld 32 2 (.tmp 61) rfl _ _ rfl (by kernel_rfl)) ⟨hC, Below.refl _ _, (fun h => absurd h (by decide)), fun z hz => by cases hz; rfl⟩
      simp only [Act.put, List.setIfInBounds_toArray, List.set_cons_succ, List.set_cons_zero, Nat.reduceAdd]
      rw [h13]
      refine Tn.spec_cons (fun W hC hd => ⟨by rfl, ?_⟩) ?_
      · exact Tn.gives_val (.int .i64 (s : Int)) W (exec_load1 3 (.tmp 62) rfl ⟨r, 2, none⟩ rfl _ (HF.out.2.2.2 W hC) _ Try.underlying3 rfl) ⟨hC, Below.refl _ _, (fun h => absurd h (by decide)), fun z hz => by cases hz; rfl⟩
      simp only [Act.put, List.setIfInBounds_toArray, List.set_cons_succ, List.set_cons_zero, Nat.reduceAdd]
      rw [h14]
      refine Tn.spec_cons (fun W hC hd => ⟨by rfl, ?_⟩) ?_
      · exact Tn.gives_val (.int .i64 ((m + s : Nat) : Int)) W (exec_addS (.tmp 59) (.tmp 63) rfl _ _ _ rfl rfl HAr.out.1) ⟨hC, Below.refl _ _, (fun h => absurd h (by decide)), fun z hz => by cases hz; rfl⟩
      simp only [Act.put, List.setIfInBounds_toArray, List.set_cons_succ, List.set_cons_zero, Nat.reduceAdd]
      rw [h15]
      refine Tn.spec_cons (fun W hC hd => ⟨by rfl, ?_⟩) ?_
      · exact Tn.gives_val (.int .i64 ((m + s - 1 : Nat) : Int)) W (exec_subS (.tmp 64) (.const (.int .i64 1)) rfl _ _ _ rfl rfl HAr.out.2.1) ⟨hC, Below.refl _ _, (fun h => absurd h (by decide)), fun z hz => by cases hz; rfl⟩
      simp only [Act.put, List.setIfInBounds_toArray, List.set_cons_succ, List.set_cons_zero, Nat.reduceAdd]
      rw [h16]
      refine Tn.spec_cons (fun W hC hd => ⟨by rfl, ?_⟩) ?_
      · exact Tn.gives_val (.pointer (some ⟨r, 0, none⟩)) W (by rfl) ⟨hC, Below.refl _ _, (fun h => absurd h (by decide)), fun z hz => by cases hz; rfl⟩
      simp only [Act.put, List.setIfInBounds_toArray, List.set_cons_succ, List.set_cons_zero, Nat.reduceAdd]
      rw [h17]
      refine Tn.spec_cons (fun W hC hd => ⟨by rfl, ?_⟩) ?_
      · exact Tn.gives_val (.pointer (some ⟨r, 0, none⟩)) W (exec_nilc (.tmp 66) rfl _ rfl) ⟨hC, Below.refl _ _, (fun h => absurd h (by decide)), fun z hz => by cases hz; rfl⟩
      simp only [Act.put, List.setIfInBounds_toArray, List.set_cons_succ, List.set_cons_zero, Nat.reduceAdd]
      rw [h18]
      refine Tn.spec_cons (fun W hC hd => ⟨by rfl, ?_⟩) ?_
      · exact Tn.gives_val (.pointer (some ⟨r, 2, none⟩)) W (exec_fld 32 2 (.tmp 67) rfl _ _ rfl (by kernel_rfl)) ⟨hC, Below.refl _ _, (fun h => absurd h (by decide)), fun z hz => by cases hz; rfl⟩
      simp only [Act.put, List.setIfInBounds_toArray, List.set_cons_succ, List.set_cons_zero, Nat.reduceAdd]
      rw [h19]
      refine Tn.spec_cons (fun W hC hd => ⟨by rfl, ?_⟩) ?_
      · exact Tn.gives_val (.int .i64 (s : Int)) W (exec_load1 3 (.tmp 68) rfl ⟨r, 2, none⟩ rfl _ (HF.out.2.2.2 W hC) _ Try.underlying3 rfl) ⟨hC, Below.refl _ _, (fun h => absurd h (by decide)), fun z hz => by cases hz; rfl⟩
      simp only [Act.put, List.setIfInBounds_toArray, List.set_cons_succ, List.set_cons_zero, Nat.reduceAdd]
      rw [h20]
      refine Tn.spec_cons (fun W hC hd => ⟨by rfl, ?_⟩) ?_
      · exact Tn.gives_val (.int .i64 (u0 : Int)) W (exec_quoS (.tmp 65) (.tmp 69) rfl _ _ _ rfl rfl HAr.out.2.2.1 HAr.out.2.2.2) ⟨hC, Below.refl _ _, (fun h => absurd h (by decide)), fun z hz => by cases hz; rfl⟩
      simp only [Act.put, List.setIfInBounds_toArray, List.set_cons_succ, List.set_cons_zero, Nat.reduceAdd]
      rw [h21]
      refine Tn.spec_cons (fun W hC hd => ⟨by rfl, ?_⟩) ?_
      · exact Tn.gives_val (.slice sg u0 cg) W (exec_slice 40 3 Try.underlying40 size3 (.tmp 58) (.tmp 70) rfl _ _ _ _ rfl rfl HUc.out) ⟨hC, Below.refl _ _, (fun h => absurd h (by decide)), fun z hz => by cases hz; rfl⟩
      simp only [Act.put, List.setIfInBounds_toArray, List.set_cons_succ, List.set_cons_zero, Nat.reduceAdd]
      rw [h22]
      refine Tn.spec_cons (fun W hC hd => ⟨by rfl, ?_⟩) ?_
      · exact gives_append_nil (.tmp 50) (.tmp 71) rfl _ _ _ ((P.take u0).map natV) rfl rfl (by rw [List.length_map]; exact HPt.out) (HSl.out.below (Nat.le_refl _) hC) ((one_natV _)) HUb.out (fun v' W' b' h1 h2 h3 => ⟨hC.trans (h2.mono hC.size), h2, (fun _ => ⟨b', h1, fun c hc => Nat.le_trans hC.size (h3 c hc)⟩), fun z hz => by cases hz⟩)
      simp only [Act.put, List.setIfInBounds_toArray, List.set_cons_succ, List.set_cons_zero, Nat.reduceAdd]
      refine Tn.spec_cons (fun W hC hd => ⟨by rfl, ?_⟩) ?_
      · exact Tn.gives_val (.pointer (some ⟨q, 1, none⟩)) W (exec_fld 73 1 (.tmp 8) rfl _ _ rfl (by kernel_rfl)) ⟨hC, Below.refl _ _, (fun h => absurd h (by decide)), fun z hz => by cases hz; rfl⟩
      simp only [Act.put, List.setIfInBounds_toArray, List.set_cons_succ, List.set_cons_zero, Nat.reduceAdd]
      rw [h24]
      exact Tn.spec_nil
    · intro u W hu hC hP
      have h0 : u 0 = .pointer (some ⟨q, 1, none⟩) := hu 0 _ rfl
      have h1 : u 1 = .slice none 0 0 := hu 1 _ rfl
      have h2 : u 2 = .pointer (some ⟨r, 0, none⟩) := hu 2 _ rfl
      have h3 : u 3 = .pointer (some ⟨r, 0, none⟩) := hu 3 _ rfl
      have h4 : u 4 = .pointer (some ⟨r, 0, none⟩) := hu 4 _ rfl
      have h5 : u 5 = .slice (some ⟨b, 0, none⟩) N cp := hu 5 _ rfl
      have h6 : u 6 = .int .i64 (k : Int) := hu 6 _ rfl
      have h7 : u 7 = .pointer (some ⟨b, k * 3, none⟩) := hu 7 _ rfl
      have h8 : u 8 = .pointer (some ⟨b, k * 3 + 1, none⟩) := hu 8 _ rfl
      have h9 : u 9 = .slice sg mP cg := hu 9 _ rfl
      have h10 : u 10 = .int .i64 (m : Int) := hu 10 _ rfl
      have h11 : u 11 = .pointer (some ⟨r, 0, none⟩) := hu 11 _ rfl
      have h12 : u 12 = .pointer (some ⟨r, 0, none⟩) := hu 12 _ rfl
      have h13 : u 13 = .pointer (some ⟨r, 2, none⟩) := hu 13 _ rfl
      have h14 : u 14 = .int .i64 (s : Int) := hu 14 _ rfl
      have h15 : u 15 = .int .i64 ((m + s : Nat) : Int) := hu 15 _ rfl
      have h16 : u 16 = .int .i64 ((m + s - 1 : Nat) : Int) := hu 16 _ rfl
      have h17 : u 17 = .pointer (some ⟨r, 0, none⟩) := hu 17 _ rfl
      have h18 : u 18 = .pointer (some ⟨r, 0, none⟩) := hu 18 _ rfl
      have h19 : u 19 = .pointer (some ⟨r, 2, none⟩) := hu 19 _ rfl
      have h20 : u 20 = .int .i64 (s : Int) := hu 20 _ rfl
      have h21 : u 21 = .int .i64 (u0 : Int) := hu 21 _ rfl
      have h22 : u 22 = .slice sg u0 cg := hu 22 _ rfl
      have h24 : u 24 = .pointer (some ⟨q, 1, none⟩) := hu 24 _ rfl
      obtain ⟨b15, k15, k16⟩ := (hP 23 (by decide)).1 rfl
      obtain ⟨sq, cq, e15, _⟩ := k15.slice
      rw [List.length_map, HPt.out] at e15
      simp only [List.take_succ_cons, List.take_zero, List.drop_succ_cons, List.drop_zero, Tn.putAll, Act.put, List.setIfInBounds_toArray, List.set_cons_succ, List.set_cons_zero, Nat.reduceAdd]
      rw [e15] at k15
      rw [h0, h1, h2, h3, h4, h5, h6, h7, h8, h9, h10, h11, h12, h13, h14, h15, h16, h17, h18, h19, h20, h21, h22, e15, h24]
      have HK15 := Lib.hid k15
      have HK16 := Lib.hid k16
      have HCw := Lib.hid hC
      clear hu hC hP e15 k15 k16 h0 h1 h2 h3 h4 h5 h6 h7 h8 h9 h10 h11 h12 h13 h14 h15 h16 h17 h18 h19 h20 h21 h22 h24
      have c9 := (B1.out.later HCw.out).cells
      have q1 := c9.2.1
      have q2 := c9.2.2.2 1
      have HS9 := Lib.hid (B1.out.putP HCw.out (v := .slice sq u0 cq) HK15.out HK16.out)
      clear c9
      go_upto_region 10 with fail
      refine I.gen_w (Q := fun w => Code.wp _ _ _ _ w) _ (fun W => ∃ pb, ShB w q lv (.slice sq u0 cq) lb pb (L.take m) (P.take u0) W) ⟨_, HS9.out⟩ ?_
      clear q1 q2 HS9 HK15 HK16 HCw HF B1 HSl
      obtain ⟨pv, hpv⟩ : ∃ lv, Value.slice sq u0 cq = lv := ⟨_, rfl⟩
      rw [hpv]
      have HO2 : Hid (pv.oneCell' = true) := Lib.hid (by rw [← hpv]; rfl)
      clear hpv
      rintro w3 ⟨pb, k1⟩
      obtain ⟨τ3, g1, g2, g3, g4⟩ := HRf.out.withBox k1
      have B1 := Lib.hid k1
      have HRf3 := Lib.hid g1
      have HSt3 := Lib.hid g2
      have HTl := Lib.hid g3
      have HTp := Lib.hid g4
      have HD1 : Hid (D.rows.length ≤ 1024) := Lib.hid (by have := HNn.out; have := HL1.out; omega)
      have hown : ∀ c, ly.v.ownBlock = some c → c < w3.heap.size ∧ c ≠ r ∧ c ≠ q := fun c hc => by
        have h1 := g1.own_tag hc
        have h2 := HRf.out.own_tag hc
        exact ⟨g1.fits _ _ h1.2, fun e => g1.own_ne (by rw [← e]; exact hc.symm), fun e => by have := HRf.out.fits _ _ h2.2; have := k1.hq; omega⟩
      have HOw := Lib.hid hown
      have Hlo : Hid (∀ c, ly.v.ownBlock = some c → c < w3.heap.size) := Lib.hid fun c hc => (hown c hc).1
      have hr0 : w3.cell? ⟨r, 0, none⟩ = some (.slice (some ⟨b, 0, none⟩) N cp) := (HRk.out w3 k1.below).1
      have HF : Hid ((∀ W, w3.grownBy W ly.v.ownBlock → W.cell? ⟨r, 0, none⟩ = some (.slice (some ⟨b, 0, none⟩) N cp)) ∧ ∀ W, w3.grownBy W ly.v.ownBlock → W.heap[q]? = some (.cells #[lv, pv, .bool true] 73 (0, 0))) :=
        Lib.hid ⟨fun W hg => (World.cell?_of_block (w := w3) (hg.block r (block_lt_of_cell hr0) g1.own_ne)).trans hr0, fun W hg => (hg.block q (Array.getElem?_eq_some_iff.1 k1.box).1 (fun e => (hown q e.symm).2.2 rfl)).trans k1.box⟩
      have HZr : Hid (∀ W, w3.grownBy W ly.v.ownBlock → W.frozen? ⟨r, 0, none⟩ = false) := Lib.hid fun W hg => (World.frozen?_of_block (w := w3) (hg.block r (block_lt_of_cell hr0) g1.own_ne)).trans (row_frozen g1.hd)
      clear k1 g1 g2 g3 g4 hown hr0
      refine Tn.wp_region_spec_at (C := fun W => w3.grownBy W ly.v.ownBlock) (Le := LeA 7 ly.v.ownBlock) (Pre := fun j W => j = 7 → Below w3.heap.size w3 W) 10 (fun _ => rwQ w3.heap.size (N + 1) ly.v.ownBlock lv pv (rowCells ly.lv ly.pv 0 D.rows ++ [lv, pv, .bool true]) (shR q r b N cp lv pv)) (by kernel_rfl) (by kernel_rfl) ⟨rfl, rfl, rfl, Nat.le_refl _, fun _ _ _ => rfl⟩ (fun _ _ _ _ _ _ h => h) (fun _ j i W W' y hne hle h => rwQ_later Hlo.out hne hle h) (fun j i W W' hne hle hp e => (hp e).trans ((hle.2 (by omega)).mono (hp e).size)) (fun j _ => ⟨rfl, rfl, rfl, Nat.le_refl _, fun _ _ => rfl⟩) (fun ixx yy => ∀ z, shR q r b N cp lv pv ixx = some z → yy = z) (fun _ _ _ _ h => h.2.2) (fun ixx => (shR q r b N cp lv pv ixx).getD undef) (fun ixx z h => by simp [h]) ?_ ?_
      · intro u hu
        have h0 : u 0 = .pointer (some ⟨r, 0, none⟩) := hu 0 _ rfl
        have h1 : u 1 = .pointer (some ⟨r, 0, none⟩) := hu 1 _ rfl
        have h2 : u 2 = .pointer (some ⟨r, 0, none⟩) := hu 2 _ rfl
        have h3 : u 3 = .pointer (some ⟨r, 0, none⟩) := hu 3 _ rfl
        have h4 : u 4 = .slice (some ⟨b, 0, none⟩) N cp := hu 4 _ rfl
        have h5 : u 5 = .agg #[lv, pv, .bool true] := hu 5 _ rfl
        have h8 : u 8 = .pointer (some ⟨r, 0, none⟩) := hu 8 _ rfl
        have h9 : u 9 = .pointer (some ⟨r, 0, none⟩) := hu 9 _ rfl
        simp only [List.take_succ_cons, List.take_zero]
        refine Tn.spec_cons (fun W hC hd => ⟨by rfl, ?_⟩) ?_
        · exact Tn.gives_val (.pointer (some ⟨r, 0, none⟩)) W (by rfl) ⟨hC, leA_b (by decide) (Below.refl _ _), (fun h => absurd h (by decide)), (fun h => absurd h (by decide)), fun z hz => by cases hz; rfl⟩
        simp only [Act.put, List.setIfInBounds_toArray, List.set_cons_succ, List.set_cons_zero, Nat.reduceAdd]
        rw [h0]
        refine Tn.spec_cons (fun W hC hd => ⟨by rfl, ?_⟩) ?_
        · exact Tn.gives_val (.pointer (some ⟨r, 0, none⟩)) W (by rfl) ⟨hC, leA_b (by decide) (Below.refl _ _), (fun h => absurd h (by decide)), (fun h => absurd h (by decide)), fun z hz => by cases hz; rfl⟩
        simp only [Act.put, List.setIfInBounds_toArray, List.set_cons_succ, List.set_cons_zero, Nat.reduceAdd]
        rw [h1]
        refine Tn.spec_cons (fun W hC hd => ⟨by rfl, ?_⟩) ?_
        · exact Tn.gives_val (.pointer (some ⟨r, 0, none⟩)) W (exec_nilc (.tmp 75) rfl _ rfl) ⟨hC, leA_b (by decide) (Below.refl _ _), (fun h => absurd h (by decide)), (fun h => absurd h (by decide)), fun z hz => by cases hz; rfl⟩
        simp only [Act.put, List.setIfInBounds_toArray, List.set_cons_succ, List.set_cons_zero, Nat.reduceAdd]
        rw [h2]
        refine Tn.spec_cons (fun W hC hd => ⟨by rfl, ?_⟩) ?_
        · exact Tn.gives_val (.pointer (some ⟨r, 0, none⟩)) W (exec_fld 32 0 (.tmp 76) rfl _ _ rfl (by kernel_rfl)) ⟨hC, leA_b (by decide) (Below.refl _ _), (fun h => absurd h (by decide)), (fun h => absurd h (by decide)), fun z hz => by cases hz; rfl⟩
        simp only [Act.put, List.setIfInBounds_toArray, List.set_cons_succ, List.set_cons_zero, Nat.reduceAdd]
        rw [h3]
        refine Tn.spec_cons (fun W hC hd => ⟨by rfl, ?_⟩) ?_
        · exact Tn.gives_val (.slice (some ⟨b, 0, none⟩) N cp) W (exec_load1 30 (.tmp 77) rfl ⟨r, 0, none⟩ rfl _ (HF.out.1 W hC) _ Try.underlying30 rfl) ⟨hC, leA_b (by decide) (Below.refl _ _), (fun h => absurd h (by decide)), (fun h => absurd h (by decide)), fun z hz => by cases hz; rfl⟩
        simp only [Act.put, List.setIfInBounds_toArray, List.set_cons_succ, List.set_cons_zero, Nat.reduceAdd]
        rw [h4]
        refine Tn.spec_cons (fun W hC hd => ⟨by rfl, ?_⟩) ?_
        · exact Tn.gives_val (.agg #[lv, pv, .bool true]) W (load_row3 (.tmp 8) rfl q rfl lv pv (HF.out.2 W hC)) ⟨hC, leA_b (by decide) (Below.refl _ _), (fun h => absurd h (by decide)), (fun h => absurd h (by decide)), fun z hz => by cases hz; rfl⟩
        simp only [Act.put, List.setIfInBounds_toArray, List.set_cons_succ, List.set_cons_zero, Nat.reduceAdd]
        rw [h5]
        refine Tn.spec_cons (fun W hC hd => ⟨by rfl, ?_⟩) ?_
        · exact Tn.gives_val _ _ (exec_oneR (.tmp 79) rfl lv pv rfl HO1.out HO2.out) ⟨I.grown_trans hC (I.grown_of ((Below.refl W.heap.size W).alloc (Nat.le_refl _) _) _), leA_b (by decide) ((Below.refl W.heap.size W).alloc (Nat.le_refl _) _), (fun _ => ⟨_, rfl, hC.size, alloc_new _ _⟩), (fun h => absurd h (by decide)), fun z hz => by cases hz⟩
        simp only [Act.put, List.setIfInBounds_toArray, List.set_cons_succ, List.set_cons_zero, Nat.reduceAdd]
        refine Tn.spec_cons_at (fun W hC hp hd => ⟨by rfl, ?_⟩) ?_
        · obtain ⟨c8, e8, hl8, h8⟩ := (hd ⟨6, .data⟩ (by simp) rfl).1 rfl
          refine gives_push3 (.tmp 78) (.tmp 80) rfl HRf3.out (hp rfl) HO1.out HO2.out c8 _ HVl.out rfl (by exact e8) h8 HD1.out (fun v' W' g1 g2 g3 => ⟨I.grown_trans hC g2, leA_g g2, (fun h => absurd h (by decide)), (fun _ => ⟨by rw [HNn.out] at g1; exact g1, ?_⟩), fun z hz => by cases hz⟩)
          rcases g3 with e | ⟨q9, e, hq9⟩
          · exact Or.inl e
          · exact Or.inr ⟨q9, e, Nat.le_trans hC.size hq9⟩
        simp only [Act.put, List.setIfInBounds_toArray, List.set_cons_succ, List.set_cons_zero, Nat.reduceAdd]
        refine Tn.spec_cons (fun W hC hd => ⟨by rfl, ?_⟩) ?_
        · exact Tn.gives_val (.pointer (some ⟨r, 0, none⟩)) W (exec_nilc (.tmp 74) rfl _ rfl) ⟨hC, leA_b (by decide) (Below.refl _ _), (fun h => absurd h (by decide)), (fun h => absurd h (by decide)), fun z hz => by cases hz; rfl⟩
        simp only [Act.put, List.setIfInBounds_toArray, List.set_cons_succ, List.set_cons_zero, Nat.reduceAdd]
        rw [h8]
        refine Tn.spec_cons (fun W hC hd => ⟨by rfl, ?_⟩) ?_
        · exact Tn.gives_val (.pointer (some ⟨r, 0, none⟩)) W (exec_fld 32 0 (.tmp 82) rfl _ _ rfl (by kernel_rfl)) ⟨hC, leA_b (by decide) (Below.refl _ _), (fun h => absurd h (by decide)), (fun h => absurd h (by decide)), fun z hz => by cases hz; rfl⟩
        simp only [Act.put, List.setIfInBounds_toArray, List.set_cons_succ, List.set_cons_zero, Nat.reduceAdd]
        rw [h9]
        exact Tn.spec_nil
      · intro u W hu hC hP
        have h0 : u 0 = .pointer (some ⟨r, 0, none⟩) := hu 0 _ rfl
        have h1 : u 1 = .pointer (some ⟨r, 0, none⟩) := hu 1 _ rfl
        have h2 : u 2 = .pointer (some ⟨r, 0, none⟩) := hu 2 _ rfl
        have h3 : u 3 = .pointer (some ⟨r, 0, none⟩) := hu 3 _ rfl
        have h4 : u 4 = .slice (some ⟨b, 0, none⟩) N cp := hu 4 _ rfl
        have h5 : u 5 = .agg #[lv, pv, .bool true] := hu 5 _ rfl
        have h8 : u 8 = .pointer (some ⟨r, 0, none⟩) := hu 8 _ rfl
        have h9 : u 9 = .pointer (some ⟨r, 0, none⟩) := hu 9 _ rfl
        obtain ⟨k15, k16⟩ := (hP 7 (by decide)).2.1 rfl
        obtain ⟨sq, cq, e15⟩ : ∃ sq cq, u 7 = .slice sq (N + 1) cq := by
          obtain ⟨_, ⟨e, e2⟩ | ⟨g, cap, cur, e, _⟩⟩ := k15
          · omega
          · exact ⟨_, _, e⟩
        simp only [List.take_succ_cons, List.take_zero, List.drop_succ_cons, List.drop_zero, Tn.putAll, Act.put, List.setIfInBounds_toArray, List.set_cons_succ, List.set_cons_zero, Nat.reduceAdd]
        rw [e15] at k15 k16
        rw [h0, h1, h2, h3, h4, h5, e15, h8, h9]
        have HK15 := Lib.hid k15
        have HK16 := Lib.hid k16
        have HCw := Lib.hid hC
        clear hu hC hP e15 k15 k16 h0 h1 h2 h3 h4 h5 h8 h9
        have q1 := HF.out.1 W HCw.out
        have q2 := HZr.out W HCw.out
        have hset := HRf3.out.push (L := L.take m) (P := P.take u0) (lb := lb) (pb := pb) HCw.out (by rw [HNn.out]; exact HK15.out) HK16.out B1.out.things HTl.out B1.out.pages HTp.out
        have HS9 := Lib.hid hset
        clear hset
        go_upto_region 11 with fail
        refine I.gen_w (Q := fun w => Code.wp _ _ _ _ w) _ (fun W => ∃ τ' ly', ly'.v = .slice sq (N + 1) cq ∧ RefAt W τ' r ly' (addRow D (L.take m) (P.take u0)) ∧ Step Tag.theirs τ3 τ' w3 W) HS9.out ?_
        rintro W9 ⟨τ', ly', k1, k2, k3⟩
        have c9 := k2.cells.1
        rw [k1] at c9
        have K8 := Lib.hid k2
        have K9 := Lib.hid (HSt3.out.trans k3)
        have hw : IntKind.i64.wrap ((N + 1 : Nat) - 1 : Int) = (N : Int) := by
          rw [show (((N + 1 : Nat) : Int) - 1) = (N : Int) by omega]
          exact IntWalk.i64_in _ (by have := HL1.out; omega)
        clear k1 k2 k3 q1 q2 HS9 HK15 HK16 HCw HF
        go_wp2
        go_ret2
        exact ⟨by go_num, τ', ⟨ly', K8.out⟩, K9.out⟩
theorem share_ref {w : World} {τ : Tags} {r : Nat} {D : Doc Int} (h : Ref w τ r D) (hF : Fine D) (hN1 : D.rows.length ≤ 1023) (id n : Int) :
    Calls Try.prog 36 #[.pointer (some ⟨r, 0, none⟩), .int .i64 id, .int .i64 n] w fun e w' => e = .returned (.tuple #[.int .i64 (shareD D id n).1.1, .int .i64 (shareD D id n).1.2]) ∧ ∃ τ', Ref w' τ' r (shareD D id n).2 ∧ Step Tag.theirs τ τ' w w' := by
  cases hr : rowAt D id with
  | none =>
    have he : shareD D id n = ((0, 14), D) := by unfold shareD; rw [hr]
    rw [he]
    have hRt := right_ref h hF.low.1 id
    rw [show rightD D id = false by unfold rightD; rw [hr]; rfl] at hRt
    have HRt := Lib.hid hRt
    have H := Lib.hid h
    clear h hRt hr he
    go_enter Try.func36, Try.ntmps36
    go_wp2_with fail
    refine HRt.out.mono ?_
    rintro e w9 ⟨rfl, rfl⟩
    go_wp2
    go_ret2
    exact ⟨rfl, τ, H.out, Step.refl _ _ _⟩
  | some q =>
    obtain ⟨L, P⟩ := q
    obtain ⟨k, rfl, hk⟩ := rowAt_yes hr
    have he : shareD D (k : Int) n = if n < 0 ∨ (L.length : Int) < n then ((0, 10), D) else if D.rows.length = 1024 then ((0, 16), D)
      else (((D.rows.length : Int), 0), addRow D (L.take n.toNat) (P.take ((n.toNat + D.size - 1) / D.size))) := by unfold shareD; rw [hr]
    rw [he]
    clear he
    by_cases hbad : n < 0 ∨ (L.length : Int) < n
    · rw [if_pos hbad]
      have hRt := right_ref h hF.low.1 (k : Int)
      rw [show rightD D (k : Int) = true by unfold rightD; rw [hr]; rfl] at hRt
      have H := Lib.hid h
      obtain ⟨ly, hA⟩ := h
      obtain ⟨c0, _, _⟩ := hA.cells
      obtain ⟨sr, cp, hv, _, _, hro⟩ := hA.slice
      obtain ⟨rfl, u0, _, _⟩ := hro k _ hk
      obtain ⟨r1, _, _, _⟩ := hA.row k L P hk
      obtain ⟨sp, cap, hlv, _, _, _⟩ := r1.slice
      obtain ⟨N, hN⟩ : ∃ N, D.rows.length = N := ⟨_, rfl⟩
      have hkN : k < N := by rw [← hN]; exact (List.getElem?_eq_some_iff.1 hk).1
      rw [hv, hN] at c0
      simp only [Option.isSome_some, if_true] at u0
      rw [hlv, List.length_map] at u0
      obtain ⟨l, hl⟩ : ∃ l, L.length = l := ⟨_, rfl⟩
      rw [hl] at u0 hbad
      have HRt := Lib.hid hRt
      have b1 : (0 : Int) ≤ (k : Int) := by omega
      have b2 : (k : Int) < (N : Int) := by omega
      clear hA hv hro r1 hlv hN hl hRt hr
      by_cases h0 : n < 0
      · have d1 : decide (n < 0) = true := by simpa using h0
        clear hbad h0
        go_enter Try.func36, Try.ntmps36
        go_wp2_with fail
        refine HRt.out.mono ?_
        rintro e w9 ⟨rfl, rfl⟩
        go_wp2
        go_ret2
        exact ⟨rfl, τ, H.out, Step.refl _ _ _⟩
      · have d1 : decide (n < 0) = false := by simpa using h0
        have d2 : decide ((l : Int) < n) = true := by simp; omega
        clear hbad h0
        go_enter Try.func36, Try.ntmps36
        go_wp2_with fail
        refine HRt.out.mono ?_
        rintro e w9 ⟨rfl, rfl⟩
        go_wp2
        go_ret2
        exact ⟨rfl, τ, H.out, Step.refl _ _ _⟩
    · rw [if_neg hbad, if_neg (by omega)]
      obtain ⟨m, hm⟩ : ∃ m : Nat, n = (m : Int) := ⟨n.toNat, by omega⟩
      subst hm
      have hmL : m ≤ L.length := by omega
      rw [show ((m : Int)).toNat = m from rfl]
      exact share_yes h hF.low k L P hk hF.s0 hF.s1 hN1 m hmL _ rfl (by rw [hF.pl k L P hk]; exact div_up m L.length D.size hF.s0 hmL)
end Go.Proofs.Ytcfhchdkohjbfaa.Kv
