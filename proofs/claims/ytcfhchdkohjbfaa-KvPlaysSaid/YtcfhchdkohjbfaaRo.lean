/- Pools of rows in pages: the document's Append of the law's, where a page is wanted and free: the last page is another row's, too. -/
import Derived.Test.YtcfhchdkohjbfaaRn
namespace Go.Proofs.Ytcfhchdkohjbfaa.Kv
set_option maxRecDepth 100000
open Go.ChangeShapes Go.WideShapes Go.ChangeAt Go.RowKit Go.Proofs.Ytcfhchdkohjbfaa.Tn
theorem wpList_vl {ops : Array Oper} {rest : List Oper} {o : Oper} {a : Act} {W : World} {Q : Exit → Act → World → Prop} (hgd : o.guard = none) (v : Value) (hrun : (execOp a.eval o).run Try.prog W = .ok (.value v) W) (h : wpList Try.prog ops Q rest (a.put o.dst v) W) : wpList Try.prog ops Q (o :: rest) a W := by
  refine wpList_plain hgd fun K hK => ?_
  unfold Oper.wp
  rw [hrun]
  exact hK _ _ h
theorem wpList_vlG {ops : Array Oper} {rest : List Oper} {o : Oper} {a : Act} {W : World} {Q : Exit → Act → World → Prop} (hw : Region.wanted o (yielded ops a.tmps) = true) (v : Value) (hrun : (execOp a.eval o).run Try.prog W = .ok (.value v) W) (h : wpList Try.prog ops Q rest (a.put o.dst v) W) : wpList Try.prog ops Q (o :: rest) a W :=
  wpList_step fun K hK => by
    rw [if_pos hw]
    unfold Oper.wp
    rw [hrun]
    exact hK _ _ h
theorem exec_at1 {a : Act} {o : Oper} {W : World} (x y : Operand) (ho : o.op = .indexAddr 40 x y) (c n cap i : Nat) (hx : a.eval x = .slice (some ⟨c, 0, none⟩) n cap) (hy : a.eval y = .int .i64 (i : Int)) (hi : i < n) : (execOp a.eval o).run Try.prog W = .ok (.value (.pointer (some ⟨c, i, none⟩))) W := by
  have hadd := Tn.add_plain c 0 i
  rw [Nat.zero_add] at hadd
  cases hq : Try.prog.info? 3 with
  | none => have := size3; simp [hq] at this
  | some j =>
    have hj : j.size = 1 := by simpa [hq] using size3
    unfold execOp
    simp [ho, hx, hy, Instr.indexAt, asIntOf, run_underlying Try.underlying40, sizeOf, typeInfo, hq, hj, hi, hadd]
set_option maxHeartbeats 16000000 in
theorem append_half {w : World} {τ : Tags} {r : Nat} {D : Doc Int} (h : Ref w τ r D) (hl : Low D) (hp : D.pages ≤ 256) (k : Nat) (L : List Int) (P : List Nat) (hq : D.rows[k]? = some (some (L, P))) (a : Nat) (hf : freeAt D = some a) (_ha : a < 256) (c : Nat) (hc : cnt D.rows (lastP P) = c) (hcb : c ≤ 262144) (hc1 : 1 < c) (h0 : 0 < L.length % D.size) (hP0 : 0 < P.length) (hs0 : 1 ≤ D.size) (hs1 : D.size ≤ 64) (x : Int) :
    Calls Try.prog 35 #[.pointer (some ⟨r, 0, none⟩), .int .i64 (k : Int), .int .i64 x] w fun e w' => e = .returned (.int .i64 0) ∧ ∃ τ', Ref w' τ' r (putRow D k (some (L ++ [x], (P.take (P.length - 1)) ++ [a]))) ∧ Step Tag.theirs τ τ' w w' := by
  have hRt := right_ref h hl.1 (k : Int)
  rw [rightD_nat D k _ hq] at hRt
  have hCt := count_ref h hl (lastP P : Int)
  rw [cntZ_nat, hc] at hCt
  have hFi := first_ref h hl hp
  rw [show firstD D = (a : Int) by unfold firstD; rw [hf]] at hFi
  obtain ⟨ly, h⟩ := h
  have HRf := Lib.hid h
  have HQr := Lib.hid hq
  obtain ⟨c0, _, c2⟩ := h.cells
  obtain ⟨sr, cp, hv, _, _, hrow⟩ := h.slice
  obtain ⟨rfl, u0, u1, _⟩ := hrow k _ hq
  obtain ⟨r1, r2, r3, r4⟩ := h.row k L P hq
  obtain ⟨N, hN⟩ : ∃ N, D.rows.length = N := ⟨_, rfl⟩
  have hkN : k < N := by rw [← hN]; exact (List.getElem?_eq_some_iff.1 hq).1
  rw [hN] at hv
  rw [hv] at c0
  simp only [Option.isSome_some, if_true] at u0 u1
  obtain ⟨sp, cap, hlv, _⟩ := r1.sl
  obtain ⟨sg, cg, hpv, hpm, hcgm, hat⟩ := nat_at r3
  rw [List.length_map] at hlv
  obtain ⟨n, hn⟩ : ∃ n, L.length = n := ⟨_, rfl⟩
  obtain ⟨m, hm⟩ : ∃ m, P.length = m := ⟨_, rfl⟩
  obtain ⟨s, hs⟩ : ∃ s, D.size = s := ⟨_, rfl⟩
  have hnb : n ≤ 16384 := by rw [← hn]; exact (hl.2 k L P hq).2
  have hmb : m ≤ 256 := by rw [← hm]; exact (hl.2 k L P hq).1
  obtain ⟨cb, rfl, hlc⟩ := hat (P.length - 1) (lastP P) (lastP_at hP0)
  rw [hm] at hlc hP0 hpv hpm ⊢
  rw [hn, hs] at h0
  rw [hs] at c2 hs0 hs1
  rw [hn] at hlv
  rw [hlv] at u0
  rw [hpv] at u1 r3
  obtain ⟨t, ht⟩ : ∃ t, n % s = t := ⟨_, rfl⟩
  rw [ht] at h0
  obtain ⟨la, hla⟩ : ∃ la, lastP P = la := ⟨_, rfl⟩
  rw [hla] at hCt hlc
  obtain ⟨j, hj⟩ : ∃ j, m = j + 1 := ⟨m - 1, by omega⟩
  rw [hj, Nat.add_sub_cancel] at hlc ⊢
  rw [hj] at u1 r3 hpm
  obtain ⟨P0, hP0e⟩ : ∃ P0, P.take j = P0 := ⟨_, rfl⟩
  have hrc := Row.cut (xs := P.map natV) (sp := (some ⟨cb, 0, none⟩)) (cap := cg) (by rw [List.length_map, hm, hj]; exact r3) j (by rw [List.length_map]; omega)
  rw [← List.map_take, hP0e] at hrc
  have hsl := hrc.asSl
  have hlen0 : P0.length = j := by rw [← hP0e, List.length_take]; omega
  rw [hP0e]
  obtain ⟨b, hb⟩ : ∃ b, ly.b = b := ⟨_, rfl⟩
  rw [hb] at c0 u0 u1
  have hnrb : ∀ W, Below w.heap.size w W → W.cell? ⟨r, 0, none⟩ = some (.slice (some ⟨b, 0, none⟩) N cp) ∧ W.cell? ⟨b, k * 3 + 1, none⟩ = some (.slice (some ⟨cb, 0, none⟩) (j + 1) cg) ∧ W.frozen? ⟨b, k * 3 + 1, none⟩ = false := fun W hW => by
    have hfz : w.frozen? ⟨b, k * 3 + 1, none⟩ = false := by
      rcases h.rows with ⟨e0, _⟩ | ⟨_, cur, _, h2, _⟩
      · rw [e0] at hq; simp at hq
      · rw [hb] at h2; exact row_frozen h2
    exact ⟨(hW.cell (block_lt_of_cell c0)).trans c0, (hW.cell (block_lt_of_cell u1)).trans u1, (World.frozen?_of_block (w := w) (hW.block b (block_lt_of_cell u1))).trans hfz⟩
  have HNr := Lib.hid hnrb
  have HSl := Lib.hid hsl
  have HL0 := Lib.hid hlen0
  have HBb := Lib.hid hb
  have HLn := Lib.hid hn
  have HSs := Lib.hid hs
  have HNn := Lib.hid hN
  have HLm0 : Hid (P0.length ≤ 1000000) := Lib.hid (by omega)
  have HLmL : Hid (L.length ≤ 1000000) := Lib.hid (by omega)
  have HJb : Hid (j ≤ 256) := Lib.hid (by omega)
  have HJc : Hid (0 + j ≤ 1000000) := Lib.hid (by omega)
  have HK := Lib.hid hkN
  have HRt := Lib.hid hRt
  have HFi := Lib.hid hFi
  have b1 : (0 : Int) ≤ (k : Int) := by omega
  have b2 : (k : Int) < (N : Int) := by omega
  have hsz : (s : Int) ≠ 0 := by omega
  have hsz2 : ((s : Int) == 0) = false := by simp; omega
  have hrm : (n : Int).tmod (s : Int) = (t : Int) := by rw [← ht]; exact (Int.ofNat_tmod n s).symm
  have hal : decide ((a : Int) < 0) = false := by simp
  have HCt := Lib.hid hCt
  have b3 : (0 : Int) ≤ (j : Int) := by omega
  have b4 : (j : Int) < ((j + 1 : Nat) : Int) := by omega
  have b5 : (j : Int) ≤ ((j + 1 : Nat) : Int) := by omega
  have b6 : (j : Int) ≤ (cg : Int) := by omega
  have HCg : Hid (j ≤ cg) := Lib.hid (by omega)
  have ht0 : ((t : Int) == 0) = false := by simp; omega
  have hw64 : wrap64 (j : Int) = (j : Int) := by unfold wrap64; omega
  have d1 : decide (1 < c) = true := by simpa using hc1
  have d2 : decide ((1 : Int) < (c : Int)) = true := by simp; omega
  clear h hl hq hRt hFi hv hrow r1 r2 r3 r4 hN hlv hpv hat hn hm hs ht hb hsl hlen0 hnrb hc hCt hla hj hrc hP0e hf
  go_enter Try.func35, Try.ntmps35
  go_wp2_with fail
  refine HRt.out.mono ?_
  rintro e w9 ⟨rfl, rfl⟩
  go_upto_region 6 with fail
  rw [hw64]
  refine wp_region_lit ?_
  refine wpList_vl rfl (.bool false) (by rfl) ?_
  simp only [Act.put, List.setIfInBounds_toArray, List.set_cons_succ, List.set_cons_zero]
  refine wpList_vl rfl (.bool false) (by rfl) ?_
  simp only [Act.put, List.setIfInBounds_toArray, List.set_cons_succ, List.set_cons_zero]
  refine wpList_vlG (by rfl) (.pointer (some ⟨r, 0, none⟩)) (by rfl) ?_
  simp only [Act.put, List.setIfInBounds_toArray, List.set_cons_succ, List.set_cons_zero]
  refine wpList_vlG (by rfl) (.pointer (some ⟨r, 0, none⟩)) (by rfl) ?_
  simp only [Act.put, List.setIfInBounds_toArray, List.set_cons_succ, List.set_cons_zero]
  refine wpList_vlG (by rfl) (.pointer (some ⟨r, 0, none⟩)) (exec_nilc (.tmp 45) rfl _ rfl) ?_
  simp only [Act.put, List.setIfInBounds_toArray, List.set_cons_succ, List.set_cons_zero]
  refine wpList_vlG (by rfl) (.pointer (some ⟨r, 0, none⟩)) (exec_fld 32 0 (.tmp 46) rfl _ _ rfl (by kernel_rfl)) ?_
  simp only [Act.put, List.setIfInBounds_toArray, List.set_cons_succ, List.set_cons_zero]
  refine wpList_vlG (by rfl) (.slice (some ⟨b, 0, none⟩) N cp) (exec_load1 30 (.tmp 47) rfl ⟨r, 0, none⟩ rfl _ (c0) _ Try.underlying30 rfl) ?_
  simp only [Act.put, List.setIfInBounds_toArray, List.set_cons_succ, List.set_cons_zero]
  refine wpList_vlG (by rfl) (.int .i64 (k : Int)) (by rfl) ?_
  simp only [Act.put, List.setIfInBounds_toArray, List.set_cons_succ, List.set_cons_zero]
  refine wpList_vlG (by rfl) (.pointer (some ⟨b, k * 3, none⟩)) (exec_at3 (.tmp 48) (.tmp 49) rfl _ _ _ _ rfl rfl HK.out) ?_
  simp only [Act.put, List.setIfInBounds_toArray, List.set_cons_succ, List.set_cons_zero]
  refine wpList_vlG (by rfl) (.pointer (some ⟨b, k * 3 + 1, none⟩)) (exec_fld 73 1 (.tmp 50) rfl _ _ rfl (by kernel_rfl)) ?_
  simp only [Act.put, List.setIfInBounds_toArray, List.set_cons_succ, List.set_cons_zero]
  refine wpList_vlG (by rfl) (.slice (some ⟨cb, 0, none⟩) (j + 1) cg) (exec_load1 40 (.tmp 51) rfl ⟨b, k * 3 + 1, none⟩ rfl _ (u1) _ Try.underlying40 rfl) ?_
  simp only [Act.put, List.setIfInBounds_toArray, List.set_cons_succ, List.set_cons_zero]
  refine wpList_vlG (by rfl) (.int .i64 (j : Int)) (by rfl) ?_
  simp only [Act.put, List.setIfInBounds_toArray, List.set_cons_succ, List.set_cons_zero]
  refine wpList_vlG (by rfl) (.pointer (some ⟨cb, j, none⟩)) (exec_at1 (.tmp 52) (.tmp 53) rfl _ _ _ _ rfl rfl (Nat.lt_succ_self j)) ?_
  simp only [Act.put, List.setIfInBounds_toArray, List.set_cons_succ, List.set_cons_zero]
  refine wpList_vlG (by rfl) (.int .i64 (la : Int)) (exec_load1 3 (.tmp 54) rfl ⟨cb, j, none⟩ rfl _ (hlc) _ Try.underlying3 rfl) ?_
  simp only [Act.put, List.setIfInBounds_toArray, List.set_cons_succ, List.set_cons_zero]
  go_wp2_with fail
  refine HCt.out.mono ?_
  rintro e w9 ⟨rfl, rfl⟩
  go_wp2_with fail
  refine HFi.out.mono ?_
  rintro e w9 ⟨rfl, rfl⟩
  go_upto_region 13 with fail
  refine wp_region_lit ?_
  refine wpList_vl rfl (.slice none 0 0) (by rfl) ?_
  simp only [Act.put, List.setIfInBounds_toArray, List.set_cons_succ, List.set_cons_zero]
  refine wpList_vl rfl (.pointer (some ⟨r, 0, none⟩)) (by rfl) ?_
  simp only [Act.put, List.setIfInBounds_toArray, List.set_cons_succ, List.set_cons_zero]
  refine wpList_vl rfl (.pointer (some ⟨r, 0, none⟩)) (exec_nilc (.tmp 75) rfl _ rfl) ?_
  simp only [Act.put, List.setIfInBounds_toArray, List.set_cons_succ, List.set_cons_zero]
  refine wpList_vl rfl (.pointer (some ⟨r, 0, none⟩)) (exec_fld 32 0 (.tmp 76) rfl _ _ rfl (by kernel_rfl)) ?_
  simp only [Act.put, List.setIfInBounds_toArray, List.set_cons_succ, List.set_cons_zero]
  refine wpList_vl rfl (.slice (some ⟨b, 0, none⟩) N cp) (exec_load1 30 (.tmp 77) rfl ⟨r, 0, none⟩ rfl _ (c0) _ Try.underlying30 rfl) ?_
  simp only [Act.put, List.setIfInBounds_toArray, List.set_cons_succ, List.set_cons_zero]
  refine wpList_vl rfl (.int .i64 (k : Int)) (by rfl) ?_
  simp only [Act.put, List.setIfInBounds_toArray, List.set_cons_succ, List.set_cons_zero]
  refine wpList_vl rfl (.pointer (some ⟨b, k * 3, none⟩)) (exec_at3 (.tmp 78) (.tmp 79) rfl _ _ _ _ rfl rfl HK.out) ?_
  simp only [Act.put, List.setIfInBounds_toArray, List.set_cons_succ, List.set_cons_zero]
  refine wpList_vl rfl (.pointer (some ⟨b, k * 3 + 1, none⟩)) (exec_fld 73 1 (.tmp 80) rfl _ _ rfl (by kernel_rfl)) ?_
  simp only [Act.put, List.setIfInBounds_toArray, List.set_cons_succ, List.set_cons_zero]
  refine wpList_vl rfl (.slice (some ⟨cb, 0, none⟩) (j + 1) cg) (exec_load1 40 (.tmp 81) rfl ⟨b, k * 3 + 1, none⟩ rfl _ (u1) _ Try.underlying40 rfl) ?_
  simp only [Act.put, List.setIfInBounds_toArray, List.set_cons_succ, List.set_cons_zero]
  refine wpList_vl rfl (.int .i64 (j : Int)) (by rfl) ?_
  simp only [Act.put, List.setIfInBounds_toArray, List.set_cons_succ, List.set_cons_zero]
  refine wpList_vl rfl (.slice (some ⟨cb, 0, none⟩) j cg) (exec_slice 40 3 Try.underlying40 size3 (.tmp 82) (.tmp 83) rfl _ _ _ _ rfl rfl HCg.out) ?_
  simp only [Act.put, List.setIfInBounds_toArray, List.set_cons_succ, List.set_cons_zero]
  refine wpList_append_sl 40 3 8 (.int .i64 0) Try.underlying40 info3 ?a1 ?a2 ?a3 (.tmp 74) (.tmp 84) ?a4 w.heap.size (.slice none 0 0) 0 j [] (P0.map natV) ?a5 ?a6 (some ⟨cb, 0, none⟩) cg ?a7 ?a8 HSl.out (one_natV _) HJc.out (Nat.le_refl _) ?kk
  case a1 => rfl
  case a2 => decide
  case a3 => rfl
  case a4 => rfl
  case a6 => exact ⟨rfl, Or.inl ⟨rfl, rfl⟩⟩
  case a8 => rw [List.length_map]; exact HL0.out
  case a5 => rfl
  case a7 => rfl
  intro pv w1 k1 k2
  have K1 := Lib.hid k1
  have K2 := Lib.hid k2
  clear k1 k2 c0 c2 u0 u1 hlc
  clear hw64 b3 b4 b5 b6 d1 d2
  simp only [Act.put, List.setIfInBounds_toArray, List.set_cons_succ, List.set_cons_zero]
  refine wpList_vl rfl pv (by rfl) ?_
  simp only [Act.put, List.setIfInBounds_toArray, List.set_cons_succ, List.set_cons_zero]
  go_upto_region 14 with fail
  obtain ⟨_, d, kr, _, kge⟩ := Row.of_owns K1.out
  have hB12 : Below w.heap.size w w1 := Below.ofGrown K2.out (Nat.le_refl _) (fun q hq => by cases hq)
  have hBW : ∀ W, w1.grownBy W d → Below w.heap.size w W := fun W hg => hB12.trans (Below.ofGrown hg hB12.size kge)
  rw [List.nil_append] at kr
  have HCut := Lib.hid kr
  have HKge := Lib.hid kge
  have Hlo : Hid (∀ q, d = some q → q < w1.heap.size) := Lib.hid fun q hq => kr.lt hq
  have HBW := Lib.hid hBW
  have HF : Hid ((∀ W, w1.grownBy W d → W.cell? ⟨r, 0, none⟩ = some (.slice (some ⟨b, 0, none⟩) N cp)) ∧ True) := Lib.hid ⟨fun W hg => (HNr.out W (hBW W hg)).1, trivial⟩
  have HLl := HL0
  have HLm := HLm0
  have HB12 := Lib.hid hB12
  clear kr hB12 hBW kge K1 K2
  refine Tn.wp_region_spec_at (C := fun W => w1.grownBy W d) (Le := LeA 8 d) (Pre := fun j W => j = 8 → Below w1.heap.size w1 W) 11 (fun _ => apQ 8 7 w1.heap.size d (.int .i64 (a : Int)) (P0.map natV) (aqP r b k N cp a pv)) (by kernel_rfl) (by kernel_rfl) ⟨rfl, rfl, rfl, Nat.le_refl _, fun _ _ _ => rfl⟩ (fun _ _ _ _ _ _ h => h) (fun _ j i W W' y hne hle h => apQ_later Hlo.out hne hle h) (fun j i W W' hne hle hp e => (hp e).trans ((hle.2 (fun h9 => hne (e.trans h9.symm))).mono (hp e).size)) (fun j _ => ⟨rfl, rfl, rfl, Nat.le_refl _, fun _ _ => rfl⟩) (fun ixx yy => ∀ z, aqP r b k N cp a pv ixx = some z → yy = z) (fun _ _ _ _ h => h.2.2) (fun ixx => (aqP r b k N cp a pv ixx).getD undef) (fun ixx z h => by simp [h]) ?_ ?_
  · intro u hu
    have h0 : u 0 = .pointer (some ⟨r, 0, none⟩) := hu 0 _ rfl
    have h1 : u 1 = .pointer (some ⟨r, 0, none⟩) := hu 1 _ rfl
    have h2 : u 2 = .pointer (some ⟨r, 0, none⟩) := hu 2 _ rfl
    have h3 : u 3 = .slice (some ⟨b, 0, none⟩) N cp := hu 3 _ rfl
    have h4 : u 4 = .int .i64 (k : Int) := hu 4 _ rfl
    have h5 : u 5 = pv := hu 5 _ rfl
    have h6 : u 6 = .int .i64 (a : Int) := hu 6 _ rfl
    have h9 : u 9 = .pointer (some ⟨b, k * 3, none⟩) := hu 9 _ rfl
    have h10 : u 10 = .pointer (some ⟨b, k * 3 + 1, none⟩) := hu 10 _ rfl
    simp only [List.take_succ_cons, List.take_zero]
    refine Tn.spec_cons (fun W hC hd => ⟨by rfl, ?_⟩) ?_
    · exact Tn.gives_val (.pointer (some ⟨r, 0, none⟩)) W (by rfl) ⟨hC, leA_b (by decide) (Below.refl _ _), (fun h => absurd h (by decide)), (fun h => absurd h (by decide)), fun z hz => by cases hz; rfl⟩
    simp only [Act.put, List.setIfInBounds_toArray, List.set_cons_succ, List.set_cons_zero, Nat.reduceAdd]
    rw [h0]
    refine Tn.spec_cons (fun W hC hd => ⟨by rfl, ?_⟩) ?_
    · exact Tn.gives_val (.pointer (some ⟨r, 0, none⟩)) W (exec_nilc (.tmp 86) rfl _ rfl) ⟨hC, leA_b (by decide) (Below.refl _ _), (fun h => absurd h (by decide)), (fun h => absurd h (by decide)), fun z hz => by cases hz; rfl⟩
    simp only [Act.put, List.setIfInBounds_toArray, List.set_cons_succ, List.set_cons_zero, Nat.reduceAdd]
    rw [h1]
    refine Tn.spec_cons (fun W hC hd => ⟨by rfl, ?_⟩) ?_
    · exact Tn.gives_val (.pointer (some ⟨r, 0, none⟩)) W (exec_fld 32 0 (.tmp 87) rfl _ _ rfl (by kernel_rfl)) ⟨hC, leA_b (by decide) (Below.refl _ _), (fun h => absurd h (by decide)), (fun h => absurd h (by decide)), fun z hz => by cases hz; rfl⟩
    simp only [Act.put, List.setIfInBounds_toArray, List.set_cons_succ, List.set_cons_zero, Nat.reduceAdd]
    rw [h2]
    refine Tn.spec_cons (fun W hC hd => ⟨by rfl, ?_⟩) ?_
    · exact Tn.gives_val (.slice (some ⟨b, 0, none⟩) N cp) W (exec_load1 30 (.tmp 88) rfl ⟨r, 0, none⟩ rfl _ (HF.out.1 W hC) _ Try.underlying30 rfl) ⟨hC, leA_b (by decide) (Below.refl _ _), (fun h => absurd h (by decide)), (fun h => absurd h (by decide)), fun z hz => by cases hz; rfl⟩
    simp only [Act.put, List.setIfInBounds_toArray, List.set_cons_succ, List.set_cons_zero, Nat.reduceAdd]
    rw [h3]
    refine Tn.spec_cons (fun W hC hd => ⟨by rfl, ?_⟩) ?_
    · exact Tn.gives_val (.int .i64 (k : Int)) W (by rfl) ⟨hC, leA_b (by decide) (Below.refl _ _), (fun h => absurd h (by decide)), (fun h => absurd h (by decide)), fun z hz => by cases hz; rfl⟩
    simp only [Act.put, List.setIfInBounds_toArray, List.set_cons_succ, List.set_cons_zero, Nat.reduceAdd]
    rw [h4]
    refine Tn.spec_cons (fun W hC hd => ⟨by rfl, ?_⟩) ?_
    · exact Tn.gives_val (pv) W (by rfl) ⟨hC, leA_b (by decide) (Below.refl _ _), (fun h => absurd h (by decide)), (fun h => absurd h (by decide)), fun z hz => by cases hz; rfl⟩
    simp only [Act.put, List.setIfInBounds_toArray, List.set_cons_succ, List.set_cons_zero, Nat.reduceAdd]
    rw [h5]
    refine Tn.spec_cons (fun W hC hd => ⟨by rfl, ?_⟩) ?_
    · exact Tn.gives_val (.int .i64 (a : Int)) W (by rfl) ⟨hC, leA_b (by decide) (Below.refl _ _), (fun h => absurd h (by decide)), (fun h => absurd h (by decide)), fun z hz => by cases hz; rfl⟩
    simp only [Act.put, List.setIfInBounds_toArray, List.set_cons_succ, List.set_cons_zero, Nat.reduceAdd]
    rw [h6]
    refine Tn.spec_cons (fun W hC hd => ⟨by rfl, ?_⟩) ?_
    · exact Tn.gives_val _ _ (I.exec_one (.tmp 92) rfl (a : Int) rfl) ⟨I.grown_trans hC (I.grown_of ((Below.refl W.heap.size W).alloc (Nat.le_refl _) _) _), leA_b (by decide) ((Below.refl W.heap.size W).alloc (Nat.le_refl _) _), (fun _ => I.OneV.made _ W 3 hC.size), (fun h => absurd h (by decide)), fun z hz => by cases hz⟩
    simp only [Act.put, List.setIfInBounds_toArray, List.set_cons_succ, List.set_cons_zero, Nat.reduceAdd]
    refine Tn.spec_cons_at (fun W hC hp hd => ⟨by rfl, ?_⟩) ?_
    · obtain ⟨b8, e8, hl8, c8⟩ := (hd ⟨7, .data⟩ (by simp) rfl).1 rfl
      refine gives_append_row 40 3 8 (.int .i64 0) Try.underlying40 info3 rfl (by decide) (.tmp 91) (.tmp 93) (by rfl) (pv) d (P0.map natV) (by rfl) (HCut.out.kept fun q hq => (hp rfl).block q (Hlo.out q hq)) b8 (.int .i64 (a : Int)) (by exact e8) c8 rfl (by rw [List.length_map]; exact HLm.out) (fun v' W' b' h1 h2 h3 => ⟨I.grown_trans hC h2, leA_g h2, (fun h => absurd h (by decide)), (fun _ => ⟨b', h1, ?_⟩), fun z hz => by cases hz⟩)
      rcases h3 with e | ⟨q, e, hq⟩
      · exact Or.inl e
      · exact Or.inr ⟨q, e, Nat.le_trans hC.size hq⟩
    simp only [Act.put, List.setIfInBounds_toArray, List.set_cons_succ, List.set_cons_zero, Nat.reduceAdd]
    refine Tn.spec_cons (fun W hC hd => ⟨by rfl, ?_⟩) ?_
    · exact Tn.gives_val (.pointer (some ⟨b, k * 3, none⟩)) W (exec_at3 (.tmp 89) (.tmp 90) rfl _ _ _ _ rfl rfl HK.out) ⟨hC, leA_b (by decide) (Below.refl _ _), (fun h => absurd h (by decide)), (fun h => absurd h (by decide)), fun z hz => by cases hz; rfl⟩
    simp only [Act.put, List.setIfInBounds_toArray, List.set_cons_succ, List.set_cons_zero, Nat.reduceAdd]
    rw [h9]
    refine Tn.spec_cons (fun W hC hd => ⟨by rfl, ?_⟩) ?_
    · exact Tn.gives_val (.pointer (some ⟨b, k * 3 + 1, none⟩)) W (exec_fld 73 1 (.tmp 95) rfl _ _ rfl (by kernel_rfl)) ⟨hC, leA_b (by decide) (Below.refl _ _), (fun h => absurd h (by decide)), (fun h => absurd h (by decide)), fun z hz => by cases hz; rfl⟩
    simp only [Act.put, List.setIfInBounds_toArray, List.set_cons_succ, List.set_cons_zero, Nat.reduceAdd]
    rw [h10]
    exact Tn.spec_nil
  · intro u W hu hC hP
    have h0 : u 0 = .pointer (some ⟨r, 0, none⟩) := hu 0 _ rfl
    have h1 : u 1 = .pointer (some ⟨r, 0, none⟩) := hu 1 _ rfl
    have h2 : u 2 = .pointer (some ⟨r, 0, none⟩) := hu 2 _ rfl
    have h3 : u 3 = .slice (some ⟨b, 0, none⟩) N cp := hu 3 _ rfl
    have h4 : u 4 = .int .i64 (k : Int) := hu 4 _ rfl
    have h5 : u 5 = pv := hu 5 _ rfl
    have h6 : u 6 = .int .i64 (a : Int) := hu 6 _ rfl
    have h9 : u 9 = .pointer (some ⟨b, k * 3, none⟩) := hu 9 _ rfl
    have h10 : u 10 = .pointer (some ⟨b, k * 3 + 1, none⟩) := hu 10 _ rfl
    obtain ⟨b15, k15, k16⟩ := (hP 8 (by decide)).2.1 rfl
    obtain ⟨sq, cq, e15, _⟩ := k15.slice
    rw [List.length_append, List.length_singleton, List.length_map, HLl.out] at e15
    rw [e15] at k15
    simp only [List.take_succ_cons, List.take_zero, List.drop_succ_cons, List.drop_zero, Tn.putAll, Act.put, List.setIfInBounds_toArray, List.set_cons_succ, List.set_cons_zero, Nat.reduceAdd]
    rw [h0, h1, h2, h3, h4, h5, h6, e15, h9, h10]
    have HK15 := Lib.hid k15
    have HK16 := Lib.hid k16
    have HCw := Lib.hid hC
    clear hu hC hP e15 k15 k16 h0 h1 h2 h3 h4 h5 h6 h9 h10
    have q1 := (HNr.out W (HBW.out W HCw.out)).2.1
    have q2 := (HNr.out W (HBW.out W HCw.out)).2.2
    have hset := HRf.out.setP HQr.out (w1 := W) (v := .slice sq (j + 1) cq) (d := b15) (P' := P0 ++ [a]) (I.grown_of (HBW.out W HCw.out) _) (by rw [List.map_append]; exact HK15.out) (by
      rcases HK16.out with e | ⟨q, e, hq⟩
      · cases hd : d with
        | none =>
          have hk := HK15.out
          rw [e, hd] at hk
          rcases hk with ⟨_, h9, _⟩ | ⟨g9, _, _, h9, _⟩
          · simp at h9
          · cases h9
        | some q => exact Or.inr ⟨q, e.trans hd, HKge.out q hd⟩
      · exact Or.inr ⟨q, e, Nat.le_trans HB12.out.size hq⟩)
    rw [HBb.out] at hset
    have HS9 := Lib.hid hset
    clear hset
    go_upto_region 15 with fail
    refine I.gen_w (Q := fun w => Code.wp _ _ _ _ w) _ (fun W => ∃ τ' ly', RefAt W τ' r ly' (putRow D k (some (L, P0 ++ [a]))) ∧ Step Tag.theirs τ τ' w W) HS9.out ?_
    clear q1 q2 HS9 HK15 HK16 HCw HF HCut Hlo HKge HBW HNr HSl HLl HLm HB12 HL0 HRt HFi
    rintro w2 ⟨τ2, ly2, h2, hst2⟩
    have hq2 : (putRow D k (some (L, P0 ++ [a]))).rows[k]? = some (some (L, P0 ++ [a])) := List.getElem?_set_self (by rw [HNn.out]; exact HK.out)
    have hn2 : (putRow D k (some (L, P0 ++ [a]))).rows.length = N := (List.length_set ..).trans HNn.out
    obtain ⟨c0, _, _⟩ := h2.cells
    obtain ⟨sr, cp, hv, _, _, hrow⟩ := h2.slice
    obtain ⟨rfl, u0, u1, _⟩ := hrow k _ hq2
    obtain ⟨r1, r2, r3, r4⟩ := h2.row k L _ hq2
    rw [hn2] at hv
    rw [hv] at c0
    simp only [Option.isSome_some, if_true] at u0
    obtain ⟨sp, cap, hlv, _⟩ := r1.sl
    rw [List.length_map, HLn.out] at hlv
    rw [hlv] at u0 r1
    obtain ⟨b, hb⟩ : ∃ b, ly2.b = b := ⟨_, rfl⟩
    obtain ⟨d, hd⟩ : ∃ d, ly2.lb k = d := ⟨_, rfl⟩
    rw [hb] at c0 u0
    rw [hd] at r1
    have HSet := Lib.hid fun (W : World) (v : Value) (d' : Option Nat) (hg : w2.grownBy W d) (hr : Row W 3 v d' ((L ++ [x]).map (Value.int .i64))) (he : d' = d ∨ ∃ q, d' = some q ∧ w2.heap.size ≤ q) => h2.setL hq2 (w1 := W) (v := v) (d := d') (L' := L ++ [x]) (by rw [hd]; exact hg) hr (by rw [hd]; exact he)
    rw [hb] at HSet
    have hnr : some r ≠ d := fun e => by have := r2 r (hd.trans e.symm); rw [h2.tr] at this; cases this
    have hbs : b < w2.heap.size := block_lt_of_cell u0
    have hnb2 : some b ≠ d := fun e => by
      have h9 := r2 b (hd.trans e.symm)
      rcases h2.rows with ⟨e0, _⟩ | ⟨_, _, _, _, _, _, _, _, h7⟩
      · rw [e0] at hq2; simp at hq2
      · rw [hb, h9] at h7; cases h7
    have hfz : w2.frozen? ⟨b, k * 3, none⟩ = false := by
      rcases h2.rows with ⟨e0, _⟩ | ⟨_, cur, _, h3, _⟩
      · rw [e0] at hq2; simp at hq2
      · rw [hb] at h3; exact row_frozen h3
    have HF : Hid ((∀ W, w2.grownBy W d → W.cell? ⟨r, 0, none⟩ = some (.slice (some ⟨b, 0, none⟩) N cp)) ∧ ∀ W, w2.grownBy W d → W.cell? ⟨b, k * 3, none⟩ = some (.slice sp n cap)) :=
      Lib.hid ⟨fun W hg => (World.cell?_of_block (w := w2) (hg.block r (block_lt_of_cell c0) hnr)).trans c0, fun W hg => (World.cell?_of_block (w := w2) (hg.block b hbs hnb2)).trans u0⟩
    have HZf : Hid (∀ W, w2.grownBy W d → W.frozen? ⟨b, k * 3, none⟩ = false) := Lib.hid fun W hg => (World.frozen?_of_block (w := w2) (hg.block b hbs hnb2)).trans hfz
    have Hlo : Hid (∀ q, d = some q → q < w2.heap.size) := Lib.hid fun q hq => r1.lt hq
    have HCut := Lib.hid r1
    have HLl := HLn
    have HLm := HLmL
    have HSt2 := Lib.hid hst2
    clear h2 hq2 hn2 hv hrow r1 r2 r3 r4 hlv hb hd hnr hbs hnb2 hfz hst2 c0 u0 u1
    refine Tn.wp_region_spec_at (C := fun W => w2.grownBy W d) (Le := LeA 15 d) (Pre := fun j W => j = 15 → Below w2.heap.size w2 W) 18 (fun _ => apQ 15 14 w2.heap.size d (.int .i64 x) (L.map (Value.int .i64)) (aqX r b k N cp n cap sp x)) (by kernel_rfl) (by kernel_rfl) ⟨rfl, rfl, rfl, Nat.le_refl _, fun _ _ _ => rfl⟩ (fun _ _ _ _ _ _ h => h) (fun _ j i W W' y hne hle h => apQ_later Hlo.out hne hle h) (fun j i W W' hne hle hp e => (hp e).trans ((hle.2 (fun h9 => hne (e.trans h9.symm))).mono (hp e).size)) (fun j _ => ⟨rfl, rfl, rfl, Nat.le_refl _, fun _ _ => rfl⟩) (fun ixx yy => ∀ z, aqX r b k N cp n cap sp x ixx = some z → yy = z) (fun _ _ _ _ h => h.2.2) (fun ixx => (aqX r b k N cp n cap sp x ixx).getD undef) (fun ixx z h => by simp [h]) ?_ ?_
    · intro u hu
      have h0 : u 0 = .pointer (some ⟨r, 0, none⟩) := hu 0 _ rfl
      have h1 : u 1 = .pointer (some ⟨r, 0, none⟩) := hu 1 _ rfl
      have h2 : u 2 = .pointer (some ⟨r, 0, none⟩) := hu 2 _ rfl
      have h3 : u 3 = .slice (some ⟨b, 0, none⟩) N cp := hu 3 _ rfl
      have h4 : u 4 = .int .i64 (k : Int) := hu 4 _ rfl
      have h5 : u 5 = .pointer (some ⟨r, 0, none⟩) := hu 5 _ rfl
      have h6 : u 6 = .pointer (some ⟨r, 0, none⟩) := hu 6 _ rfl
      have h7 : u 7 = .pointer (some ⟨r, 0, none⟩) := hu 7 _ rfl
      have h8 : u 8 = .slice (some ⟨b, 0, none⟩) N cp := hu 8 _ rfl
      have h9 : u 9 = .int .i64 (k : Int) := hu 9 _ rfl
      have h10 : u 10 = .pointer (some ⟨b, k * 3, none⟩) := hu 10 _ rfl
      have h11 : u 11 = .pointer (some ⟨b, k * 3, none⟩) := hu 11 _ rfl
      have h12 : u 12 = .slice sp n cap := hu 12 _ rfl
      have h13 : u 13 = .int .i64 x := hu 13 _ rfl
      have h16 : u 16 = .pointer (some ⟨b, k * 3, none⟩) := hu 16 _ rfl
      have h17 : u 17 = .pointer (some ⟨b, k * 3, none⟩) := hu 17 _ rfl
      simp only [List.take_succ_cons, List.take_zero]
      refine Tn.spec_cons (fun W hC hd => ⟨by rfl, ?_⟩) ?_
      · exact Tn.gives_val (.pointer (some ⟨r, 0, none⟩)) W (by rfl) ⟨hC, leA_b (by decide) (Below.refl _ _), (fun h => absurd h (by decide)), (fun h => absurd h (by decide)), fun z hz => by cases hz; rfl⟩
      simp only [Act.put, List.setIfInBounds_toArray, List.set_cons_succ, List.set_cons_zero, Nat.reduceAdd]
      rw [h0]
      refine Tn.spec_cons (fun W hC hd => ⟨by rfl, ?_⟩) ?_
      · exact Tn.gives_val (.pointer (some ⟨r, 0, none⟩)) W (exec_nilc (.tmp 97) rfl _ rfl) ⟨hC, leA_b (by decide) (Below.refl _ _), (fun h => absurd h (by decide)), (fun h => absurd h (by decide)), fun z hz => by cases hz; rfl⟩
      simp only [Act.put, List.setIfInBounds_toArray, List.set_cons_succ, List.set_cons_zero, Nat.reduceAdd]
      rw [h1]
      refine Tn.spec_cons (fun W hC hd => ⟨by rfl, ?_⟩) ?_
      · exact Tn.gives_val (.pointer (some ⟨r, 0, none⟩)) W (exec_fld 32 0 (.tmp 98) rfl _ _ rfl (by kernel_rfl)) ⟨hC, leA_b (by decide) (Below.refl _ _), (fun h => absurd h (by decide)), (fun h => absurd h (by decide)), fun z hz => by cases hz; rfl⟩
      simp only [Act.put, List.setIfInBounds_toArray, List.set_cons_succ, List.set_cons_zero, Nat.reduceAdd]
      rw [h2]
      refine Tn.spec_cons (fun W hC hd => ⟨by rfl, ?_⟩) ?_
      · exact Tn.gives_val (.slice (some ⟨b, 0, none⟩) N cp) W (exec_load1 30 (.tmp 99) rfl ⟨r, 0, none⟩ rfl _ (HF.out.1 W hC) _ Try.underlying30 rfl) ⟨hC, leA_b (by decide) (Below.refl _ _), (fun h => absurd h (by decide)), (fun h => absurd h (by decide)), fun z hz => by cases hz; rfl⟩
      simp only [Act.put, List.setIfInBounds_toArray, List.set_cons_succ, List.set_cons_zero, Nat.reduceAdd]
      rw [h3]
      refine Tn.spec_cons (fun W hC hd => ⟨by rfl, ?_⟩) ?_
      · exact Tn.gives_val (.int .i64 (k : Int)) W (by rfl) ⟨hC, leA_b (by decide) (Below.refl _ _), (fun h => absurd h (by decide)), (fun h => absurd h (by decide)), fun z hz => by cases hz; rfl⟩
      simp only [Act.put, List.setIfInBounds_toArray, List.set_cons_succ, List.set_cons_zero, Nat.reduceAdd]
      rw [h4]
      refine Tn.spec_cons (fun W hC hd => ⟨by rfl, ?_⟩) ?_
      · exact Tn.gives_val (.pointer (some ⟨r, 0, none⟩)) W (by rfl) ⟨hC, leA_b (by decide) (Below.refl _ _), (fun h => absurd h (by decide)), (fun h => absurd h (by decide)), fun z hz => by cases hz; rfl⟩
      simp only [Act.put, List.setIfInBounds_toArray, List.set_cons_succ, List.set_cons_zero, Nat.reduceAdd]
      rw [h5]
      refine Tn.spec_cons (fun W hC hd => ⟨by rfl, ?_⟩) ?_
      · exact Tn.gives_val (.pointer (some ⟨r, 0, none⟩)) W (exec_nilc (.tmp 102) rfl _ rfl) ⟨hC, leA_b (by decide) (Below.refl _ _), (fun h => absurd h (by decide)), (fun h => absurd h (by decide)), fun z hz => by cases hz; rfl⟩
      simp only [Act.put, List.setIfInBounds_toArray, List.set_cons_succ, List.set_cons_zero, Nat.reduceAdd]
      rw [h6]
      refine Tn.spec_cons (fun W hC hd => ⟨by rfl, ?_⟩) ?_
      · exact Tn.gives_val (.pointer (some ⟨r, 0, none⟩)) W (exec_fld 32 0 (.tmp 103) rfl _ _ rfl (by kernel_rfl)) ⟨hC, leA_b (by decide) (Below.refl _ _), (fun h => absurd h (by decide)), (fun h => absurd h (by decide)), fun z hz => by cases hz; rfl⟩
      simp only [Act.put, List.setIfInBounds_toArray, List.set_cons_succ, List.set_cons_zero, Nat.reduceAdd]
      rw [h7]
      refine Tn.spec_cons (fun W hC hd => ⟨by rfl, ?_⟩) ?_
      · exact Tn.gives_val (.slice (some ⟨b, 0, none⟩) N cp) W (exec_load1 30 (.tmp 104) rfl ⟨r, 0, none⟩ rfl _ (HF.out.1 W hC) _ Try.underlying30 rfl) ⟨hC, leA_b (by decide) (Below.refl _ _), (fun h => absurd h (by decide)), (fun h => absurd h (by decide)), fun z hz => by cases hz; rfl⟩
      simp only [Act.put, List.setIfInBounds_toArray, List.set_cons_succ, List.set_cons_zero, Nat.reduceAdd]
      rw [h8]
      refine Tn.spec_cons (fun W hC hd => ⟨by rfl, ?_⟩) ?_
      · exact Tn.gives_val (.int .i64 (k : Int)) W (by rfl) ⟨hC, leA_b (by decide) (Below.refl _ _), (fun h => absurd h (by decide)), (fun h => absurd h (by decide)), fun z hz => by cases hz; rfl⟩
      simp only [Act.put, List.setIfInBounds_toArray, List.set_cons_succ, List.set_cons_zero, Nat.reduceAdd]
      rw [h9]
      refine Tn.spec_cons (fun W hC hd => ⟨by rfl, ?_⟩) ?_
      · exact Tn.gives_val (.pointer (some ⟨b, k * 3, none⟩)) W (exec_at3 (.tmp 105) (.tmp 106) rfl _ _ _ _ rfl rfl HK.out) ⟨hC, leA_b (by decide) (Below.refl _ _), (fun h => absurd h (by decide)), (fun h => absurd h (by decide)), fun z hz => by cases hz; rfl⟩
      simp only [Act.put, List.setIfInBounds_toArray, List.set_cons_succ, List.set_cons_zero, Nat.reduceAdd]
      rw [h10]
      refine Tn.spec_cons (fun W hC hd => ⟨by rfl, ?_⟩) ?_
      · exact Tn.gives_val (.pointer (some ⟨b, k * 3, none⟩)) W (exec_fld 73 0 (.tmp 107) rfl _ _ rfl (by kernel_rfl)) ⟨hC, leA_b (by decide) (Below.refl _ _), (fun h => absurd h (by decide)), (fun h => absurd h (by decide)), fun z hz => by cases hz; rfl⟩
      simp only [Act.put, List.setIfInBounds_toArray, List.set_cons_succ, List.set_cons_zero, Nat.reduceAdd]
      rw [h11]
      refine Tn.spec_cons (fun W hC hd => ⟨by rfl, ?_⟩) ?_
      · exact Tn.gives_val (.slice sp n cap) W (exec_load1 40 (.tmp 108) rfl ⟨b, k * 3, none⟩ rfl _ (HF.out.2 W hC) _ Try.underlying40 rfl) ⟨hC, leA_b (by decide) (Below.refl _ _), (fun h => absurd h (by decide)), (fun h => absurd h (by decide)), fun z hz => by cases hz; rfl⟩
      simp only [Act.put, List.setIfInBounds_toArray, List.set_cons_succ, List.set_cons_zero, Nat.reduceAdd]
      rw [h12]
      refine Tn.spec_cons (fun W hC hd => ⟨by rfl, ?_⟩) ?_
      · exact Tn.gives_val (.int .i64 x) W (by rfl) ⟨hC, leA_b (by decide) (Below.refl _ _), (fun h => absurd h (by decide)), (fun h => absurd h (by decide)), fun z hz => by cases hz; rfl⟩
      simp only [Act.put, List.setIfInBounds_toArray, List.set_cons_succ, List.set_cons_zero, Nat.reduceAdd]
      rw [h13]
      refine Tn.spec_cons (fun W hC hd => ⟨by rfl, ?_⟩) ?_
      · exact Tn.gives_val _ _ (I.exec_one (.tmp 110) rfl x rfl) ⟨I.grown_trans hC (I.grown_of ((Below.refl W.heap.size W).alloc (Nat.le_refl _) _) _), leA_b (by decide) ((Below.refl W.heap.size W).alloc (Nat.le_refl _) _), (fun _ => I.OneV.made _ W 3 hC.size), (fun h => absurd h (by decide)), fun z hz => by cases hz⟩
      simp only [Act.put, List.setIfInBounds_toArray, List.set_cons_succ, List.set_cons_zero, Nat.reduceAdd]
      refine Tn.spec_cons_at (fun W hC hp hd => ⟨by rfl, ?_⟩) ?_
      · obtain ⟨b8, e8, hl8, c8⟩ := (hd ⟨14, .data⟩ (by simp) rfl).1 rfl
        refine gives_append_row 40 3 8 (.int .i64 0) Try.underlying40 info3 rfl (by decide) (.tmp 109) (.tmp 111) (by rfl) (.slice sp n cap) d (L.map (Value.int .i64)) (by rfl) (HCut.out.kept fun q hq => (hp rfl).block q (Hlo.out q hq)) b8 (.int .i64 x) (by exact e8) c8 rfl (by rw [List.length_map]; exact HLm.out) (fun v' W' b' h1 h2 h3 => ⟨I.grown_trans hC h2, leA_g h2, (fun h => absurd h (by decide)), (fun _ => ⟨b', h1, ?_⟩), fun z hz => by cases hz⟩)
        rcases h3 with e | ⟨q, e, hq⟩
        · exact Or.inl e
        · exact Or.inr ⟨q, e, Nat.le_trans hC.size hq⟩
      simp only [Act.put, List.setIfInBounds_toArray, List.set_cons_succ, List.set_cons_zero, Nat.reduceAdd]
      refine Tn.spec_cons (fun W hC hd => ⟨by rfl, ?_⟩) ?_
      · exact Tn.gives_val (.pointer (some ⟨b, k * 3, none⟩)) W (exec_at3 (.tmp 100) (.tmp 101) rfl _ _ _ _ rfl rfl HK.out) ⟨hC, leA_b (by decide) (Below.refl _ _), (fun h => absurd h (by decide)), (fun h => absurd h (by decide)), fun z hz => by cases hz; rfl⟩
      simp only [Act.put, List.setIfInBounds_toArray, List.set_cons_succ, List.set_cons_zero, Nat.reduceAdd]
      rw [h16]
      refine Tn.spec_cons (fun W hC hd => ⟨by rfl, ?_⟩) ?_
      · exact Tn.gives_val (.pointer (some ⟨b, k * 3, none⟩)) W (exec_fld 73 0 (.tmp 113) rfl _ _ rfl (by kernel_rfl)) ⟨hC, leA_b (by decide) (Below.refl _ _), (fun h => absurd h (by decide)), (fun h => absurd h (by decide)), fun z hz => by cases hz; rfl⟩
      simp only [Act.put, List.setIfInBounds_toArray, List.set_cons_succ, List.set_cons_zero, Nat.reduceAdd]
      rw [h17]
      exact Tn.spec_nil
    · intro u W hu hC hP
      have h0 : u 0 = .pointer (some ⟨r, 0, none⟩) := hu 0 _ rfl
      have h1 : u 1 = .pointer (some ⟨r, 0, none⟩) := hu 1 _ rfl
      have h2 : u 2 = .pointer (some ⟨r, 0, none⟩) := hu 2 _ rfl
      have h3 : u 3 = .slice (some ⟨b, 0, none⟩) N cp := hu 3 _ rfl
      have h4 : u 4 = .int .i64 (k : Int) := hu 4 _ rfl
      have h5 : u 5 = .pointer (some ⟨r, 0, none⟩) := hu 5 _ rfl
      have h6 : u 6 = .pointer (some ⟨r, 0, none⟩) := hu 6 _ rfl
      have h7 : u 7 = .pointer (some ⟨r, 0, none⟩) := hu 7 _ rfl
      have h8 : u 8 = .slice (some ⟨b, 0, none⟩) N cp := hu 8 _ rfl
      have h9 : u 9 = .int .i64 (k : Int) := hu 9 _ rfl
      have h10 : u 10 = .pointer (some ⟨b, k * 3, none⟩) := hu 10 _ rfl
      have h11 : u 11 = .pointer (some ⟨b, k * 3, none⟩) := hu 11 _ rfl
      have h12 : u 12 = .slice sp n cap := hu 12 _ rfl
      have h13 : u 13 = .int .i64 x := hu 13 _ rfl
      have h16 : u 16 = .pointer (some ⟨b, k * 3, none⟩) := hu 16 _ rfl
      have h17 : u 17 = .pointer (some ⟨b, k * 3, none⟩) := hu 17 _ rfl
      obtain ⟨b15, k15, k16⟩ := (hP 15 (by decide)).2.1 rfl
      obtain ⟨sq, cq, e15, _⟩ := k15.slice
      rw [List.length_append, List.length_singleton, List.length_map, HLl.out] at e15
      rw [e15] at k15
      simp only [List.take_succ_cons, List.take_zero, List.drop_succ_cons, List.drop_zero, Tn.putAll, Act.put, List.setIfInBounds_toArray, List.set_cons_succ, List.set_cons_zero, Nat.reduceAdd]
      rw [h0, h1, h2, h3, h4, h5, h6, h7, h8, h9, h10, h11, h12, h13, e15, h16, h17]
      have HK15 := Lib.hid k15
      have HK16 := Lib.hid k16
      have HCw := Lib.hid hC
      clear hu hC hP e15 k15 k16 h0 h1 h2 h3 h4 h5 h6 h7 h8 h9 h10 h11 h12 h13 h16 h17
      have q1 := HF.out.2 W HCw.out
      have q2 := HZf.out W HCw.out
      have hset := HSet.out W (.slice sq (n + 1) cq) b15 HCw.out (by rw [List.map_append]; exact HK15.out) HK16.out
      rw [putRow_twice] at hset
      have HS9 := Lib.hid hset
      clear hset HSet HCw HK15 HK16 HF HCut Hlo
      go_wp2
      go_ret
      obtain ⟨τ', ly', k1, k2⟩ := HS9.out
      exact ⟨rfl, τ', ⟨ly', k1⟩, HSt2.out.trans k2⟩
end Go.Proofs.Ytcfhchdkohjbfaa.Kv
