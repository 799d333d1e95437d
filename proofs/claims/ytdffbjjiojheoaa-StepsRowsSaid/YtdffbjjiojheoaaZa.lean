/- Small models that a law makes: the numbers that fill them. -/
import Derived.Test.YtdffbjjiojheoaaTb
import Derived.Test.YtdffbjjiojheoaaBs
namespace Go.Proofs.Ytdffbjjiojheoaa.Mk
set_option maxRecDepth 100000
open Go.ChangeShapes Go.WideShapes Go.ChangeAt Go.RowKit Go.Proofs.Ytdffbjjiojheoaa.Tn
/-- what the filler hands out -/
def fillN (fl : List Int) (at_ n : Nat) : List Int := (List.range n).map fun i => fl.getD ((at_ + i) % fl.length) 0
theorem fillN_length (fl : List Int) (at_ n : Nat) : (fillN fl at_ n).length = n := by simp [fillN]
theorem fillN_succ (fl : List Int) (at_ n : Nat) : fillN fl at_ (n + 1) = fillN fl at_ n ++ [fl.getD ((at_ + n) % fl.length) 0] := by simp [fillN, List.range_succ]
/-- a filler in its block -/
structure Fil (w0 : World) (fb : Nat) (sf : Option Addr) (cf : Nat) (fl : List Int) (at_ : Nat) (W : World) : Prop where
  below : Below w0.heap.size w0 W
  hb : w0.heap.size ≤ fb
  row : W.heap[fb]? = some (.cells #[.slice sf fl.length cf, .int .i64 (at_ : Int)] 103 (0, 0))
section
variable {w0 W W' : World} {fb : Nat} {sf : Option Addr} {cf : Nat} {fl : List Int} {at_ : Nat}
theorem Fil.later (h : Fil w0 fb sf cf fl at_ W) (hb : Below W.heap.size W W') : Fil w0 fb sf cf fl at_ W' :=
  ⟨h.below.trans (hb.mono h.below.size), h.hb, (hb.block _ (Array.getElem?_eq_some_iff.1 h.row).1).trans h.row⟩
theorem Fil.cells (h : Fil w0 fb sf cf fl at_ W) : W.cell? ⟨fb, 0, none⟩ = some (.slice sf fl.length cf) ∧ W.cell? ⟨fb, 1, none⟩ = some (.int .i64 (at_ : Int)) ∧ W.frozen? ⟨fb, 1, none⟩ = false := by
  refine ⟨?_, ?_, frozen_of_row _ _ _ _ _ h.row⟩ <;> (rw [cell_of_row _ _ _ _ _ _ h.row]; rfl)
theorem Fil.turn (h : Fil w0 fb sf cf fl at_ W) (a : Nat) : Fil w0 fb sf cf fl a (W.setCell ⟨fb, 1, none⟩ (.int .i64 (a : Int))) := by
  refine ⟨⟨h.below.os, h.below.tape, h.below.output, by rw [show (W.setCell ⟨fb, 1, none⟩ (.int .i64 (a : Int))).heap.size = W.heap.size by simp]; exact h.below.size, fun k hk => ?_⟩, h.hb, ?_⟩
  · rw [heap_setCell_other _ _ _ _ (by have := h.hb; simp; omega)]
    exact h.below.block k hk
  · rw [heap_setCell_same _ _ _ _ _ _ h.row]
    rfl
theorem grownM_set (w : World) (g i : Nat) (v : Value) : w.grownBy (w.setCell ⟨g, i, none⟩ v) (some g) := ⟨rfl, rfl, rfl, by simp, fun k hk hne => heap_setCell_other _ _ _ _ (fun e => hne (by rw [e]))⟩
theorem grownM_trans {W1 W2 W3 : World} {row : Option Nat} (h1 : W1.grownBy W2 row) (h2 : W2.grownBy W3 row) : W1.grownBy W3 row :=
  ⟨h2.os.trans h1.os, h2.tape.trans h1.tape, h2.output.trans h1.output, Nat.le_trans h1.size h2.size, fun k hk hne => (h2.block k (by have := h1.size; omega) hne).trans (h1.block k hk hne)⟩
theorem grownM_of {w w' : World} (hb : Below w.heap.size w w') (row : Option Nat) : w.grownBy w' row := ⟨hb.os, hb.tape, hb.output, hb.size, fun k hk _ => hb.block k hk⟩
end
section
variable {a : Act} {o : Oper} {W : World}
theorem exec_nilcM (x : Operand) (ho : o.op = .nilCheck x) (p : Addr) (hx : a.eval x = .pointer (some p)) : (execOp a.eval o).run Try.prog W = .ok (.value (.pointer (some p))) W := by
  unfold execOp
  simp only [ho, hx, Sem.run_pure]
theorem exec_fldM (T : TypeId) (i : Nat) (x : Operand) (ho : o.op = .fieldAddr T x i) (p q : Addr) (hx : a.eval x = .pointer (some p)) (h : (Instr.fieldAt T (.pointer (some p)) i).run Try.prog W = .ok (.pointer (some q)) W) : (execOp a.eval o).run Try.prog W = .ok (.value (.pointer (some q))) W := by
  unfold execOp
  simp only [ho, hx, Sem.run_bind, h, Result.andThen_ok, Sem.run_pure]
theorem exec_remM (x y : Operand) (ho : o.op = .binOp .rem 3 x y 3) (u v z : Int) (hx : a.eval x = .int .i64 u) (hy : a.eval y = .int .i64 v) (hz : v ≠ 0) (h : u.tmod v = z) : (execOp a.eval o).run Try.prog W = .ok (.value (.int .i64 z)) W := by
  unfold execOp
  simp [ho, hx, hy, binOp, Op.intDiv, hz, h, eqGuard]
theorem exec_lenM (x : Operand) (ho : o.op = .call { callee := .builtin .len, args := #[x], argTypes := #[23] }) (sp : Option Addr) (n cap : Nat) (hx : a.eval x = .slice sp n cap) : (execOp a.eval o).run Try.prog W = .ok (.value (.int .i64 n)) W := by
  unfold execOp
  simp only [ho, resolve, invoke, Sem.run_bind, Sem.run_pure, Result.andThen_ok, List.map_toArray, List.map_cons, List.map_nil, hx, BigFrame.builtin_len]
  simp [go_sem]
theorem exec_atM (x y : Operand) (ho : o.op = .indexAddr 23 x y) (c b n cap i : Nat) (hx : a.eval x = .slice (some ⟨c, b, none⟩) n cap) (hy : a.eval y = .int .i64 (i : Int)) (hi : i < n) : (execOp a.eval o).run Try.prog W = .ok (.value (.pointer (some ⟨c, b + i, none⟩))) W := by
  have hadd := Tn.add_plain c b i
  cases hq : Try.prog.info? 3 with
  | none => have := size3; simp [hq] at this
  | some j =>
    have hj : j.size = 1 := by simpa [hq] using size3
    unfold execOp
    simp [ho, hx, hy, Instr.indexAt, asIntOf, run_underlying Try.underlying23, sizeOf, typeInfo, hq, hj, hi, hadd]
theorem exec_oneM (y : Operand) (ho : o.op = .buildSlice 23 1 #[(0, y)]) (x : Int) (hx : a.eval y = (.int .i64 x)) : (execOp a.eval o).run Try.prog W = .ok (.value (.slice (some ⟨W.heap.size, 0, none⟩) 1 1)) (W.alloc (.cells #[(.int .i64 x)] 3)) := by
  obtain ⟨i0, hi, hz0, hz1, hz2⟩ := info_parts info3
  unfold execOp
  have hr := run_buildSlice (P := Try.prog) W 23 3 1 #[(0, (.int .i64 x))] #[(.int .i64 x)] i0 _ Try.underlying23 hi hz0 (by rw [hz1]; decide) (by rw [hz1]; decide) (by rw [hz1]; kernel_rfl)
  have e : (#[((0 : Nat), y)].map fun (i, x) => (i, a.eval x)) = #[(0, (.int .i64 x))] := by simp [hx]
  simp only [ho, e, Sem.run_bind, hr, Result.andThen_ok, Sem.run_pure]
/-- append of one number to a row of the call's own, in a drawn region -/
theorem gives_pushM (s x : Operand) (ho : o.op = .call { callee := .builtin .append, args := #[s, x], argTypes := #[23, 23] }) (base : Nat) (v : Value) (n : Nat) (l : List Int) (y : Int) (hs : a.eval s = v) (hown : W.ownsRow base 3 1 v n (l.map (Value.int .i64)))
    (c : Nat) (hx : a.eval x = .slice (some ⟨c, 0, none⟩) 1 1) (hc : W.cell? ⟨c, 0, none⟩ = some (.int .i64 y)) (hn : n ≤ 99999) (hbase : base ≤ W.heap.size) {G : Value → World → Prop}
    (h : ∀ v' w', w'.ownsRow base 3 1 v' (n + 1) ((l ++ [y]).map (Value.int .i64)) → W.grownBy w' v.ownBlock → G v' w') : Gives Try.prog o a W G := by
  obtain ⟨i0, hi, hz0, hz1, hz2⟩ := info_parts info3
  obtain ⟨v', w', hrun, k1, k2, _⟩ := run_append_own (P := Try.prog) W base 23 o.type 3 i0 _ 1 8 Try.underlying23 hi hz0 hz1 hz2 rfl (by decide) v n _ hown ⟨c, 0, none⟩ 1 1 [.int .i64 y] rfl (fun j u hj => by
    rcases j with _ | j
    · have e : Value.int .i64 y = u := by simpa using hj
      rw [← e]
      have e2 : (⟨c, 0, none⟩ : Addr).add 0 = ⟨c, 0, none⟩ := rfl
      rw [e2]; exact hc
    · simp at hj) (fun u hu => by simp at hu; subst hu; rfl) (by unfold maxLen; omega) (by omega) hbase
  refine Tn.gives_val v' w' ?_ (h v' w' (by rw [List.map_append]; exact k1) k2)
  simp [execOp, ho, resolve, invoke, builtin, hs, hx, hrun, Result.andThen]
end
/-- in such a region the operation A appends, and the others turn nothing -/
def LeP (A : Nat) (row : Option Nat) (k : Nat) (w w' : World) : Prop := (k = A → w.grownBy w' row) ∧ (k ≠ A → Below w.heap.size w w')
theorem leP_b {A : Nat} {row : Option Nat} {k : Nat} {W1 W2 : World} (hk : k ≠ A) (hb : Below W1.heap.size W1 W2) : LeP A row k W1 W2 := ⟨fun h => absurd h hk, fun _ => hb⟩
theorem leP_g {A : Nat} {row : Option Nat} {W1 W2 : World} (hg : W1.grownBy W2 row) : LeP A row A W1 W2 := ⟨fun _ => hg, fun h => absurd rfl h⟩
def pushQ (A B base lo n : Nat) (l : List Int) (y : Int) (vals : Nat → Option Value) (j : Nat) (W : World) (v : Value) : Prop :=
  (j = B → ∃ b, v = .slice (some ⟨b, 0, none⟩) 1 1 ∧ lo ≤ b ∧ W.cell? ⟨b, 0, none⟩ = some (.int .i64 y)) ∧ (j = A → W.ownsRow base 3 1 v (n + 1) ((l ++ [y]).map (Value.int .i64))) ∧ ∀ z, vals j = some z → v = z
theorem pushQ_later {A B base lo n i j : Nat} {row : Option Nat} {l : List Int} {y : Int} {vals : Nat → Option Value} {W1 W2 : World} {v : Value} (hlo : ∀ k, row = some k → base ≤ k ∧ k < lo) (_hAB : A ≠ B) (hne : j ≠ i) (hle : LeP A row i W1 W2) (h : pushQ A B base lo n l y vals j W1 v) : pushQ A B base lo n l y vals j W2 v := by
  refine ⟨fun e => ?_, fun e => ?_, h.2.2⟩
  · obtain ⟨b, e1, h1, h2⟩ := h.1 e
    refine ⟨b, e1, h1, ?_⟩
    by_cases hi : i = A
    · exact (World.cell?_of_block (w := W1) ((hle.1 hi).block b (block_lt_of_cell h2) (fun e => by have := (hlo b e.symm).2; omega))).trans h2
    · exact ((hle.2 hi).cell (block_lt_of_cell h2)).trans h2
  · exact owns_below (h.2.1 e) (hle.2 (fun h9 => hne (e.trans h9.symm)))
def nxV (fb c o nl cf a p : Nat) (ov : Value) (y : Int) : Nat → Option Value
  | 0 => some (ov)
  | 1 => some (.pointer (some ⟨fb, 0, none⟩))
  | 2 => some (.pointer (some ⟨fb, 0, none⟩))
  | 3 => some (.pointer (some ⟨fb, 0, none⟩))
  | 4 => some (.slice (some ⟨c, o, none⟩) nl cf)
  | 5 => some (.pointer (some ⟨fb, 0, none⟩))
  | 6 => some (.pointer (some ⟨fb, 0, none⟩))
  | 7 => some (.pointer (some ⟨fb, 1, none⟩))
  | 8 => some (.int .i64 (a : Int))
  | 9 => some (.pointer (some ⟨fb, 0, none⟩))
  | 10 => some (.pointer (some ⟨fb, 0, none⟩))
  | 11 => some (.pointer (some ⟨fb, 0, none⟩))
  | 12 => some (.slice (some ⟨c, o, none⟩) nl cf)
  | 13 => some (.int .i64 (nl : Int))
  | 14 => some (.int .i64 (p : Int))
  | 15 => some (.pointer (some ⟨c, o + p, none⟩))
  | 16 => some (.int .i64 y)
  | _ => none
set_option maxHeartbeats 8000000 in
theorem next_any {w0 : World} {fb : Nat} {sf : Option Addr} {cf : Nat} {fl : List Int} {at_ : Nat} (hN : Nums w0 sf cf fl) (h1 : 1 ≤ fl.length) (h2 : fl.length ≤ 80) (w : World) (hF : Fil w0 fb sf cf fl at_ w) (ha : at_ ≤ 100000) (n : Nat) (hn : n ≤ 1000) :
    Calls Try.prog 47 #[.pointer (some ⟨fb, 0, none⟩), .int .i64 (n : Int)] w fun e W' => ∃ sq cq, e = .returned (.slice sq n cq) ∧ Fil w0 fb sf cf fl (at_ + n) W' ∧ w.grownBy W' (some fb) ∧ W'.ownsRow w.heap.size 3 1 (.slice sq n cq) n ((fillN fl at_ n).map (Value.int .i64)) := by
  obtain ⟨nl, hnl⟩ : ∃ nl, fl.length = nl := ⟨_, rfl⟩
  have HNm := Lib.hid hN
  have HFi := Lib.hid hF
  have HLn := Lib.hid hnl
  rw [hnl] at h1 h2
  have hfbw : fb < w.heap.size := (Array.getElem?_eq_some_iff.1 hF.row).1
  have HFb := Lib.hid hfbw
  clear hN hF hnl hfbw
  go_enter Try.func47, Try.ntmps47
  go_wp2
  go_loopw [5, 6] (fun ov iv wr => ∃ i : Nat, i ≤ n ∧ iv = .int .i64 i ∧ wr.ownsRow w.heap.size 3 1 ov i ((fillN fl at_ i).map (Value.int .i64)) ∧ Fil w0 fb sf cf fl (at_ + i) wr ∧ w.grownBy wr (some fb)) (fun _ iv _ => n - (intOf iv).toNat)
  case atStart => exact ⟨0, by omega, rfl, ⟨rfl, Or.inl ⟨rfl, rfl⟩⟩, HFi.out, rfl, rfl, rfl, Nat.le_refl _, fun _ _ _ => rfl⟩
  case round =>
    obtain ⟨i, hi, rfl, k1, k2, k3⟩ := hrel
    obtain ⟨sv, cv, rfl, _⟩ := Sl.all1 k1
    have HOw' := Lib.hid k1
    have HFr := Lib.hid k2
    have HGr := Lib.hid k3
    obtain ⟨c0, c1, z1⟩ := k2.cells
    rw [HLn.out] at c0
    clear k1 k2 k3
    by_cases hlt : i < n
    · have e1 : decide (i < n) = true := by simpa using hlt
      have e2 : decide ((i : Int) < (n : Int)) = true := by simp; omega
      obtain ⟨a, haa⟩ : ∃ a, at_ + i = a := ⟨_, rfl⟩
      have ha2 : a ≤ 101000 := by omega
      have HAa := Lib.hid haa
      rw [haa] at c1
      obtain ⟨p, hp⟩ : ∃ p, a % nl = p := ⟨_, rfl⟩
      have hpl : p < nl := by rw [← hp]; exact Nat.mod_lt _ (by omega)
      obtain ⟨c, o, rfl, hy⟩ := HNm.out.at_ p (by rw [HLn.out]; exact hpl)
      obtain ⟨y, hyy⟩ : ∃ y, fl.getD p 0 = y := ⟨_, rfl⟩
      rw [hyy] at hy
      obtain ⟨ov, hov⟩ : ∃ ov, Value.slice sv i cv = ov := ⟨_, rfl⟩
      rw [hov] at HOw'
      have HOw := HOw'
      have HI : Hid (i ≤ 99999) := Lib.hid (by omega)
      have HSz : Hid (w.heap.size ≤ wr.heap.size) := Lib.hid HGr.out.size
      have Hlo : Hid (∀ k, ov.ownBlock = some k → w.heap.size ≤ k ∧ k < wr.heap.size) := Lib.hid fun k hk => HOw.out.lt k hk
      have hy0 : ∀ W, wr.grownBy W ov.ownBlock → W.cell? ⟨c, o + p, none⟩ = some (.int .i64 y) := fun W hg => by
        have hb : Below w0.heap.size w0 W := HFr.out.below.trans (Below.ofGrown hg HFr.out.below.size (fun k hk => Nat.le_trans (HFi.out.below.size) (Hlo.out k hk).1))
        exact (hb.cell (block_lt_of_cell hy)).trans hy
      have HF : Hid ((∀ W, wr.grownBy W ov.ownBlock → W.cell? ⟨fb, 0, none⟩ = some (.slice (some ⟨c, o, none⟩) nl cf)) ∧ (∀ W, wr.grownBy W ov.ownBlock → W.cell? ⟨fb, 1, none⟩ = some (.int .i64 (a : Int))) ∧ ∀ W, wr.grownBy W ov.ownBlock → W.cell? ⟨c, o + p, none⟩ = some (.int .i64 y)) := Lib.hid
        ⟨fun W hg => (World.cell?_of_block (w := wr) (hg.block fb (block_lt_of_cell c0) (fun e => by have := (Hlo.out fb e.symm).1; have := HFb.out; omega))).trans c0, fun W hg => (World.cell?_of_block (w := wr) (hg.block fb (block_lt_of_cell c0) (fun e => by have := (Hlo.out fb e.symm).1; have := HFb.out; omega))).trans c1, hy0⟩
      have HM : Hid ((nl : Int) ≠ 0 ∧ (a : Int).tmod (nl : Int) = (p : Int) ∧ p < nl) := Lib.hid ⟨by omega, by rw [← hp]; exact (Int.ofNat_tmod a nl).symm, hpl⟩
      have HY : Hid (fillN fl at_ (i + 1) = fillN fl at_ i ++ [y]) := Lib.hid (by rw [fillN_succ, HLn.out, haa, hp, hyy])
      have HSv := Lib.hid hov
      clear c0 c1 z1 haa hp hpl hy hyy hy0
      go_upto_region 5 with fail
      rw [hov]
      clear hov
      refine Tn.wp_region_spec_at (C := fun W => wr.grownBy W ov.ownBlock) (Le := LeP 18 ov.ownBlock) (Pre := fun j W => j = 18 → Below wr.heap.size wr W) 19 (fun _ => pushQ 18 17 w.heap.size wr.heap.size i (fillN fl at_ i) y (nxV fb c o nl cf a p ov y)) (by kernel_rfl) (by kernel_rfl) ⟨rfl, rfl, rfl, Nat.le_refl _, fun _ _ _ => rfl⟩ (fun _ _ _ _ _ _ h => h) (fun _ j k W W' y hne hle h => pushQ_later Hlo.out (by decide) hne hle h) (fun j k W W' hne hle hp e => (hp e).trans ((hle.2 (fun h9 => hne (e.trans h9.symm))).mono (hp e).size)) (fun j _ => ⟨rfl, rfl, rfl, Nat.le_refl _, fun _ _ => rfl⟩) (fun ixx yy => ∀ z, nxV fb c o nl cf a p ov y ixx = some z → yy = z) (fun _ _ _ _ h => h.2.2) (fun ixx => (nxV fb c o nl cf a p ov y ixx).getD undef) (fun ixx z h => by simp [h]) ?_ ?_
      · intro u hu
        have h0 : u 0 = ov := hu 0 _ rfl
        have h1 : u 1 = .pointer (some ⟨fb, 0, none⟩) := hu 1 _ rfl
        have h2 : u 2 = .pointer (some ⟨fb, 0, none⟩) := hu 2 _ rfl
        have h3 : u 3 = .pointer (some ⟨fb, 0, none⟩) := hu 3 _ rfl
        have h4 : u 4 = .slice (some ⟨c, o, none⟩) nl cf := hu 4 _ rfl
        have h5 : u 5 = .pointer (some ⟨fb, 0, none⟩) := hu 5 _ rfl
        have h6 : u 6 = .pointer (some ⟨fb, 0, none⟩) := hu 6 _ rfl
        have h7 : u 7 = .pointer (some ⟨fb, 1, none⟩) := hu 7 _ rfl
        have h8 : u 8 = .int .i64 (a : Int) := hu 8 _ rfl
        have h9 : u 9 = .pointer (some ⟨fb, 0, none⟩) := hu 9 _ rfl
        have h10 : u 10 = .pointer (some ⟨fb, 0, none⟩) := hu 10 _ rfl
        have h11 : u 11 = .pointer (some ⟨fb, 0, none⟩) := hu 11 _ rfl
        have h12 : u 12 = .slice (some ⟨c, o, none⟩) nl cf := hu 12 _ rfl
        have h13 : u 13 = .int .i64 (nl : Int) := hu 13 _ rfl
        have h14 : u 14 = .int .i64 (p : Int) := hu 14 _ rfl
        have h15 : u 15 = .pointer (some ⟨c, o + p, none⟩) := hu 15 _ rfl
        have h16 : u 16 = .int .i64 y := hu 16 _ rfl
        simp only [List.take_succ_cons, List.take_zero]
        refine Tn.spec_cons (fun W hC hd => ⟨by rfl, ?_⟩) ?_
        · exact Tn.gives_val (ov) W (by rfl) ⟨hC, leP_b (by decide) (Below.refl _ _), (fun h => absurd h (by decide)), (fun h => absurd h (by decide)), fun z hz => by cases hz; rfl⟩
        simp only [Act.put, List.setIfInBounds_toArray, List.set_cons_succ, List.set_cons_zero, Nat.reduceAdd]
        rw [h0]
        refine Tn.spec_cons (fun W hC hd => ⟨by rfl, ?_⟩) ?_
        · exact Tn.gives_val (.pointer (some ⟨fb, 0, none⟩)) W (by rfl) ⟨hC, leP_b (by decide) (Below.refl _ _), (fun h => absurd h (by decide)), (fun h => absurd h (by decide)), fun z hz => by cases hz; rfl⟩
        simp only [Act.put, List.setIfInBounds_toArray, List.set_cons_succ, List.set_cons_zero, Nat.reduceAdd]
        rw [h1]
        refine Tn.spec_cons (fun W hC hd => ⟨by rfl, ?_⟩) ?_
        · exact Tn.gives_val (.pointer (some ⟨fb, 0, none⟩)) W (exec_nilcM (.tmp 13) rfl _ rfl) ⟨hC, leP_b (by decide) (Below.refl _ _), (fun h => absurd h (by decide)), (fun h => absurd h (by decide)), fun z hz => by cases hz; rfl⟩
        simp only [Act.put, List.setIfInBounds_toArray, List.set_cons_succ, List.set_cons_zero, Nat.reduceAdd]
        rw [h2]
        refine Tn.spec_cons (fun W hC hd => ⟨by rfl, ?_⟩) ?_
        · exact Tn.gives_val (.pointer (some ⟨fb, 0, none⟩)) W (exec_fldM 103 0 (.tmp 14) rfl _ _ rfl (by kernel_rfl)) ⟨hC, leP_b (by decide) (Below.refl _ _), (fun h => absurd h (by decide)), (fun h => absurd h (by decide)), fun z hz => by cases hz; rfl⟩
        simp only [Act.put, List.setIfInBounds_toArray, List.set_cons_succ, List.set_cons_zero, Nat.reduceAdd]
        rw [h3]
        refine Tn.spec_cons (fun W hC hd => ⟨by rfl, ?_⟩) ?_
        · exact Tn.gives_val (.slice (some ⟨c, o, none⟩) nl cf) W (Bp.exec_load1 23 (.tmp 15) rfl ⟨fb, 0, none⟩ rfl _ (HF.out.1 W hC) _ Try.underlying23 rfl) ⟨hC, leP_b (by decide) (Below.refl _ _), (fun h => absurd h (by decide)), (fun h => absurd h (by decide)), fun z hz => by cases hz; rfl⟩
        simp only [Act.put, List.setIfInBounds_toArray, List.set_cons_succ, List.set_cons_zero, Nat.reduceAdd]
        rw [h4]
        refine Tn.spec_cons (fun W hC hd => ⟨by rfl, ?_⟩) ?_
        · exact Tn.gives_val (.pointer (some ⟨fb, 0, none⟩)) W (by rfl) ⟨hC, leP_b (by decide) (Below.refl _ _), (fun h => absurd h (by decide)), (fun h => absurd h (by decide)), fun z hz => by cases hz; rfl⟩
        simp only [Act.put, List.setIfInBounds_toArray, List.set_cons_succ, List.set_cons_zero, Nat.reduceAdd]
        rw [h5]
        refine Tn.spec_cons (fun W hC hd => ⟨by rfl, ?_⟩) ?_
        · exact Tn.gives_val (.pointer (some ⟨fb, 0, none⟩)) W (exec_nilcM (.tmp 17) rfl _ rfl) ⟨hC, leP_b (by decide) (Below.refl _ _), (fun h => absurd h (by decide)), (fun h => absurd h (by decide)), fun z hz => by cases hz; rfl⟩
        simp only [Act.put, List.setIfInBounds_toArray, List.set_cons_succ, List.set_cons_zero, Nat.reduceAdd]
        rw [h6]
        refine Tn.spec_cons (fun W hC hd => ⟨by rfl, ?_⟩) ?_
        · exact Tn.gives_val (.pointer (some ⟨fb, 1, none⟩)) W (exec_fldM 103 1 (.tmp 18) rfl _ _ rfl (by kernel_rfl)) ⟨hC, leP_b (by decide) (Below.refl _ _), (fun h => absurd h (by decide)), (fun h => absurd h (by decide)), fun z hz => by cases hz; rfl⟩
        simp only [Act.put, List.setIfInBounds_toArray, List.set_cons_succ, List.set_cons_zero, Nat.reduceAdd]
        rw [h7]
        refine Tn.spec_cons (fun W hC hd => ⟨by rfl, ?_⟩) ?_
        · exact Tn.gives_val (.int .i64 (a : Int)) W (Bp.exec_load1 3 (.tmp 19) rfl ⟨fb, 1, none⟩ rfl _ (HF.out.2.1 W hC) _ Try.underlying3 rfl) ⟨hC, leP_b (by decide) (Below.refl _ _), (fun h => absurd h (by decide)), (fun h => absurd h (by decide)), fun z hz => by cases hz; rfl⟩
        simp only [Act.put, List.setIfInBounds_toArray, List.set_cons_succ, List.set_cons_zero, Nat.reduceAdd]
        rw [h8]
        refine Tn.spec_cons (fun W hC hd => ⟨by rfl, ?_⟩) ?_
        · exact Tn.gives_val (.pointer (some ⟨fb, 0, none⟩)) W (by rfl) ⟨hC, leP_b (by decide) (Below.refl _ _), (fun h => absurd h (by decide)), (fun h => absurd h (by decide)), fun z hz => by cases hz; rfl⟩
        simp only [Act.put, List.setIfInBounds_toArray, List.set_cons_succ, List.set_cons_zero, Nat.reduceAdd]
        rw [h9]
        refine Tn.spec_cons (fun W hC hd => ⟨by rfl, ?_⟩) ?_
        · exact Tn.gives_val (.pointer (some ⟨fb, 0, none⟩)) W (exec_nilcM (.tmp 21) rfl _ rfl) ⟨hC, leP_b (by decide) (Below.refl _ _), (fun h => absurd h (by decide)), (fun h => absurd h (by decide)), fun z hz => by cases hz; rfl⟩
        simp only [Act.put, List.setIfInBounds_toArray, List.set_cons_succ, List.set_cons_zero, Nat.reduceAdd]
        rw [h10]
        refine Tn.spec_cons (fun W hC hd => ⟨by rfl, ?_⟩) ?_
        · exact Tn.gives_val (.pointer (some ⟨fb, 0, none⟩)) W (exec_fldM 103 0 (.tmp 22) rfl _ _ rfl (by kernel_rfl)) ⟨hC, leP_b (by decide) (Below.refl _ _), (fun h => absurd h (by decide)), (fun h => absurd h (by decide)), fun z hz => by cases hz; rfl⟩
        simp only [Act.put, List.setIfInBounds_toArray, List.set_cons_succ, List.set_cons_zero, Nat.reduceAdd]
        rw [h11]
        refine Tn.spec_cons (fun W hC hd => ⟨by rfl, ?_⟩) ?_
        · exact Tn.gives_val (.slice (some ⟨c, o, none⟩) nl cf) W (Bp.exec_load1 23 (.tmp 23) rfl ⟨fb, 0, none⟩ rfl _ (HF.out.1 W hC) _ Try.underlying23 rfl) ⟨hC, leP_b (by decide) (Below.refl _ _), (fun h => absurd h (by decide)), (fun h => absurd h (by decide)), fun z hz => by cases hz; rfl⟩
        simp only [Act.put, List.setIfInBounds_toArray, List.set_cons_succ, List.set_cons_zero, Nat.reduceAdd]
        rw [h12]
        refine Tn.spec_cons (fun W hC hd => ⟨by rfl, ?_⟩) ?_
        · exact Tn.gives_val (.int .i64 (nl : Int)) W (exec_lenM (.tmp 24) rfl _ _ _ rfl) ⟨hC, leP_b (by decide) (Below.refl _ _), (fun h => absurd h (by decide)), (fun h => absurd h (by decide)), fun z hz => by cases hz; rfl⟩
        simp only [Act.put, List.setIfInBounds_toArray, List.set_cons_succ, List.set_cons_zero, Nat.reduceAdd]
        rw [h13]
        refine Tn.spec_cons (fun W hC hd => ⟨by rfl, ?_⟩) ?_
        · exact Tn.gives_val (.int .i64 (p : Int)) W (exec_remM (.tmp 20) (.tmp 25) rfl _ _ _ rfl rfl HM.out.1 HM.out.2.1) ⟨hC, leP_b (by decide) (Below.refl _ _), (fun h => absurd h (by decide)), (fun h => absurd h (by decide)), fun z hz => by cases hz; rfl⟩
        simp only [Act.put, List.setIfInBounds_toArray, List.set_cons_succ, List.set_cons_zero, Nat.reduceAdd]
        rw [h14]
        refine Tn.spec_cons (fun W hC hd => ⟨by rfl, ?_⟩) ?_
        · exact Tn.gives_val (.pointer (some ⟨c, o + p, none⟩)) W (exec_atM (.tmp 16) (.tmp 26) rfl _ _ _ _ _ rfl rfl HM.out.2.2) ⟨hC, leP_b (by decide) (Below.refl _ _), (fun h => absurd h (by decide)), (fun h => absurd h (by decide)), fun z hz => by cases hz; rfl⟩
        simp only [Act.put, List.setIfInBounds_toArray, List.set_cons_succ, List.set_cons_zero, Nat.reduceAdd]
        rw [h15]
        refine Tn.spec_cons (fun W hC hd => ⟨by rfl, ?_⟩) ?_
        · exact Tn.gives_val (.int .i64 y) W (Bp.exec_load1 3 (.tmp 27) rfl ⟨c, o + p, none⟩ rfl _ (HF.out.2.2 W hC) _ Try.underlying3 rfl) ⟨hC, leP_b (by decide) (Below.refl _ _), (fun h => absurd h (by decide)), (fun h => absurd h (by decide)), fun z hz => by cases hz; rfl⟩
        simp only [Act.put, List.setIfInBounds_toArray, List.set_cons_succ, List.set_cons_zero, Nat.reduceAdd]
        rw [h16]
        refine Tn.spec_cons (fun W hC hd => ⟨by rfl, ?_⟩) ?_
        · exact Tn.gives_val _ _ (exec_oneM (.tmp 28) rfl y rfl) ⟨grownM_trans hC (grownM_of ((Below.refl W.heap.size W).alloc (Nat.le_refl _) _) _), leP_b (by decide) ((Below.refl W.heap.size W).alloc (Nat.le_refl _) _), (fun _ => ⟨_, rfl, hC.size, by rw [cell_of_row _ _ _ _ _ _ (heap_alloc_new _ _)]; rfl⟩), (fun h => absurd h (by decide)), fun z hz => by cases hz⟩
        simp only [Act.put, List.setIfInBounds_toArray, List.set_cons_succ, List.set_cons_zero, Nat.reduceAdd]
        refine Tn.spec_cons_at (fun W hC hp hd => ⟨by rfl, ?_⟩) ?_
        · obtain ⟨b8, e8, hl8, c8⟩ := (hd ⟨17, .data⟩ (by simp) rfl).1 rfl
          refine gives_pushM (.tmp 12) (.tmp 29) (by rfl) w.heap.size ov i (fillN fl at_ i) y (by rfl) (owns_below HOw.out (hp rfl)) b8 (by exact e8) c8 HI.out (Nat.le_trans HSz.out hC.size) (fun v' W' h1 h2 => ⟨grownM_trans hC h2, leP_g h2, (fun h => absurd h (by decide)), (fun _ => h1), fun z hz => by cases hz⟩)
        simp only [Act.put, List.setIfInBounds_toArray, List.set_cons_succ, List.set_cons_zero, Nat.reduceAdd]
        exact Tn.spec_nil
      · intro u W hu hC hP
        have h0 : u 0 = ov := hu 0 _ rfl
        have h1 : u 1 = .pointer (some ⟨fb, 0, none⟩) := hu 1 _ rfl
        have h2 : u 2 = .pointer (some ⟨fb, 0, none⟩) := hu 2 _ rfl
        have h3 : u 3 = .pointer (some ⟨fb, 0, none⟩) := hu 3 _ rfl
        have h4 : u 4 = .slice (some ⟨c, o, none⟩) nl cf := hu 4 _ rfl
        have h5 : u 5 = .pointer (some ⟨fb, 0, none⟩) := hu 5 _ rfl
        have h6 : u 6 = .pointer (some ⟨fb, 0, none⟩) := hu 6 _ rfl
        have h7 : u 7 = .pointer (some ⟨fb, 1, none⟩) := hu 7 _ rfl
        have h8 : u 8 = .int .i64 (a : Int) := hu 8 _ rfl
        have h9 : u 9 = .pointer (some ⟨fb, 0, none⟩) := hu 9 _ rfl
        have h10 : u 10 = .pointer (some ⟨fb, 0, none⟩) := hu 10 _ rfl
        have h11 : u 11 = .pointer (some ⟨fb, 0, none⟩) := hu 11 _ rfl
        have h12 : u 12 = .slice (some ⟨c, o, none⟩) nl cf := hu 12 _ rfl
        have h13 : u 13 = .int .i64 (nl : Int) := hu 13 _ rfl
        have h14 : u 14 = .int .i64 (p : Int) := hu 14 _ rfl
        have h15 : u 15 = .pointer (some ⟨c, o + p, none⟩) := hu 15 _ rfl
        have h16 : u 16 = .int .i64 y := hu 16 _ rfl
        have k15 := (hP 18 (by decide)).2.1 rfl
        obtain ⟨sq, cq, e15, _⟩ := Sl.all1 k15
        simp only [List.take_succ_cons, List.take_zero, List.drop_succ_cons, List.drop_zero, Tn.putAll, Act.put, List.setIfInBounds_toArray, List.set_cons_succ, List.set_cons_zero, Nat.reduceAdd]
        rw [e15] at k15
        rw [h0, h1, h2, h3, h4, h5, h6, h7, h8, h9, h10, h11, h12, h13, h14, h15, h16, e15]
        have HK15 := Lib.hid k15
        have HCw := Lib.hid hC
        clear hu hC hP e15 k15 h0 h1 h2 h3 h4 h5 h6 h7 h8 h9 h10 h11 h12 h13 h14 h15 h16
        have hsl : W.ownsRow w.heap.size 3 1 (.slice sq (i + 1) cq) (i + 1) ((fillN fl at_ (i + 1)).map (Value.int .i64)) := by rw [HY.out]; exact HK15.out
        have hF2 : Fil w0 fb (some ⟨c, o, none⟩) cf fl (at_ + i) W := ⟨HFr.out.below.trans (Below.ofGrown HCw.out HFr.out.below.size (fun k hk => Nat.le_trans (HFi.out.below.size) (Hlo.out k hk).1)), HFr.out.hb, (HCw.out.block fb (Nat.lt_of_lt_of_le HFb.out HSz.out) (fun e => by have := (Hlo.out fb e.symm).1; have := HFb.out; omega)).trans HFr.out.row⟩
        have hG2 : w.grownBy W (some fb) := ⟨HCw.out.os.trans HGr.out.os, HCw.out.tape.trans HGr.out.tape, HCw.out.output.trans HGr.out.output, Nat.le_trans HGr.out.size HCw.out.size, fun k hk hne => (HCw.out.block k (Nat.lt_of_lt_of_le hk HGr.out.size) (fun e => by have := (Hlo.out k e.symm).1; omega)).trans (HGr.out.block k hk hne)⟩
        obtain ⟨c0, c1, z1⟩ := hF2.cells
        rw [HAa.out] at c1
        rw [HLn.out] at c0
        have HS2 := Lib.hid hsl
        have HF2 := Lib.hid hF2
        have HG2 := Lib.hid hG2
        have hw : wrap64 ((a : Int) + 1) = ((a + 1 : Nat) : Int) := by unfold wrap64; omega
        have hw2 : IntKind.i64.wrap ((a : Int) + 1) = ((a + 1 : Nat) : Int) := by rw [IntWalk.i64_in _ (by omega)]; omega
        clear hsl hF2 hG2 HCw HK15 HF HOw HOw' Hlo HFr HGr
        go_wp2
        go_roundw
        case rel =>
          have hset := HF2.out.turn (a + 1)
          refine ⟨i + 1, by omega, by go_num, ?_, ?_, ?_⟩
          · exact HS2.out.kept (row := some fb) (grownM_set _ _ _ _) (Or.inr (fun e => by have := (HS2.out.lt fb e).1; have := HFb.out; omega))
          · rw [← Nat.add_assoc, HAa.out]; exact hset
          · exact grownM_trans HG2.out (grownM_set _ _ _ _)
        case measure => simp [intOf]; omega
    · obtain rfl : i = n := by omega
      have e1 : decide (i < i) = false := by simp
      have e2 : decide ((i : Int) < (i : Int)) = false := by simp
      go_wp2
      go_ret
      exact ⟨sv, cv, rfl, HFr.out, HGr.out, HOw'.out⟩
end Go.Proofs.Ytdffbjjiojheoaa.Mk
