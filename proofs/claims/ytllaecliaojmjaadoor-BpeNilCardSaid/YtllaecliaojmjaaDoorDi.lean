import Derived.Test.YtllaecliaojmjaaDoorBh
import Derived.Test.YtllaecliaojmjaaDoorDe
namespace Go.Proofs.YtllaecliaojmjaaDoor.Bp
set_option maxRecDepth 100000
open Go.ChangeShapes Go.WideShapes Go.ChangeAt Go.RowKit Go.Proofs.YtllaecliaojmjaaDoor.Tn

/-! ### the law's Plain -/
section
variable {a : Act} {o : Oper} {W W' : World}
theorem run_bk1 (g : Nat) : (Instr.fieldAt 25 (.pointer (some ⟨g, 0, none⟩)) 1).run Tryd.prog W = .ok (.pointer (some ⟨g, 1, none⟩)) W := by kernel_rfl
theorem exec_bk1 (x : Operand) (ho : o.op = .fieldAddr 25 x 1) (g : Nat) (hx : a.eval x = .pointer (some ⟨g, 0, none⟩)) : (execOp a.eval o).run Tryd.prog W = .ok (.value (.pointer (some ⟨g, 1, none⟩))) W := by
  unfold execOp
  simp only [ho, hx, Sem.run_bind, run_bk1, Result.andThen_ok, Sem.run_pure]
theorem exec_atP (x y : Operand) (ho : o.op = .indexAddr 23 x y) (c k n cap i : Nat) (hx : a.eval x = .slice (some ⟨c, k, none⟩) n cap) (hy : a.eval y = .int .i64 (i : Int)) (hi : i < n) : (execOp a.eval o).run Tryd.prog W = .ok (.value (.pointer (some ⟨c, k + i * 2, none⟩))) W := by
  have hadd := Tn.add_plain c k (i * 2)
  have hs := size_bpair
  cases hq : Tryd.prog.info? 46 with
  | none => simp [hq] at hs
  | some j =>
    have hj : j.size = 2 := by simpa [hq] using hs
    unfold execOp
    simp [ho, hx, hy, Instr.indexAt, asIntOf, run_underlying Tryd.underlying23, sizeOf, typeInfo, hq, hj, hi, hadd]
theorem run_pfA (g k : Nat) : (Instr.fieldAt 46 (.pointer (some ⟨g, k, none⟩)) 0).run Tryd.prog W = .ok (.pointer (some ⟨g, k, none⟩)) W := by kernel_rfl
theorem run_pfB (g k : Nat) : (Instr.fieldAt 46 (.pointer (some ⟨g, k, none⟩)) 1).run Tryd.prog W = .ok (.pointer (some ⟨g, k + 1, none⟩)) W := by kernel_rfl
theorem exec_pfA (x : Operand) (ho : o.op = .fieldAddr 46 x 0) (g k : Nat) (hx : a.eval x = .pointer (some ⟨g, k, none⟩)) : (execOp a.eval o).run Tryd.prog W = .ok (.value (.pointer (some ⟨g, k, none⟩))) W := by
  unfold execOp
  simp only [ho, hx, Sem.run_bind, run_pfA, Result.andThen_ok, Sem.run_pure]
theorem exec_pfB (x : Operand) (ho : o.op = .fieldAddr 46 x 1) (g k : Nat) (hx : a.eval x = .pointer (some ⟨g, k, none⟩)) : (execOp a.eval o).run Tryd.prog W = .ok (.value (.pointer (some ⟨g, k + 1, none⟩))) W := by
  unfold execOp
  simp only [ho, hx, Sem.run_bind, run_pfB, Result.andThen_ok, Sem.run_pure]
theorem run_build2 (u v : Int) : (Instr.build 47 #[(0, .int .i64 u), (1, .int .i64 v)]).run Tryd.prog W = .ok (.agg #[.int .i64 u, .int .i64 v]) W := by kernel_rfl
theorem exec_build2 (x y : Operand) (ho : o.op = .build 47 #[(0, x), (1, y)]) (u v : Int) (hx : a.eval x = .int .i64 u) (hy : a.eval y = .int .i64 v) : (execOp a.eval o).run Tryd.prog W = .ok (.value (.agg #[.int .i64 u, .int .i64 v])) W := by
  unfold execOp
  simp [ho, hx, hy, run_build2]
theorem exec_slpair (x : Operand) (ho : o.op = .buildSlice 34 1 #[(0, x)]) (u v : Int) (hx : a.eval x = .agg #[.int .i64 u, .int .i64 v]) : (execOp a.eval o).run Tryd.prog W = .ok (.value (.slice (some ⟨W.heap.size, 0, none⟩) 1 1)) (W.alloc (.cells #[.int .i64 u, .int .i64 v] 47)) := by
  obtain ⟨i0, hi, hz0, hz1, hz2⟩ := info_parts info52
  unfold execOp
  have hr := run_buildSlice (P := Tryd.prog) W 34 47 1 #[(0, .agg #[.int .i64 u, .int .i64 v])] #[.int .i64 u, .int .i64 v] i0 _ Tryd.underlying34 hi hz0 (by rw [hz1]; decide) (by rw [hz1]; decide) (by rw [hz1]; kernel_rfl)
  have e : (#[((0 : Nat), x)].map fun (i, x) => (i, a.eval x)) = #[(0, .agg #[.int .i64 u, .int .i64 v])] := by simp [hx]
  simp only [ho, e, Sem.run_bind, hr, Result.andThen_ok, Sem.run_pure]
theorem exec_append_pair (s x : Operand) (ho : o.op = .call { callee := .builtin .append, args := #[s, x], argTypes := #[34, 34] }) (base : Nat) (v : Value) (n : Nat) (ps : List (Int × Int)) (p : Int × Int) (hs : a.eval s = v) (hown : W.ownsRow base 47 2 v n (pcs ps)) (b : Nat)
    (hx : a.eval x = .slice (some ⟨b, 0, none⟩) 1 1) (hc : W.cell? ⟨b, 0, none⟩ = some (.int .i64 p.1)) (hc2 : W.cell? ⟨b, 1, none⟩ = some (.int .i64 p.2)) (hn : n ≤ 999999) (hbase : base ≤ W.heap.size) :
    ∃ v' W', (execOp a.eval o).run Tryd.prog W = .ok (.value v') W' ∧ W'.ownsRow base 47 2 v' (n + 1) (pcs (ps ++ [p])) ∧ W.grownBy W' v.ownBlock := by
  obtain ⟨i0, hi, hz0, hz1, hz2⟩ := info_parts info52
  obtain ⟨v', w', hrun, hown', hg, _⟩ := run_append_own (P := Tryd.prog) W base 34 o.type 47 i0 _ 2 16 Tryd.underlying34 hi hz0 hz1 hz2 rfl (by decide) v n _ hown ⟨b, 0, none⟩ 1 1 (pv p) rfl (fun j u hj => by
      rcases j with _ | _ | j
      · obtain rfl : Value.int .i64 p.1 = u := by simpa [pv] using hj
        rw [Tn.add_plain]
        exact hc
      · obtain rfl : Value.int .i64 p.2 = u := by simpa [pv] using hj
        rw [Tn.add_plain]
        exact hc2
      · simp [pv] at hj) (fun u hu => by
      simp [pv] at hu
      rcases hu with rfl | rfl <;> rfl)
      (by unfold maxLen; omega) (by omega) hbase
  refine ⟨v', w', ?_, by unfold pcs at hown' ⊢; rw [List.flatMap_append]; simpa using hown', hg⟩
  simp [execOp, ho, resolve, invoke, builtin, hs, hx, hrun, Result.andThen]
theorem gives_append_pair {G : Value → World → Prop} (s x : Operand) (ho : o.op = .call { callee := .builtin .append, args := #[s, x], argTypes := #[34, 34] }) (base : Nat) (v : Value) (n : Nat) (ps : List (Int × Int)) (p : Int × Int) (hs : a.eval s = v) (hown : W.ownsRow base 47 2 v n (pcs ps)) (b : Nat)
    (hx : a.eval x = .slice (some ⟨b, 0, none⟩) 1 1) (hc : W.cell? ⟨b, 0, none⟩ = some (.int .i64 p.1)) (hc2 : W.cell? ⟨b, 1, none⟩ = some (.int .i64 p.2)) (hn : n ≤ 999999) (hbase : base ≤ W.heap.size) (h : ∀ v' W', W'.ownsRow base 47 2 v' (n + 1) (pcs (ps ++ [p])) → W.grownBy W' v.ownBlock → G v' W') : Gives Tryd.prog o a W G := by
  obtain ⟨v', W', hrun, h1, h2⟩ := exec_append_pair s x ho base v n ps p hs hown b hx hc hc2 hn hbase
  exact Tn.gives_val v' W' hrun (h v' W' h1 h2)
/-- a pair in a slice of its own, behind lo -/
def OneP (lo : Nat) (x y : Int) (W : World) (v : Value) : Prop := ∃ b, v = .slice (some ⟨b, 0, none⟩) 1 1 ∧ lo ≤ b ∧ W.cell? ⟨b, 0, none⟩ = some (.int .i64 x) ∧ W.cell? ⟨b, 1, none⟩ = some (.int .i64 y)
theorem OneP.later {lo : Nat} {x y : Int} {v : Value} (h : OneP lo x y W v) (hb : Below W.heap.size W W') : OneP lo x y W' v := by
  obtain ⟨b, e, hl, hc, hd⟩ := h
  exact ⟨b, e, hl, (hb.cell (block_lt_of_cell hc)).trans hc, (hb.cell (block_lt_of_cell hd)).trans hd⟩
theorem OneP.grown {lo : Nat} {x y : Int} {v : Value} {row : Option Nat} (h : OneP lo x y W v) (hg : W.grownBy W' row) (hr : ∀ k, row = some k → k < lo) : OneP lo x y W' v := by
  obtain ⟨b, e, hl, hc, hd⟩ := h
  exact ⟨b, e, hl, cell_grown hg hc (fun k hk => by have := hr k hk; omega), cell_grown hg hd (fun k hk => by have := hr k hk; omega)⟩
theorem OneP.made {lo : Nat} (x y : Int) (W : World) (hl : lo ≤ W.heap.size) : OneP lo x y (W.alloc (.cells #[.int .i64 x, .int .i64 y] 47)) (.slice (some ⟨W.heap.size, 0, none⟩) 1 1) :=
  ⟨_, rfl, hl, by rw [cell_of_row _ _ _ _ _ _ (heap_alloc_new _ _)]; rfl, by rw [cell_of_row _ _ _ _ _ _ (heap_alloc_new _ _)]; rfl⟩
def Le15 (row : Option Nat) (k : Nat) (w w' : World) : Prop := (k = 15 → w.grownBy w' row) ∧ (k ≠ 15 → Below w.heap.size w w')
theorem le15_b {row : Option Nat} {k : Nat} {W1 W2 : World} (hk : k ≠ 15) (hb : Below W1.heap.size W1 W2) : Le15 row k W1 W2 := ⟨fun h => absurd h hk, fun _ => hb⟩
theorem le15_g {row : Option Nat} {W1 W2 : World} (hg : W1.grownBy W2 row) : Le15 row 15 W1 W2 := ⟨fun _ => hg, fun h => absurd rfl h⟩
def neQ (base lo : Nat) (x y : Int) (m : Nat) (xs : List Value) (vals : Nat → Option Value) (j : Nat) (W : World) (v : Value) : Prop :=
  (j = 14 → OneP lo x y W v) ∧ (j = 15 → W.ownsRow base 47 2 v m xs) ∧ ∀ z, vals j = some z → v = z
theorem neQ_later {row : Option Nat} {base lo m j i : Nat} {x y : Int} {v : Value} {xs : List Value} {vals : Nat → Option Value} {W1 W2 : World} (hlo : ∀ k, row = some k → k < lo) (hne : j ≠ i) (hle : Le15 row i W1 W2) (h : neQ base lo x y m xs vals j W1 v) : neQ base lo x y m xs vals j W2 v := by
  refine ⟨fun e => ?_, fun e => (h.2.1 e).kept (row := none) (grown_of (hle.2 (by omega)) none) (by cases v.ownBlock <;> simp), h.2.2⟩
  by_cases hi : i = 15
  · exact (h.1 e).grown (hle.1 hi) hlo
  · exact (h.1 e).later (hle.2 hi)
end
/-- the blocks of Plain: the book's box at B, the result's at B + 1 -/
structure Pl (B : Nat) (s1 : Option Addr) (n c1 : Nat) (s2 : Option Addr) (P c2 : Nat) (w W : World) : Prop where
  below : Below B w W
  box : W.heap[B]? = some (.cells #[.slice s1 n c1, .slice s2 P c2] 25 (0, 0))
  res : W.heap[B + 1]? = some (.cells #[.slice none 0 0, .slice none 0 0, .int .i64 0] 36 (0, 0))
section
variable {B n c1 P c2 : Nat} {s1 s2 : Option Addr} {w W W' : World}
theorem Pl.big (h : Pl B s1 n c1 s2 P c2 w W) : B + 2 ≤ W.heap.size := (Array.getElem?_eq_some_iff.1 h.res).1
theorem Pl.bx0 (h : Pl B s1 n c1 s2 P c2 w W) : W.cell? ⟨B, 0, none⟩ = some (.slice s1 n c1) := by rw [cell_of_row _ _ _ _ _ _ h.box]; rfl
theorem Pl.bx1 (h : Pl B s1 n c1 s2 P c2 w W) : W.cell? ⟨B, 1, none⟩ = some (.slice s2 P c2) := by rw [cell_of_row _ _ _ _ _ _ h.box]; rfl
theorem Pl.grown (h : Pl B s1 n c1 s2 P c2 w W) {row : Option Nat} (hg : W.grownBy W' row) (hr : ∀ k, row = some k → B + 2 ≤ k) : Pl B s1 n c1 s2 P c2 w W' := by
  have hbg := h.big
  refine ⟨⟨hg.os.trans h.below.os, hg.tape.trans h.below.tape, hg.output.trans h.below.output, Nat.le_trans h.below.size hg.size, fun k hk => ?_⟩, ?_, ?_⟩
  · rw [hg.block k (by omega) (fun e => by have := hr k e.symm; omega)]
    exact h.below.block k hk
  · rw [hg.block B (by omega) (fun e => by have := hr B e.symm; omega)]
    exact h.box
  · rw [hg.block (B + 1) (by omega) (fun e => by have := hr (B + 1) e.symm; omega)]
    exact h.res
theorem Pl.later (h : Pl B s1 n c1 s2 P c2 w W) (hb : Below W.heap.size W W') : Pl B s1 n c1 s2 P c2 w W' := h.grown (row := none) (grown_of hb none) (fun k hk => by cases hk)
end
/-- the result's block turns no text and no pair -/
theorem cell_keepRow {W : World} {g : Nat} {old cs : Array Value} {t : TypeId} {fr : Nat × Nat} (_hg : W.heap[g]? = some (.cells old t fr)) {a : Addr} {v : Value} (hc : W.cell? a = some v) (hne : a.block ≠ g) : (W.setRow g cs).cell? a = some v := by
  have hb : (W.setRow g cs).heap[a.block]? = W.heap[a.block]? := setRow_other _ _ _ _ hne
  unfold World.cell? at hc ⊢
  simp only [hb]
  exact hc
theorem three_at {a b c v : Value} {j : Nat} (h : (#[a, b, c] : Array Value)[j]? = some v) : (j = 0 ∧ v = a) ∨ (j = 1 ∧ v = b) ∨ (j = 2 ∧ v = c) := by
  rcases j with _ | _ | _ | j
  · exact Or.inl ⟨rfl, by simpa using h.symm⟩
  · exact Or.inr (Or.inl ⟨rfl, by simpa using h.symm⟩)
  · exact Or.inr (Or.inr ⟨rfl, by simpa using h.symm⟩)
  · simp at h
theorem Strs.keepRow {W : World} {sp : Option Addr} {cap : Nat} {T : List (List Int)} (h : Strs W sp cap T) {g : Nat} {cs : Array Value} {t : TypeId} {fr : Nat × Nat} (hr : W.heap[g]? = some (.cells #[.slice none 0 0, .slice none 0 0, .int .i64 0] t fr)) : Strs (W.setRow g cs) sp cap T := by
  refine ⟨h.le, h.max, h.nul, fun h0 => ?_⟩
  obtain ⟨c, o, e, hl⟩ := h.lies h0
  refine ⟨c, o, e, fun k v hv => cell_keepRow hr (hl k v hv) (fun hcg => ?_)⟩
  have h9 := hl k v hv
  dsimp only at hcg
  subst hcg
  rw [cell_of_row _ _ _ _ _ _ hr] at h9
  obtain ⟨u, _, rfl⟩ := List.mem_map.1 (List.mem_of_getElem? hv)
  rcases three_at h9 with ⟨_, h⟩ | ⟨_, h⟩ | ⟨_, h⟩ <;> cases h
theorem Prs.keepRow {W : World} {sp : Option Addr} {cap : Nat} {ps : List (Int × Int)} (h : Prs W sp cap ps) {g : Nat} {cs : Array Value} {t : TypeId} {fr : Nat × Nat} (hr : W.heap[g]? = some (.cells #[.slice none 0 0, .slice none 0 0, .int .i64 0] t fr)) : Prs (W.setRow g cs) sp cap ps := by
  refine ⟨h.le, h.max, h.nul, fun h0 => ?_⟩
  obtain ⟨c, o, e, hl⟩ := h.lies h0
  refine ⟨c, o, e, fun k hk j v hv => cell_keepRow hr (hl k hk j v hv) (fun hcg => ?_)⟩
  have h8 := hl k hk 0 _ rfl
  have h9 := hl k hk 1 _ rfl
  dsimp only at hcg
  subst hcg
  rw [cell_of_row _ _ _ _ _ _ hr] at h8 h9
  rcases three_at h8 with ⟨_, h⟩ | ⟨_, h⟩ | ⟨h, _⟩
  · cases h
  · cases h
  · rcases three_at h9 with ⟨h', _⟩ | ⟨h', _⟩ | ⟨h', _⟩ <;> omega
def plX (B : Nat) (qv : Value) (d o P cq i : Nat) (x y : Int) : Nat → Option Value
  | 0 => some (qv)
  | 1 => some (.pointer (some ⟨B, 1, none⟩))
  | 2 => some (.slice (some ⟨d, o, none⟩) P cq)
  | 3 => some (.int .i64 (i : Int))
  | 4 => some (.pointer (some ⟨d, o + i * 2, none⟩))
  | 5 => some (.pointer (some ⟨d, o + i * 2, none⟩))
  | 6 => some (.int .i64 x)
  | 7 => some (.pointer (some ⟨B, 1, none⟩))
  | 8 => some (.slice (some ⟨d, o, none⟩) P cq)
  | 9 => some (.int .i64 (i : Int))
  | 10 => some (.pointer (some ⟨d, o + i * 2, none⟩))
  | 11 => some (.pointer (some ⟨d, o + i * 2 + 1, none⟩))
  | 12 => some (.int .i64 y)
  | 13 => some (.agg #[.int .i64 x, .int .i64 y])
  | _ => none
set_option maxHeartbeats 8000000 in
theorem plain_any (w : World) (s1 s2 : Option Addr) (n P c1 cq : Nat) (al : List Int) (ps : List (Int × Int)) (ha : Byts w s1 c1 al) (hn : al.length = n) (hps : Prs w s2 cq ps) (hP : ps.length = P) (hn6 : n ≤ 1000000) (hP6 : P ≤ 999999) :
    Calls Tryd.prog 9 #[.agg #[.slice s1 n c1, .slice s2 P cq]] w (NewA w al ps) := by
  have Hn := Lib.hid hn
  have HP := Lib.hid hP
  have HAw := Lib.hid ha
  have HPw := Lib.hid hps
  have hb2 : Below w.heap.size w ((w.alloc (.cells #[.slice s1 n c1, .slice s2 P cq] 25)).alloc (.cells #[.slice none 0 0, .slice none 0 0, .int .i64 0] 36)) := ((Below.refl _ _).alloc (Nat.le_refl _) _).alloc (by simp) _
  have HPl0 : Hid (Pl w.heap.size s1 n c1 s2 P cq w ((w.alloc (.cells #[.slice s1 n c1, .slice s2 P cq] 25)).alloc (.cells #[.slice none 0 0, .slice none 0 0, .int .i64 0] 36))) := Lib.hid ⟨hb2, by
    rw [heap_alloc_old _ _ (by simp)]
    exact heap_alloc_new _ _, top2 _ _ _ _⟩
  clear ha hn hps hP hb2
  go_enter Tryd.func9, Tryd.ntmps9
  go_upto_region 1 with fail
  refine gen_w (Q := fun w => Code.wp _ _ _ _ w) _ (Pl w.heap.size s1 n c1 s2 P cq w) HPl0.out ?_
  clear HPl0
  intro W1 hp1
  obtain ⟨B, hB⟩ : ∃ B, w.heap.size = B := ⟨_, rfl⟩
  rw [hB] at hp1 ⊢
  have HBe := Lib.hid hB
  have HP1 := Lib.hid hp1
  clear hp1 hB
  go_wp2
  go_loopw [4, 5] (fun lv iv wr => ∃ (i : Nat) (qv : Value), i ≤ P ∧ iv = .int .i64 i ∧ qv = lv ∧ wr.ownsRow (B + 2) 47 2 qv i (pcs (ps.take i)) ∧ Pl B s1 n c1 s2 P cq w wr) (fun _ iv _ => P - (intOf iv).toNat)
  case atStart => exact ⟨0, _, by omega, rfl, rfl, World.ownsRow_nil _ _ _ _, HP1.out⟩
  case round =>
    clear HP1
    obtain ⟨i, qv, hi, rfl, rfl, hrow, hpl⟩ := hrel
    have HRow := Lib.hid hrow
    have HPl := Lib.hid hpl
    have q1 := hpl.bx1
    have q0 := hpl.bx0
    clear hrow hpl
    by_cases hil : i < P
    · have hd1 : decide (i < P) = true := by simpa using hil
      have hd2 : decide ((i : Int) < (P : Int)) = true := by simp; omega
      obtain ⟨d, o, e, hrg⟩ := HPw.out.at_ i (by rw [HP.out]; exact hil)
      obtain ⟨xy, hxy⟩ : ∃ xy, ps.getD i (0, 0) = xy := ⟨_, rfl⟩
      rw [hxy] at hrg
      obtain ⟨x, y⟩ := xy
      dsimp only at hrg
      have HXY := Lib.hid hxy
      have h0 : w.cell? ⟨d, o + i * 2, none⟩ = some (.int .i64 x) := hrg 0 _ rfl
      have h1 : w.cell? ⟨d, o + i * 2 + 1, none⟩ = some (.int .i64 y) := hrg 1 _ rfl
      have Hd : Hid (d < B) := Lib.hid (by rw [← HBe.out]; exact block_lt_of_cell h0)
      have hbw := HPl.out.below
      have HCell0 := Lib.hid ((hbw.cell (by have := Hd.out; exact this)).trans h0)
      have HCell1 := Lib.hid ((hbw.cell (by have := Hd.out; exact this)).trans h1)
      have HiP : Hid (i < P) := Lib.hid hil
      have Hlo : Hid (∀ k, qv.ownBlock = some k → k < wr.heap.size) := Lib.hid (fun k hk => (HRow.out.lt k hk).2)
      clear h0 h1 hrg hxy hbw
      subst e
      go_upto_region 5 with fail
      refine Tn.wp_region_spec_at (C := fun W => wr.grownBy W qv.ownBlock) (Le := Le15 qv.ownBlock) (Pre := fun j W => j = 15 → Below wr.heap.size wr W) 16 (fun _ => (neQ (B + 2) wr.heap.size x y (i + 1) (pcs (ps.take i ++ [(x, y)])) (plX B qv d o P cq i x y))) (by kernel_rfl) (by kernel_rfl) ⟨rfl, rfl, rfl, Nat.le_refl _, fun _ _ _ => rfl⟩ (fun _ _ _ _ _ _ h => h) (fun _ j i W W' y hne hle h => neQ_later Hlo.out hne hle h) (fun j i W W' hne hle hp e => (hp e).trans ((hle.2 (by omega)).mono (hp e).size)) (fun j _ => ⟨rfl, rfl, rfl, Nat.le_refl _, fun _ _ => rfl⟩) (fun ixx yy => ∀ z, plX B qv d o P cq i x y ixx = some z → yy = z) (fun _ _ _ _ h => h.2.2) (fun ixx => (plX B qv d o P cq i x y ixx).getD undef) (fun ixx z h => by simp [h]) ?_ ?_
      · intro u hu
        have h0 : u 0 = qv := hu 0 _ rfl
        have h1 : u 1 = .pointer (some ⟨B, 1, none⟩) := hu 1 _ rfl
        have h2 : u 2 = .slice (some ⟨d, o, none⟩) P cq := hu 2 _ rfl
        have h3 : u 3 = .int .i64 (i : Int) := hu 3 _ rfl
        have h4 : u 4 = .pointer (some ⟨d, o + i * 2, none⟩) := hu 4 _ rfl
        have h5 : u 5 = .pointer (some ⟨d, o + i * 2, none⟩) := hu 5 _ rfl
        have h6 : u 6 = .int .i64 x := hu 6 _ rfl
        have h7 : u 7 = .pointer (some ⟨B, 1, none⟩) := hu 7 _ rfl
        have h8 : u 8 = .slice (some ⟨d, o, none⟩) P cq := hu 8 _ rfl
        have h9 : u 9 = .int .i64 (i : Int) := hu 9 _ rfl
        have h10 : u 10 = .pointer (some ⟨d, o + i * 2, none⟩) := hu 10 _ rfl
        have h11 : u 11 = .pointer (some ⟨d, o + i * 2 + 1, none⟩) := hu 11 _ rfl
        have h12 : u 12 = .int .i64 y := hu 12 _ rfl
        have h13 : u 13 = .agg #[.int .i64 x, .int .i64 y] := hu 13 _ rfl
        simp only [List.take_succ_cons, List.take_zero]
        refine Tn.spec_cons (fun W hC hd => ⟨by rfl, ?_⟩) ?_
        · exact Tn.gives_val (qv) W (by rfl) ⟨hC, le15_b (by decide) (Below.refl _ _), (fun h => absurd h (by decide)), (fun h => absurd h (by decide)), fun z hz => by cases hz; rfl⟩
        simp only [Act.put, List.setIfInBounds_toArray, List.set_cons_succ, List.set_cons_zero, Nat.reduceAdd]
        rw [h0]
        refine Tn.spec_cons (fun W hC hd => ⟨by rfl, ?_⟩) ?_
        · exact Tn.gives_val (.pointer (some ⟨B, 1, none⟩)) W (exec_bk1 (.tmp 1) rfl B rfl) ⟨hC, le15_b (by decide) (Below.refl _ _), (fun h => absurd h (by decide)), (fun h => absurd h (by decide)), fun z hz => by cases hz; rfl⟩
        simp only [Act.put, List.setIfInBounds_toArray, List.set_cons_succ, List.set_cons_zero, Nat.reduceAdd]
        rw [h1]
        refine Tn.spec_cons (fun W hC hd => ⟨by rfl, ?_⟩) ?_
        · exact Tn.gives_val (.slice (some ⟨d, o, none⟩) P cq) W (exec_load1 23 (.tmp 14) rfl ⟨B, 1, none⟩ rfl _ (cell_grown hC (HPl.out.bx1) (fun k hk => by have h9 := (own_block HRow.out hk).1; have h8 := Hd.out; omega)) _ Tryd.underlying23 rfl) ⟨hC, le15_b (by decide) (Below.refl _ _), (fun h => absurd h (by decide)), (fun h => absurd h (by decide)), fun z hz => by cases hz; rfl⟩
        simp only [Act.put, List.setIfInBounds_toArray, List.set_cons_succ, List.set_cons_zero, Nat.reduceAdd]
        rw [h2]
        refine Tn.spec_cons (fun W hC hd => ⟨by rfl, ?_⟩) ?_
        · exact Tn.gives_val (.int .i64 (i : Int)) W (by rfl) ⟨hC, le15_b (by decide) (Below.refl _ _), (fun h => absurd h (by decide)), (fun h => absurd h (by decide)), fun z hz => by cases hz; rfl⟩
        simp only [Act.put, List.setIfInBounds_toArray, List.set_cons_succ, List.set_cons_zero, Nat.reduceAdd]
        rw [h3]
        refine Tn.spec_cons (fun W hC hd => ⟨by rfl, ?_⟩) ?_
        · exact Tn.gives_val (.pointer (some ⟨d, o + i * 2, none⟩)) W (exec_atP (.tmp 15) (.tmp 16) rfl d o P cq i rfl rfl HiP.out) ⟨hC, le15_b (by decide) (Below.refl _ _), (fun h => absurd h (by decide)), (fun h => absurd h (by decide)), fun z hz => by cases hz; rfl⟩
        simp only [Act.put, List.setIfInBounds_toArray, List.set_cons_succ, List.set_cons_zero, Nat.reduceAdd]
        rw [h4]
        refine Tn.spec_cons (fun W hC hd => ⟨by rfl, ?_⟩) ?_
        · exact Tn.gives_val (.pointer (some ⟨d, o + i * 2, none⟩)) W (exec_pfA (.tmp 17) rfl d (o + i * 2) rfl) ⟨hC, le15_b (by decide) (Below.refl _ _), (fun h => absurd h (by decide)), (fun h => absurd h (by decide)), fun z hz => by cases hz; rfl⟩
        simp only [Act.put, List.setIfInBounds_toArray, List.set_cons_succ, List.set_cons_zero, Nat.reduceAdd]
        rw [h5]
        refine Tn.spec_cons (fun W hC hd => ⟨by rfl, ?_⟩) ?_
        · exact Tn.gives_val (.int .i64 x) W (exec_load1 3 (.tmp 18) rfl ⟨d, o + i * 2, none⟩ rfl _ (cell_grown hC (HCell0.out) (fun k hk => by have h9 := (own_block HRow.out hk).1; have h8 := Hd.out; omega)) _ Tryd.underlying3 rfl) ⟨hC, le15_b (by decide) (Below.refl _ _), (fun h => absurd h (by decide)), (fun h => absurd h (by decide)), fun z hz => by cases hz; rfl⟩
        simp only [Act.put, List.setIfInBounds_toArray, List.set_cons_succ, List.set_cons_zero, Nat.reduceAdd]
        rw [h6]
        refine Tn.spec_cons (fun W hC hd => ⟨by rfl, ?_⟩) ?_
        · exact Tn.gives_val (.pointer (some ⟨B, 1, none⟩)) W (exec_bk1 (.tmp 1) rfl B rfl) ⟨hC, le15_b (by decide) (Below.refl _ _), (fun h => absurd h (by decide)), (fun h => absurd h (by decide)), fun z hz => by cases hz; rfl⟩
        simp only [Act.put, List.setIfInBounds_toArray, List.set_cons_succ, List.set_cons_zero, Nat.reduceAdd]
        rw [h7]
        refine Tn.spec_cons (fun W hC hd => ⟨by rfl, ?_⟩) ?_
        · exact Tn.gives_val (.slice (some ⟨d, o, none⟩) P cq) W (exec_load1 23 (.tmp 20) rfl ⟨B, 1, none⟩ rfl _ (cell_grown hC (HPl.out.bx1) (fun k hk => by have h9 := (own_block HRow.out hk).1; have h8 := Hd.out; omega)) _ Tryd.underlying23 rfl) ⟨hC, le15_b (by decide) (Below.refl _ _), (fun h => absurd h (by decide)), (fun h => absurd h (by decide)), fun z hz => by cases hz; rfl⟩
        simp only [Act.put, List.setIfInBounds_toArray, List.set_cons_succ, List.set_cons_zero, Nat.reduceAdd]
        rw [h8]
        refine Tn.spec_cons (fun W hC hd => ⟨by rfl, ?_⟩) ?_
        · exact Tn.gives_val (.int .i64 (i : Int)) W (by rfl) ⟨hC, le15_b (by decide) (Below.refl _ _), (fun h => absurd h (by decide)), (fun h => absurd h (by decide)), fun z hz => by cases hz; rfl⟩
        simp only [Act.put, List.setIfInBounds_toArray, List.set_cons_succ, List.set_cons_zero, Nat.reduceAdd]
        rw [h9]
        refine Tn.spec_cons (fun W hC hd => ⟨by rfl, ?_⟩) ?_
        · exact Tn.gives_val (.pointer (some ⟨d, o + i * 2, none⟩)) W (exec_atP (.tmp 21) (.tmp 22) rfl d o P cq i rfl rfl HiP.out) ⟨hC, le15_b (by decide) (Below.refl _ _), (fun h => absurd h (by decide)), (fun h => absurd h (by decide)), fun z hz => by cases hz; rfl⟩
        simp only [Act.put, List.setIfInBounds_toArray, List.set_cons_succ, List.set_cons_zero, Nat.reduceAdd]
        rw [h10]
        refine Tn.spec_cons (fun W hC hd => ⟨by rfl, ?_⟩) ?_
        · exact Tn.gives_val (.pointer (some ⟨d, o + i * 2 + 1, none⟩)) W (exec_pfB (.tmp 23) rfl d (o + i * 2) rfl) ⟨hC, le15_b (by decide) (Below.refl _ _), (fun h => absurd h (by decide)), (fun h => absurd h (by decide)), fun z hz => by cases hz; rfl⟩
        simp only [Act.put, List.setIfInBounds_toArray, List.set_cons_succ, List.set_cons_zero, Nat.reduceAdd]
        rw [h11]
        refine Tn.spec_cons (fun W hC hd => ⟨by rfl, ?_⟩) ?_
        · exact Tn.gives_val (.int .i64 y) W (exec_load1 3 (.tmp 24) rfl ⟨d, o + i * 2 + 1, none⟩ rfl _ (cell_grown hC (HCell1.out) (fun k hk => by have h9 := (own_block HRow.out hk).1; have h8 := Hd.out; omega)) _ Tryd.underlying3 rfl) ⟨hC, le15_b (by decide) (Below.refl _ _), (fun h => absurd h (by decide)), (fun h => absurd h (by decide)), fun z hz => by cases hz; rfl⟩
        simp only [Act.put, List.setIfInBounds_toArray, List.set_cons_succ, List.set_cons_zero, Nat.reduceAdd]
        rw [h12]
        refine Tn.spec_cons (fun W hC hd => ⟨by rfl, ?_⟩) ?_
        · exact Tn.gives_val (.agg #[.int .i64 x, .int .i64 y]) W (exec_build2 (.tmp 19) (.tmp 25) rfl x y rfl rfl) ⟨hC, le15_b (by decide) (Below.refl _ _), (fun h => absurd h (by decide)), (fun h => absurd h (by decide)), fun z hz => by cases hz; rfl⟩
        simp only [Act.put, List.setIfInBounds_toArray, List.set_cons_succ, List.set_cons_zero, Nat.reduceAdd]
        rw [h13]
        refine Tn.spec_cons (fun W hC hd => ⟨by rfl, ?_⟩) ?_
        · exact Tn.gives_val _ _ (exec_slpair (.tmp 26) rfl x y rfl) ⟨grown_trans hC (grown_of ((Below.refl W.heap.size W).alloc (Nat.le_refl _) _) _), le15_b (by decide) ((Below.refl W.heap.size W).alloc (Nat.le_refl _) _), (fun _ => OneP.made x y W hC.size), (fun h => absurd h (by decide)), fun z hz => by cases hz⟩
        simp only [Act.put, List.setIfInBounds_toArray, List.set_cons_succ, List.set_cons_zero, Nat.reduceAdd]
        refine Tn.spec_cons_at (fun W hC hp hd => ⟨by rfl, ?_⟩) ?_
        · obtain ⟨b8, e8, hl8, c8, c9⟩ := (hd ⟨14, .data⟩ (by simp) rfl).1 rfl
          have hown := HRow.out.kept (row := none) (grown_of (hp rfl) none) (by cases qv.ownBlock <;> simp)
          exact gives_append_pair (.tmp 13) (.tmp 27) rfl (B + 2) qv i (ps.take i) (x, y) rfl hown b8 e8 c8 c9 (by omega) (Nat.le_trans HPl.out.big hC.size) (fun v' W' hown hg => ⟨grown_trans hC hg, le15_g hg, (fun h => absurd h (by decide)), (fun _ => hown), fun z hz => by cases hz⟩)
        simp only [Act.put, List.setIfInBounds_toArray, List.set_cons_succ, List.set_cons_zero, Nat.reduceAdd]
        exact Tn.spec_nil
      · intro u W hu hC hP
        have h0 : u 0 = qv := hu 0 _ rfl
        have h1 : u 1 = .pointer (some ⟨B, 1, none⟩) := hu 1 _ rfl
        have h2 : u 2 = .slice (some ⟨d, o, none⟩) P cq := hu 2 _ rfl
        have h3 : u 3 = .int .i64 (i : Int) := hu 3 _ rfl
        have h4 : u 4 = .pointer (some ⟨d, o + i * 2, none⟩) := hu 4 _ rfl
        have h5 : u 5 = .pointer (some ⟨d, o + i * 2, none⟩) := hu 5 _ rfl
        have h6 : u 6 = .int .i64 x := hu 6 _ rfl
        have h7 : u 7 = .pointer (some ⟨B, 1, none⟩) := hu 7 _ rfl
        have h8 : u 8 = .slice (some ⟨d, o, none⟩) P cq := hu 8 _ rfl
        have h9 : u 9 = .int .i64 (i : Int) := hu 9 _ rfl
        have h10 : u 10 = .pointer (some ⟨d, o + i * 2, none⟩) := hu 10 _ rfl
        have h11 : u 11 = .pointer (some ⟨d, o + i * 2 + 1, none⟩) := hu 11 _ rfl
        have h12 : u 12 = .int .i64 y := hu 12 _ rfl
        have h13 : u 13 = .agg #[.int .i64 x, .int .i64 y] := hu 13 _ rfl
        obtain ⟨b14, e14, _⟩ := (hP 14 (by omega)).1 rfl
        have o15 := (hP 15 (by omega)).2.1 rfl
        obtain ⟨v15, hv15⟩ : ∃ v15, u 15 = v15 := ⟨_, rfl⟩
        rw [hv15] at o15
        simp only [List.take_succ_cons, List.take_zero, List.drop_succ_cons, List.drop_zero, Tn.putAll, Act.put, List.setIfInBounds_toArray, List.set_cons_succ, List.set_cons_zero, Nat.reduceAdd]
        rw [h0, h1, h2, h3, h4, h5, h6, h7, h8, h9, h10, h11, h12, h13, e14, hv15]
        have HO15 := Lib.hid o15
        have HG15 : Hid (wr.grownBy W qv.ownBlock) := Lib.hid hC
        clear hu hC hP o15 hv15 e14 h0 h1 h2 h3 h4 h5 h6 h7 h8 h9 h10 h11 h12 h13
        obtain ⟨s9, c9, rfl, _, _⟩ := prs_of_own (ps := ps.take i ++ [(x, y)]) HO15.out
        go_wp2
        go_roundw
        case rel => exact ⟨i + 1, _, by omega, by go_num, rfl, by rw [ptake_at (by rw [HP.out]; exact HiP.out), HXY.out]; exact HO15.out, HPl.out.grown HG15.out (fun k hk => (own_block HRow.out hk).1)⟩
        case measure => simp [intOf]; omega
    · obtain rfl : i = P := by omega
      have hdf : decide (i < i) = false := by simp
      have hdf2 : decide ((i : Int) < (i : Int)) = false := by simp
      have e9 : ps.take i = ps := List.take_of_length_le (by rw [HP.out]; exact Nat.le_refl _)
      have hrow := HRow.out
      rw [e9] at hrow
      obtain ⟨sq, cq2, rfl, _, hprs⟩ := prs_of_own hrow
      have HPr := Lib.hid hprs
      have hbw : Below w.heap.size w wr := by rw [HBe.out]; exact HPl.out.below
      have HAr := Lib.hid (HAw.out.below hbw)
      clear e9 hil hrow hprs hbw
      go_wp2_with fail
      refine (refNew_any wr s1 sq c1 cq2 n i al ps HAr.out Hn.out HPr.out HP.out hn6 (by omega)).mono ?_
      rintro e w2 ⟨cv, rfl, hb2, hcv⟩
      have HP2 := Lib.hid (HPl.out.later hb2)
      obtain ⟨E, hE⟩ : ∃ E, (newD al ps).1 = E := ⟨_, rfl⟩
      obtain ⟨x0, x1, x2, rfl, hx0, hx1, hx2⟩ : ∃ x0 x1 x2 : Value, cv = .agg #[x0, x1, x2] ∧ x0.oneCell' = true ∧ x1.oneCell' = true ∧ x2.oneCell' = true := by
        rcases hcv with ⟨_, h⟩ | ⟨_, st, ct, sq, cq, h, _⟩
        · exact ⟨_, _, _, h, rfl, rfl, rfl⟩
        · exact ⟨_, _, _, h, rfl, rfl, rfl⟩
      have HX : Hid (x0.oneCell' = true ∧ x1.oneCell' = true ∧ x2.oneCell' = true) := Lib.hid ⟨hx0, hx1, hx2⟩
      have hgr : w2.grownBy (w2.setRow (B + 1) #[x0, x1, x2]) (some (B + 1)) := ⟨rfl, rfl, rfl, by simp, fun k hk hne => setRow_other _ _ _ _ (fun e => hne (by rw [e]))⟩
      have HFin : Hid (NewA w al ps (.returned (.tuple #[.agg #[x0, x1, x2], .int .i64 E])) (w2.setRow (B + 1) #[x0, x1, x2])) := Lib.hid ⟨_, by rw [hE], by rw [HBe.out]; exact below_setRow HP2.out.below (by omega) _, by
        rcases hcv with h | ⟨h1, st, ct, sq, cq, h2, h3, h4⟩
        · exact Or.inl h
        · exact Or.inr ⟨h1, st, ct, sq, cq, h2, h3.keepRow HP2.out.res, h4.keepRow HP2.out.res⟩⟩
      have HFr : Hid ((w2.setRow (B + 1) #[x0, x1, x2]).heap[B + 1]? = some (.cells #[x0, x1, x2] 36 (0, 0))) := Lib.hid (setRow_heap _ _ _ _ _ _ HP2.out.res)
      rw [hE]
      clear hb2 hcv hE hx0 hx1 hx2 hgr
      go_wp2_with (refine wpList_store_row rfl 36 (.tmp 2) (.tmp 33) rfl (B + 1) #[x0, x1, x2] rfl rfl 36 _ HP2.out.res (size_coder3 _ _ _) rfl (one_coder _ _ _ HX.out.1 HX.out.2.1 HX.out.2.2) ?_)
      exact bodyPost_ret (v := .tuple #[.agg #[x0, x1, x2], .int .i64 E]) (results_two Tryd.results9 _ _ (B + 1) 36 #[x0, x1, x2] (0, 0) _ _ rfl rfl HFr.out Tryd.underlying36 rfl (size_coder3 _ _ _)) rfl HFin.out
end Go.Proofs.YtllaecliaojmjaaDoor.Bp
