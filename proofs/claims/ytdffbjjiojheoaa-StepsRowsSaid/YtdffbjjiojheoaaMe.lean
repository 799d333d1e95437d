import Derived.Test.YtdffbjjiojheoaaMd
namespace Go.Proofs.Ytdffbjjiojheoaa.Wg
set_option maxRecDepth 100000
open Go.ChangeShapes Go.WideShapes Go.ChangeAt Go.RowKit Go.Shelf Go.Proofs.Ytdffbjjiojheoaa.Tn
attribute [local go_sem] Oper.semAt_some

/-! ### a scope through which the run goes without a goto, inside a fence -/
section
variable {P : Program} {F : Fence} {n : Nat} {b : Frame} {a : Act} {k : List Item} {cs : List Frame} {w : World} {Q : Exit → Act → World → Prop}
theorem stepR_scope {c : Code} : step P (lone (b.atR a (.code (.scope c) :: k)) cs w) = .next (lone (b.atR a (.code c :: .inScope c :: k)) cs w) :=
  step_lone_go (by simp [stepG, stepG.exec, Frame.atR])
theorem stepR_inScope {c : Code} : step P (lone (b.atR a (.inScope c :: k)) cs w) = .next (lone (b.atR a k) cs w) :=
  step_lone_go (by simp [stepG, stepG.exec, Frame.atR])
theorem wpIn_scope_straight {c : Code} (h : c.wpIn F n P (Exit.noGoto Q) a w) : (Code.scope c).wpIn F n P Q a w := by
  intro b k cs hro hb hr
  have h0 : (lone (b.atR a (.code (.scope c) :: k)) cs w).fenced P F := fenced_calm hb hr rfl
  obtain ⟨e, a₁, w₁, hq, harr⟩ := h b (.inScope c :: k) cs hro hb hr
  have hx : ∀ id, exitTo id (.inScope c :: k) = exitTo id k := fun id => by simp [exitTo]
  cases e with
  | normal => exact ⟨.normal, a₁, w₁, hq, .head h0 stepR_scope (StepsIn.trans harr (.one (fenced_calm hb hr rfl) stepR_inScope))⟩
  | exit id =>
    exact ⟨.exit id, a₁, w₁, hq, fun k' hk => .head h0 stepR_scope (harr.1 k' (by rw [hx]; exact hk)),
      fun hr' hk => let ⟨k₁, h1, h2⟩ := harr.2 hr' (by rw [hx]; exact hk); ⟨k₁, h1, .head h0 stepR_scope h2⟩⟩
  | goto l => exact hq.elim
  | ret => exact ⟨_, a₁, w₁, hq, .of_steps (.one h0 stepR_scope) harr⟩
  | panic ch => exact ⟨_, a₁, w₁, hq, .of_steps (.one h0 stepR_scope) harr⟩
  | outgrown => exact ⟨_, a₁, w₁, hq, .of_steps (.one h0 stepR_scope) harr⟩
end
theorem wpListIn_index {F : Fence} {n : Nat} {P : Program} {ops : Array Oper} {rest : List Oper} {o : Oper} {a : Act} {w : World} {Q : Exit → Act → World → Prop} (hgd : o.guard = none) (t : TypeId) (x y : Operand) (ho : o.op = .index t x y) (v : Value)
    (h : (execOp a.eval o).run P w = .ok (.value v) w) (k : wpListIn F n P ops Q rest (a.put o.dst v) w) : wpListIn F n P ops Q (o :: rest) a w := by
  refine wpListIn_plain hgd fun K hK => ?_
  unfold Oper.wpIn
  refine ⟨by simp [Oper.about, ho], ?_⟩
  rw [Oper.semAt_plain F _ _ (by rw [ho]; intro c hc; cases hc), h]
  exact hK _ _ k
/-! ### what stays where cells stay -/
def CK (W W' : World) : Prop := ∀ a v, W.cell? a = some v → W'.cell? a = some v
section
variable {W W' : World}
theorem CK.sl (h : CK W W') {sp : Option Addr} {cap : Nat} {xs : List Value} (k : Sl W sp cap xs) : Sl W' sp cap xs := ⟨k.le, k.max, k.nul, fun h0 => by
  obtain ⟨c, o, e, hl⟩ := k.lies h0
  exact ⟨c, o, e, fun i v hv => h _ _ (hl i v hv)⟩⟩
theorem CK.prs (h : CK W W') {sp : Option Addr} {cap : Nat} {ps : List (Int × Int)} (k : Bp.Prs W sp cap ps) : Bp.Prs W' sp cap ps := ⟨k.le, k.max, k.nul, fun h0 => by
  obtain ⟨c, o, e, hl⟩ := k.lies h0
  exact ⟨c, o, e, fun i hi j v hv => h _ _ (hl i hi j v hv)⟩⟩
theorem CK.part (h : CK W W') {b o k : Nat} {p : Mt} (q : PartAt W b o k p) : PartAt W' b o k p := by
  unfold PartAt at q ⊢
  split at q
  · rename_i hk
    rw [if_pos hk]
    obtain ⟨sp, cap, h1, h2⟩ := q
    exact ⟨sp, cap, h _ _ h1, h.sl h2⟩
  · rename_i hk
    rw [if_neg hk]
    obtain ⟨h0, h1, sp, cap, h2, h3⟩ := q
    exact ⟨h _ _ h0, h _ _ h1, sp, cap, h _ _ h2, h.sl h3⟩
theorem CK.ok (h : CK W W') {v : Wv} {m : Md} (k : WvOK W v m) : WvOK W' v m :=
  ⟨k.c, ⟨h.sl k.al.sl, k.al.rng⟩, k.na, h.prs k.ps, k.np, k.er, k.ec, h.sl k.em, k.ne, fun hn => by
    obtain ⟨b, o, e, h1⟩ := k.ls hn
    exact ⟨b, o, e, fun y q hy h2 h3 => h.part (h1 y q hy h2 h3)⟩, k.nl, k.cl, h.sl k.nm, k.nn, k.xr, k.xc, h.sl k.ou, k.no⟩
theorem ck_own {B : Nat} {row : Option Nat} (hg : W.grownBy W' row) (hr : ∀ r, row = some r → B ≤ r ∧ ∃ o : Obj, W.heap[r]? = some o ∧ o.isCells = false) : CK W W' := fun _ _ h => cell_kept h hg (fun r e => (hr r e).2)
end
theorem Hw.own {w : World} {v : Wv} {m : Md} {n : Nat} {α : Type} (hn : w.heap.size ≤ n) : OwnFrom n (fun (_ : α) W => Hw w v m W) := fun _ X Y row hs hg hr =>
  ⟨ownFrom_below (β := Unit) (Nat.le_refl _) hn () X Y row hs.below hg hr, row_own' () X Y row hs.md.row hg hr, (ck_own hg hr).ok hs.md.ok⟩
theorem Hw.set {w W : World} {v : Wv} {m : Md} (hv : WvOK w v m) (h : Hw w v m W) {g : Nat} (hg : w.heap.size < g) (u : Value) : Hw w v m (W.setCell ⟨g, 0, none⟩ u) := by
  have hb := h.below.setCell (p := ⟨g, 0, none⟩) (by simp only; omega) u
  have keep : ∀ j, j ≠ g → (W.setCell ⟨g, 0, none⟩ u).heap[j]? = W.heap[j]? := fun j hj => by simp [World.setCell, Array.getElem?_modify, Ne.symm hj]
  exact ⟨hb, (keep _ (by omega)).trans h.md.row, hv.later hb⟩
theorem Hw.hi {w W : World} {v : Wv} {m : Md} (h : Hw w v m W) : w.heap.size < W.heap.size := (Array.getElem?_eq_some_iff.1 h.md.row).1
theorem size_wts : (Try.prog.info? 38).map (·.size) = some 16 := by kernel_rfl
theorem chk_no {m : Md} (h : m.headE ≠ 0) : m.chk = m.headE := by unfold Md.chk; rw [if_pos h]
theorem chk_yes {m : Md} (h : m.headE = 0) : m.chk = partsE m m.cfg.blks := by unfold Md.chk; rw [if_neg (by omega)]
set_option maxHeartbeats 8000000 in
theorem check_no (w : World) (v : Wv) (m : Md) (hv : WvOK w v m) (ha : m.al.length ≤ 1000) (hp : m.ps.length ≤ 1000) (hE : m.headE ≠ 0) :
    Calls Try.prog 48 #[.agg v.cells] w fun e w' => e = .returned (.int .i64 m.chk) ∧ Below w.heap.size w w' := by
  have HB := Lib.hid (Hw.made hv)
  have HC := Lib.hid (fun W (h : Hw w v m W) => checkHead_any W v m (hv.later h.below) ha hp)
  have HS := Lib.hid (chk_no hE)
  obtain ⟨E, hEE⟩ : ∃ E, m.headE = E := ⟨_, rfl⟩
  rw [hEE] at HC HS hE
  obtain ⟨R, hR⟩ : ∃ R, m.chk = R := ⟨_, rfl⟩
  rw [hR] at HS ⊢
  have n1 : (E == 0) = false := by simpa using hE
  have n2 : (E != 0) = true := by simpa using hE
  clear hv ha hp hE hEE hR
  unfold Wv.cells at HB HC ⊢
  go_enter Try.func48, Try.ntmps48
  go_wp2
  go_step3
  go_upto_region 1 with fail
  refine gen_w (Q := fun w => Code.wp _ _ _ _ w) _ (Hw w v m) HB.out ?_
  clear HB
  intro w1 hx
  have HX := Lib.hid hx
  have HR := Lib.hid hx.md.row
  clear hx
  unfold Wv.cells at HR
  go_wp2_with (first
    | (refine wpList_load_row rfl 38 (.tmp 1) rfl w.heap.size rfl 38 _ (0, 0) _ HR.out Try.underlying38 rfl size_wts ?_)
    | (refine (HC.out w1 HX.out).mono ?_; rintro e w2 ⟨rfl, hb2⟩; have HX2 := Lib.hid (HX.out.later hb2); clear hb2))
  rw [Exit.noGoto_ret]
  go_ret
  exact ⟨by rw [HS.out]; rfl, HX2.out.below.alloc HX2.out.below.size _⟩
end Go.Proofs.Ytdffbjjiojheoaa.Wg
