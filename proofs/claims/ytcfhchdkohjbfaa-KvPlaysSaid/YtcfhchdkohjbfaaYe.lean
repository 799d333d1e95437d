/- Pools of rows in pages (Y): Append. -/
import Derived.Test.YtcfhchdkohjbfaaYd
import Derived.Test.YtcfhchdkohjbfaaKg
import Derived.Great.BuildSlice
namespace Go.Proofs.Ytcfhchdkohjbfaa.Kv.Y
set_option maxRecDepth 100000
open Go.ChangeShapes Go.WideShapes Go.ChangeAt Go.RowKit Go.Proofs.Ytcfhchdkohjbfaa.Tn
open Go.ChangeMaps (setBlock heap_setBlock_same heap_setBlock_other)
/-- a value in a slice of its own, behind lo -/
def OneV (lo : Nat) (x : Value) (W : World) (v : Value) : Prop := ∃ b, v = .slice (some ⟨b, 0, none⟩) 1 1 ∧ lo ≤ b ∧ W.cell? ⟨b, 0, none⟩ = some x
theorem OneV.later {lo : Nat} {x v : Value} {W W' : World} (h : OneV lo x W v) (hb : Below W.heap.size W W') : OneV lo x W' v := by
  obtain ⟨b, e, hl, hc⟩ := h
  exact ⟨b, e, hl, (hb.cell (block_lt_of_cell hc)).trans hc⟩
theorem cell_grown {W W' : World} {row : Option Nat} (hg : W.grownBy W' row) {b o : Nat} {x : Value} (hc : W.cell? ⟨b, o, none⟩ = some x) (hne : ∀ k, row = some k → b ≠ k) : W'.cell? ⟨b, o, none⟩ = some x := by
  have hb : W'.heap[b]? = W.heap[b]? := hg.block b (block_lt_of_cell hc) (fun e => hne b e.symm rfl)
  rw [World.cell?_of_block (w := W) hb]
  exact hc
theorem OneV.grown {lo : Nat} {x v : Value} {W W' : World} {row : Option Nat} (h : OneV lo x W v) (hg : W.grownBy W' row) (hr : ∀ k, row = some k → k < lo) : OneV lo x W' v := by
  obtain ⟨b, e, hl, hc⟩ := h
  exact ⟨b, e, hl, cell_grown hg hc (fun k hk => by have := hr k hk; omega)⟩
theorem OneV.made {lo : Nat} (x : Value) (W : World) (t : TypeId) (hl : lo ≤ W.heap.size) : OneV lo x (W.alloc (.cells #[x] t)) (.slice (some ⟨W.heap.size, 0, none⟩) 1 1) := ⟨_, rfl, hl, by rw [cell_of_row _ _ _ _ _ _ (alloc_new _ _)]; rfl⟩
theorem exec_one {a : Act} {o : Oper} {W : World} (y : Operand) (ho : o.op = .buildSlice 103 1 #[(0, y)]) (x : Int) (hx : a.eval y = (.int .u8 x)) : (execOp a.eval o).run Try.prog W = .ok (.value (.slice (some ⟨W.heap.size, 0, none⟩) 1 1)) (W.alloc (.cells #[(.int .u8 x)] 5)) := by
  obtain ⟨i0, hi, hz0, hz1, hz2⟩ := info_parts infoE
  unfold execOp
  have hr := run_buildSlice (P := Try.prog) W 103 5 1 #[(0, (.int .u8 x))] #[(.int .u8 x)] i0 _ Try.underlying103 hi hz0 (by rw [hz1]; decide) (by rw [hz1]; decide) (by rw [hz1]; kernel_rfl)
  have e : (#[((0 : Nat), y)].map fun (i, x) => (i, a.eval x)) = #[(0, (.int .u8 x))] := by simp [hx]
  simp only [ho, e, Sem.run_bind, hr, Result.andThen_ok, Sem.run_pure]
def Le17 (row : Option Nat) (k : Nat) (w w' : World) : Prop := (k = 17 → w.grownBy w' row) ∧ (k ≠ 17 → Below w.heap.size w w')
theorem le_b {row : Option Nat} {k : Nat} {W1 W2 : World} (hk : k ≠ 17) (hb : Below W1.heap.size W1 W2) : Le17 row k W1 W2 := ⟨fun h => absurd h hk, fun _ => hb⟩
theorem le_g {row : Option Nat} {W1 W2 : World} (hg : W1.grownBy W2 row) : Le17 row 17 W1 W2 := ⟨fun _ => hg, fun h => absurd rfl h⟩
def apP (lo : Nat) (d : Option Nat) (x : Value) (xs : List Value) (vals : Nat → Option Value) (j : Nat) (W : World) (v : Value) : Prop :=
  (j = 16 → OneV lo x W v) ∧ (j = 17 → ∃ b', Row W 5 v b' (xs ++ [x]) ∧ (b' = d ∨ ∃ q, b' = some q ∧ lo ≤ q)) ∧ ∀ z, vals j = some z → v = z
theorem apP_later {d : Option Nat} {lo j i : Nat} {x v : Value} {xs : List Value} {vals : Nat → Option Value} {W1 W2 : World} (hlo : ∀ k, d = some k → k < lo) (hne : j ≠ i) (hle : Le17 d i W1 W2) (h : apP lo d x xs vals j W1 v) : apP lo d x xs vals j W2 v := by
  refine ⟨fun e => ?_, fun e => ?_, h.2.2⟩
  · by_cases hi : i = 17
    · exact (h.1 e).grown (hle.1 hi) hlo
    · exact (h.1 e).later (hle.2 hi)
  · obtain ⟨b', h1, h2⟩ := h.2.1 e
    have hb := hle.2 (by omega)
    exact ⟨b', h1.kept fun c hc => hb.block c (h1.lt hc), h2⟩
def apX (b L rb g n s t : Nat) (sp : Option Addr) (lc cap : Nat) (x : Int) : Nat → Option Value
  | 0 => some (.pointer (some ⟨b, L * 2, none⟩))
  | 1 => some (.pointer (some ⟨b, L * 2, none⟩))
  | 2 => some (.pointer (some ⟨b, L * 2, none⟩))
  | 3 => some (.pointer (some ⟨b, L * 2, none⟩))
  | 4 => some (.slice sp lc cap)
  | 5 => some (.pointer (some ⟨rb, 0, none⟩))
  | 6 => some (.pointer (some ⟨rb, 0, none⟩))
  | 7 => some (.pointer (some ⟨rb, 0, none⟩))
  | 8 => some (.int .i64 (n : Int))
  | 9 => some (.pointer (some ⟨g, 0, none⟩))
  | 10 => some (.pointer (some ⟨g, 0, none⟩))
  | 11 => some (.pointer (some ⟨g, 0, none⟩))
  | 12 => some (.int .i64 (s : Int))
  | 13 => some (.int .i64 (t : Int))
  | 14 => some (.slice sp t cap)
  | 15 => some ((.int .u8 x))
  | 18 => some (.pointer (some ⟨b, L * 2, none⟩))
  | 19 => some (.pointer (some ⟨b, L * 2, none⟩))
  | _ => none
section
variable {w : World} {τ : Tags} {g : Nat} {ly : Lay} {s op : Nat} {pg : Pg Int} {ro : Ro}
theorem append_nil (w : World) (id : Int) (x : Int) : Calls Try.prog 30 #[.pointer none, .int .i64 id, (.int .u8 x)] w fun e w' => e = .returned (.int .i64 2) ∧ w = w' := by
  go_enter Try.func30, Try.ntmps30
  go_wp2_with fail
  refine (row_nil w id).mono ?_
  rintro e w1 ⟨rfl, rfl⟩
  go_wp2
  go_ret
  exact ⟨rfl, rfl⟩
/-- the cells that the last thing hangs on, in whatever world in which the page's row alone has grown -/
theorem facts (h : PoolAt kind w τ g ly s op pg ro) {id n : Nat} {P : List Nat} (hr : ro[id]? = some (some (n, P))) {L : Nat} {c : List Int × Nat} (hc : pg[L]? = some c) : (∀ W, w.grownBy W (ly.tb L) → W.cell? ⟨ly.b, L * 2, none⟩ = some (ly.tv L)) ∧ (∀ W, w.grownBy W (ly.tb L) → W.cell? ⟨ly.rb id, 0, none⟩ = some (.int .i64 (n : Int))) ∧ (∀ W, w.grownBy W (ly.tb L) → W.cell? ⟨g, 0, none⟩ = some (.int .i64 (s : Int))) := by
  have ht := (h.th L c hc).2
  exact ⟨fun W hg => cell_grown hg (h.page hc).1 (fun k hk e => ne_of_tag h.tpages (ht k hk) (by simp) e),
    fun W hg => cell_grown hg (h.rowC hr).1 (fun k hk e => ne_of_tag (h.row id n P hr).2.1 (ht k hk) (by simp) e),
    fun W hg => cell_grown hg h.cells.1 (fun k hk e => ne_of_tag h.tpool (ht k hk) (by simp) e)⟩
set_option maxHeartbeats 8000000 in
theorem append_any {D : Doc Int} (h : Pool kind w τ g D) (id : Int) (x : Int) : Calls Try.prog 30 #[.pointer (some ⟨g, 0, none⟩), .int .i64 id, (.int .u8 x)] w fun e w' => e = .returned (.int .i64 (appendD D id x).1) ∧ ∃ τ', Pool kind w' τ' g (appendD D id x).2 ∧ Step Tag.mine τ τ' w w' := by
  obtain ⟨ly, pg, h0, hG⟩ := h
  cases hrow : rowAt D id with
  | none =>
    have e1 : appendD D id x = (14, D) := by unfold appendD; rw [hrow]
    rw [e1]
    have HN := Lib.hid (rowAt_no hrow)
    have H0 := Lib.hid h0
    have HGd := Lib.hid hG
    clear e1 hrow h0 hG
    go_enter Try.func30, Try.ntmps30
    go_wp2_with fail
    refine (row_no H0.out id HN.out).mono ?_
    rintro e w1 ⟨rfl, rfl⟩
    go_wp2
    go_ret
    exact ⟨rfl, τ, ⟨ly, pg, H0.out, HGd.out⟩, Step.refl _ _ _⟩
  | some r =>
    obtain ⟨L0, P0⟩ := r
    obtain ⟨k, rfl, hk⟩ := rowAt_yes hrow
    have hrm := hG.room hk
    have hOK := hG.row k L0 P0 hk
    have hsh := hOK.short hG.s0
    have hpgl : pg.length ≤ 256 := by rw [hG.plen]; exact hG.p1
    have hs0 := hG.s0
    have hs1 := hG.s1
    have hp1 := hG.p1
    have hL64 : L0.length ≤ 16384 := Nat.le_trans hsh.2 (Nat.le_trans (Nat.mul_le_mul hG.p1 hG.s1) (by decide))
    have e1 : appendD D (k : Int) x = match roomD D L0 P0 with
      | none => (16, D)
      | some P1 => (0, putRow D k (some (L0 ++ [x], P1))) := by unfold appendD; rw [hrow]; rfl
    have HE := Lib.hid e1
    have H0 := Lib.hid h0
    have HGd := Lib.hid hG
    have HK := Lib.hid hk
    have HRm := Lib.hid hrm
    have HOp := Lib.hid ((isOpen_roOf D.rows k).2 ⟨_, hk⟩)
    have HRo := Lib.hid (roOf_at hk)
    have HLast : Hid (0 < L0.length % D.size → 0 < P0.length ∧ ∃ c, pg[lastP P0]? = some c ∧ L0.length % D.size ≤ c.1.length ∧ 1 ≤ c.2) := Lib.hid (fun h0' => by
      obtain ⟨hl, c, hc, hcl⟩ := hOK.last hs0 h0'
      have hp0 : 0 < P0.length := by rw [hl]; exact Nat.succ_pos _
      refine ⟨hp0, c, hc, hcl, ?_⟩
      rw [hG.cnts _ c hc]
      have h1 := one_le (lastP P0) D.rows k _ hk
      have h2 : 0 < P0.count (lastP P0) := List.count_pos_iff.2 (List.mem_of_getElem? (lastP_at hp0))
      simp only [one] at h1
      omega)
    have HPl : Hid (P0.length ≤ 1000000) := Lib.hid (by omega)
    have HOK := Lib.hid hOK
    clear e1 hrow h0 hG hk hrm hOK hsh
    obtain ⟨n, hn⟩ : ∃ n, L0.length = n := ⟨_, rfl⟩
    obtain ⟨s, hs⟩ : ∃ s, D.size = s := ⟨_, rfl⟩
    rw [hn] at hL64 HRm HRo HLast
    rw [hs] at hs0 hs1 H0 HRm HLast
    have HNn := Lib.hid hn
    have HSs := Lib.hid hs
    clear hn hs
    go_enter Try.func30, Try.ntmps30
    go_wp2_with fail
    refine (row_yes H0.out k HOp.out).mono ?_
    rintro e w1 ⟨rfl, rfl⟩
    go_wp2_with fail
    refine (room_any H0.out hs0 (by omega) k n P0 HRo.out (by omega) HPl.out (by omega) (fun j c hc => Nat.le_trans (HGd.out.count_le j c hc) (by decide)) HLast.out).mono ?_
    rintro e w2 hR
    unfold Roomy at hR
    cases hrr : Kv.room s pg n P0 with
    | none =>
      rw [hrr] at hR HRm
      obtain ⟨rfl, k1, k2⟩ := hR
      have HK1 := Lib.hid k1
      have HK2 := Lib.hid k2
      have HX : Hid (appendD D (k : Int) x = (16, D)) := Lib.hid (by rw [HE.out, ← HRm.out]; rfl)
      clear k1 k2 hrr
      go_wp2
      go_ret
      rw [HX.out]
      exact ⟨rfl, τ, ⟨ly, pg, by rw [HSs.out]; exact HK1.out, HGd.out⟩, HK2.out⟩
    | some r1 =>
      obtain ⟨pg1, P1⟩ := r1
      rw [hrr] at hR HRm
      obtain ⟨rfl, τ2, ly2, k1, k2, k3⟩ := hR
      have HX : Hid (appendD D (k : Int) x = (0, putRow D k (some (L0 ++ [x], P1)))) := Lib.hid (by rw [HE.out, ← HRm.out]; rfl)
      have hgood := good_append HGd.out HK.out (by rw [HSs.out, HNn.out]; exact hrr) x
      rw [HSs.out, HNn.out] at hgood
      obtain ⟨p1, p2, p3⟩ := room_last HGd.out HK.out (by rw [HSs.out, HNn.out]; exact hrr)
      rw [HSs.out, HNn.out] at p3
      have HGood := Lib.hid hgood
      have H2 := Lib.hid k1
      have HS2 := Lib.hid k2
      have HRo2 : Hid (((roOf D.rows).set k (some (n, P1)))[k]? = some (some (n, P1))) := Lib.hid (by rw [List.getElem?_set]; simp [(List.getElem?_eq_some_iff.1 HRo.out).1])
      obtain ⟨rb, hrb⟩ : ∃ rb, ly2.rb k = rb := ⟨_, rfl⟩
      have HRb := Lib.hid hrb
      rw [← k3, hrb]
      have HP10 := Lib.hid p1
      have HP1l := Lib.hid p2
      obtain ⟨L, hL⟩ : ∃ L, lastP P1 = L := ⟨_, rfl⟩
      rw [hL] at p3
      obtain ⟨c, hc, hcl⟩ := p3
      have HLp := Lib.hid hL
      have HC := Lib.hid hc
      obtain ⟨G, hGl⟩ : ∃ G, pg1.length = G := ⟨_, rfl⟩
      have hLG : L < G := by rw [← hGl]; exact (List.getElem?_eq_some_iff.1 hc).1
      have HGl := Lib.hid hGl
      have hG256 : G ≤ 256 := by
        rw [← hGl]
        have := HGood.out.plen
        unfold fill at this
        rw [List.length_set] at this
        rw [this]
        exact hp1
      clear k1 k2 k3 hrr hgood hrb hL hc hGl p1 p2
      obtain ⟨_, c1, _, _⟩ := H2.out.cells
      rw [HGl.out] at c1
      have HRow2 := Lib.hid (H2.out.row k n P1 HRo2.out)
      have HLast2 : Hid (∀ m, Calls Try.prog 44 #[.pointer (some ⟨rb, 0, none⟩)] (w2.drewN m) fun e w' => e = .returned (.int .i64 (L : Int)) ∧ ∃ q, w' = (w2.drewN m).drewN q) := Lib.hid (fun m => by rw [← HLp.out]; exact last_any (w2.drewN m) rb n (ly2.pv k) (ly2.pb k) P1 (by have := HRow2.out.1; rw [HRb.out] at this; exact this) (HRow2.out.2.2.1.kept fun _ _ => rfl) HP10.out)
      go_upto_region 7 with fail
      go_quiet ((go_at_call 44; exact Calls.quiet_of (HLast2.out _)))
      go_upto_region 8 with fail
      refine gen_w (Q := fun w => Code.wp _ _ _ _ w) _ (fun W => PoolAt kind W τ2 g ly2 s D.rows.length pg1 ((roOf D.rows).set k (some (n, P1))) ∧ Step Tag.mine τ τ2 w W) ⟨H2.out.below (set_drewN _ _), HS2.out.trans (Step.below (set_drewN _ _))⟩ ?_
      clear c1 HRow2 HLast2 H2 HS2
      rintro w7 ⟨k1, k2⟩
      have H7 := Lib.hid k1
      have HS7 := Lib.hid k2
      clear k1 k2
      have hfacts := facts H7.out HRo2.out HC.out
      obtain ⟨hth, htag⟩ := H7.out.th L c HC.out
      obtain ⟨sp, cap, htv, hcp, hcm, _⟩ := hth.slice
      rw [List.length_map] at htv hcp
      rw [htv, HRb.out] at hfacts
      rw [htv] at hth
      obtain ⟨t, ht⟩ : ∃ t, n % s = t := ⟨_, rfl⟩
      rw [ht] at hcl
      have HTt := Lib.hid ht
      have HCut : Hid (Row w7 5 (.slice sp t cap) (ly2.tb L) ((c.1.take t).map kind.vl)) := Lib.hid (by
        have h9 : Row w7 5 (.slice sp (c.1.map kind.vl).length cap) (ly2.tb L) (c.1.map kind.vl) := by rw [List.length_map]; exact hth
        have h8 := h9.cut t (by rw [List.length_map]; exact hcl)
        rw [List.map_take]
        exact h8)
      obtain ⟨l, hl⟩ : ∃ l, c.1.take t = l := ⟨_, rfl⟩
      have HLl : Hid (l.length = t) := Lib.hid (by rw [← hl, List.length_take]; omega)
      rw [hl] at HCut
      have HLe := Lib.hid hl
      have HF := Lib.hid hfacts
      obtain ⟨d, hd⟩ : ∃ d, ly2.tb L = d := ⟨_, rfl⟩
      rw [hd] at HF HCut
      have HD := Lib.hid hd
      have Hlo : Hid (∀ k, d = some k → k < w7.heap.size) := Lib.hid (fun q hq => HCut.out.lt hq)
      obtain ⟨b, hb⟩ : ∃ b, ly2.b = b := ⟨_, rfl⟩
      rw [hb] at HF
      have HBb := Lib.hid hb
      rw [hb]
      obtain ⟨lc, hlc⟩ : ∃ lc, c.1.length = lc := ⟨_, rfl⟩
      rw [hlc] at HF hcp hcl
      have HZ : Hid ((s : Int) ≠ 0) := Lib.hid (by omega)
      have HRm2 : Hid ((n : Int).tmod (s : Int) = (t : Int)) := Lib.hid (by rw [modw, HTt.out])
      have HTc : Hid (t ≤ cap) := Lib.hid (by omega)
      have ht64 : t ≤ 1000000 := by have := Nat.mod_lt n (show 0 < s by omega); rw [HTt.out] at this; omega
      clear hfacts hth htag htv hl hd hb hlc ht
      refine Tn.wp_region_spec_at (C := fun W => w7.grownBy W d) (Le := Le17 d) (Pre := fun j W => j = 17 → Below w7.heap.size w7 W) 20 (fun _ => apP w7.heap.size d (.int .u8 x) (l.map kind.vl) (apX b L rb g n s t sp lc cap x)) (by kernel_rfl) (by kernel_rfl) ⟨rfl, rfl, rfl, Nat.le_refl _, fun _ _ _ => rfl⟩ (fun _ _ _ _ _ _ h => h) (fun _ j i W W' y hne hle h => apP_later Hlo.out hne hle h) (fun j i W W' hne hle hp e => (hp e).trans ((hle.2 (by omega)).mono (hp e).size)) (fun j _ => ⟨rfl, rfl, rfl, Nat.le_refl _, fun _ _ => rfl⟩) (fun ixx yy => ∀ z, apX b L rb g n s t sp lc cap x ixx = some z → yy = z) (fun _ _ _ _ h => h.2.2) (fun ixx => (apX b L rb g n s t sp lc cap x ixx).getD undef) (fun ixx z h => by simp [h]) ?_ ?_
      · intro u hu
        have h0 : u 0 = .pointer (some ⟨b, L * 2, none⟩) := hu 0 _ rfl
        have h1 : u 1 = .pointer (some ⟨b, L * 2, none⟩) := hu 1 _ rfl
        have h2 : u 2 = .pointer (some ⟨b, L * 2, none⟩) := hu 2 _ rfl
        have h3 : u 3 = .pointer (some ⟨b, L * 2, none⟩) := hu 3 _ rfl
        have h4 : u 4 = .slice sp lc cap := hu 4 _ rfl
        have h5 : u 5 = .pointer (some ⟨rb, 0, none⟩) := hu 5 _ rfl
        have h6 : u 6 = .pointer (some ⟨rb, 0, none⟩) := hu 6 _ rfl
        have h7 : u 7 = .pointer (some ⟨rb, 0, none⟩) := hu 7 _ rfl
        have h8 : u 8 = .int .i64 (n : Int) := hu 8 _ rfl
        have h9 : u 9 = .pointer (some ⟨g, 0, none⟩) := hu 9 _ rfl
        have h10 : u 10 = .pointer (some ⟨g, 0, none⟩) := hu 10 _ rfl
        have h11 : u 11 = .pointer (some ⟨g, 0, none⟩) := hu 11 _ rfl
        have h12 : u 12 = .int .i64 (s : Int) := hu 12 _ rfl
        have h13 : u 13 = .int .i64 (t : Int) := hu 13 _ rfl
        have h14 : u 14 = .slice sp t cap := hu 14 _ rfl
        have h15 : u 15 = (.int .u8 x) := hu 15 _ rfl
        have h18 : u 18 = .pointer (some ⟨b, L * 2, none⟩) := hu 18 _ rfl
        have h19 : u 19 = .pointer (some ⟨b, L * 2, none⟩) := hu 19 _ rfl
        simp only [List.take_succ_cons, List.take_zero]
        refine Tn.spec_cons (fun W hC hd => ⟨by rfl, ?_⟩) ?_
        · exact Tn.gives_val (.pointer (some ⟨b, L * 2, none⟩)) W (by rfl) ⟨hC, le_b (by decide) (Below.refl _ _), (fun h => absurd h (by decide)), (fun h => absurd h (by decide)), fun z hz => by cases hz; rfl⟩
        simp only [Act.put, List.setIfInBounds_toArray, List.set_cons_succ, List.set_cons_zero, Nat.reduceAdd]
        rw [h0]
        refine Tn.spec_cons (fun W hC hd => ⟨by rfl, ?_⟩) ?_
        · exact Tn.gives_val (.pointer (some ⟨b, L * 2, none⟩)) W (by rfl) ⟨hC, le_b (by decide) (Below.refl _ _), (fun h => absurd h (by decide)), (fun h => absurd h (by decide)), fun z hz => by cases hz; rfl⟩
        simp only [Act.put, List.setIfInBounds_toArray, List.set_cons_succ, List.set_cons_zero, Nat.reduceAdd]
        rw [h1]
        refine Tn.spec_cons (fun W hC hd => ⟨by rfl, ?_⟩) ?_
        · exact Tn.gives_val (.pointer (some ⟨b, L * 2, none⟩)) W (exec_nilc (.tmp 34) rfl _ rfl) ⟨hC, le_b (by decide) (Below.refl _ _), (fun h => absurd h (by decide)), (fun h => absurd h (by decide)), fun z hz => by cases hz; rfl⟩
        simp only [Act.put, List.setIfInBounds_toArray, List.set_cons_succ, List.set_cons_zero, Nat.reduceAdd]
        rw [h2]
        refine Tn.spec_cons (fun W hC hd => ⟨by rfl, ?_⟩) ?_
        · exact Tn.gives_val (.pointer (some ⟨b, L * 2, none⟩)) W (exec_fld 105 0 (.tmp 35) rfl _ _ rfl (by kernel_rfl)) ⟨hC, le_b (by decide) (Below.refl _ _), (fun h => absurd h (by decide)), (fun h => absurd h (by decide)), fun z hz => by cases hz; rfl⟩
        simp only [Act.put, List.setIfInBounds_toArray, List.set_cons_succ, List.set_cons_zero, Nat.reduceAdd]
        rw [h3]
        refine Tn.spec_cons (fun W hC hd => ⟨by rfl, ?_⟩) ?_
        · exact Tn.gives_val (.slice sp lc cap) W (exec_load1 103 (.tmp 36) rfl ⟨b, L * 2, none⟩ rfl _ (HF.out.1 W hC) _ Try.underlying103 rfl) ⟨hC, le_b (by decide) (Below.refl _ _), (fun h => absurd h (by decide)), (fun h => absurd h (by decide)), fun z hz => by cases hz; rfl⟩
        simp only [Act.put, List.setIfInBounds_toArray, List.set_cons_succ, List.set_cons_zero, Nat.reduceAdd]
        rw [h4]
        refine Tn.spec_cons (fun W hC hd => ⟨by rfl, ?_⟩) ?_
        · exact Tn.gives_val (.pointer (some ⟨rb, 0, none⟩)) W (by rfl) ⟨hC, le_b (by decide) (Below.refl _ _), (fun h => absurd h (by decide)), (fun h => absurd h (by decide)), fun z hz => by cases hz; rfl⟩
        simp only [Act.put, List.setIfInBounds_toArray, List.set_cons_succ, List.set_cons_zero, Nat.reduceAdd]
        rw [h5]
        refine Tn.spec_cons (fun W hC hd => ⟨by rfl, ?_⟩) ?_
        · exact Tn.gives_val (.pointer (some ⟨rb, 0, none⟩)) W (exec_nilc (.tmp 38) rfl _ rfl) ⟨hC, le_b (by decide) (Below.refl _ _), (fun h => absurd h (by decide)), (fun h => absurd h (by decide)), fun z hz => by cases hz; rfl⟩
        simp only [Act.put, List.setIfInBounds_toArray, List.set_cons_succ, List.set_cons_zero, Nat.reduceAdd]
        rw [h6]
        refine Tn.spec_cons (fun W hC hd => ⟨by rfl, ?_⟩) ?_
        · exact Tn.gives_val (.pointer (some ⟨rb, 0, none⟩)) W (exec_fld tR 0 (.tmp 39) rfl _ _ rfl (by kernel_rfl)) ⟨hC, le_b (by decide) (Below.refl _ _), (fun h => absurd h (by decide)), (fun h => absurd h (by decide)), fun z hz => by cases hz; rfl⟩
        simp only [Act.put, List.setIfInBounds_toArray, List.set_cons_succ, List.set_cons_zero, Nat.reduceAdd]
        rw [h7]
        refine Tn.spec_cons (fun W hC hd => ⟨by rfl, ?_⟩) ?_
        · exact Tn.gives_val (.int .i64 (n : Int)) W (exec_load1 3 (.tmp 40) rfl ⟨rb, 0, none⟩ rfl _ (HF.out.2.1 W hC) _ Try.underlying3 rfl) ⟨hC, le_b (by decide) (Below.refl _ _), (fun h => absurd h (by decide)), (fun h => absurd h (by decide)), fun z hz => by cases hz; rfl⟩
        simp only [Act.put, List.setIfInBounds_toArray, List.set_cons_succ, List.set_cons_zero, Nat.reduceAdd]
        rw [h8]
        refine Tn.spec_cons (fun W hC hd => ⟨by rfl, ?_⟩) ?_
        · exact Tn.gives_val (.pointer (some ⟨g, 0, none⟩)) W (by rfl) ⟨hC, le_b (by decide) (Below.refl _ _), (fun h => absurd h (by decide)), (fun h => absurd h (by decide)), fun z hz => by cases hz; rfl⟩
        simp only [Act.put, List.setIfInBounds_toArray, List.set_cons_succ, List.set_cons_zero, Nat.reduceAdd]
        rw [h9]
        refine Tn.spec_cons (fun W hC hd => ⟨by rfl, ?_⟩) ?_
        · exact Tn.gives_val (.pointer (some ⟨g, 0, none⟩)) W (exec_nilc (.tmp 42) rfl _ rfl) ⟨hC, le_b (by decide) (Below.refl _ _), (fun h => absurd h (by decide)), (fun h => absurd h (by decide)), fun z hz => by cases hz; rfl⟩
        simp only [Act.put, List.setIfInBounds_toArray, List.set_cons_succ, List.set_cons_zero, Nat.reduceAdd]
        rw [h10]
        refine Tn.spec_cons (fun W hC hd => ⟨by rfl, ?_⟩) ?_
        · exact Tn.gives_val (.pointer (some ⟨g, 0, none⟩)) W (exec_fld 101 0 (.tmp 43) rfl _ _ rfl (by kernel_rfl)) ⟨hC, le_b (by decide) (Below.refl _ _), (fun h => absurd h (by decide)), (fun h => absurd h (by decide)), fun z hz => by cases hz; rfl⟩
        simp only [Act.put, List.setIfInBounds_toArray, List.set_cons_succ, List.set_cons_zero, Nat.reduceAdd]
        rw [h11]
        refine Tn.spec_cons (fun W hC hd => ⟨by rfl, ?_⟩) ?_
        · exact Tn.gives_val (.int .i64 (s : Int)) W (exec_load1 3 (.tmp 44) rfl ⟨g, 0, none⟩ rfl _ (HF.out.2.2 W hC) _ Try.underlying3 rfl) ⟨hC, le_b (by decide) (Below.refl _ _), (fun h => absurd h (by decide)), (fun h => absurd h (by decide)), fun z hz => by cases hz; rfl⟩
        simp only [Act.put, List.setIfInBounds_toArray, List.set_cons_succ, List.set_cons_zero, Nat.reduceAdd]
        rw [h12]
        refine Tn.spec_cons (fun W hC hd => ⟨by rfl, ?_⟩) ?_
        · exact Tn.gives_val (.int .i64 (t : Int)) W (exec_rem (.tmp 41) (.tmp 45) rfl _ _ _ rfl rfl HZ.out HRm2.out) ⟨hC, le_b (by decide) (Below.refl _ _), (fun h => absurd h (by decide)), (fun h => absurd h (by decide)), fun z hz => by cases hz; rfl⟩
        simp only [Act.put, List.setIfInBounds_toArray, List.set_cons_succ, List.set_cons_zero, Nat.reduceAdd]
        rw [h13]
        refine Tn.spec_cons (fun W hC hd => ⟨by rfl, ?_⟩) ?_
        · exact Tn.gives_val (.slice sp t cap) W (exec_slice 103 5 Try.underlying103 (by kernel_rfl) (.tmp 37) (.tmp 46) rfl _ _ _ _ rfl rfl HTc.out) ⟨hC, le_b (by decide) (Below.refl _ _), (fun h => absurd h (by decide)), (fun h => absurd h (by decide)), fun z hz => by cases hz; rfl⟩
        simp only [Act.put, List.setIfInBounds_toArray, List.set_cons_succ, List.set_cons_zero, Nat.reduceAdd]
        rw [h14]
        refine Tn.spec_cons (fun W hC hd => ⟨by rfl, ?_⟩) ?_
        · exact Tn.gives_val ((.int .u8 x)) W (by rfl) ⟨hC, le_b (by decide) (Below.refl _ _), (fun h => absurd h (by decide)), (fun h => absurd h (by decide)), fun z hz => by cases hz; rfl⟩
        simp only [Act.put, List.setIfInBounds_toArray, List.set_cons_succ, List.set_cons_zero, Nat.reduceAdd]
        rw [h15]
        refine Tn.spec_cons (fun W hC hd => ⟨by rfl, ?_⟩) ?_
        · exact Tn.gives_val _ _ (exec_one (.tmp 48) rfl x rfl) ⟨grown_trans hC (grown_of ((Below.refl W.heap.size W).alloc (Nat.le_refl _) _) _), le_b (by decide) ((Below.refl W.heap.size W).alloc (Nat.le_refl _) _), (fun _ => OneV.made _ W 5 hC.size), (fun h => absurd h (by decide)), fun z hz => by cases hz⟩
        simp only [Act.put, List.setIfInBounds_toArray, List.set_cons_succ, List.set_cons_zero, Nat.reduceAdd]
        refine Tn.spec_cons_at (fun W hC hp hd => ⟨by rfl, ?_⟩) ?_
        · obtain ⟨b8, e8, hl8, c8⟩ := (hd ⟨16, .data⟩ (by simp) rfl).1 rfl
          refine gives_append_row 103 5 1 (.int .u8 0) Try.underlying103 infoE rfl (by decide) (.tmp 47) (.tmp 49) (by rfl) (.slice sp t cap) d (l.map kind.vl) (by rfl) (HCut.out.kept fun q hq => (hp rfl).block q (Hlo.out q hq)) b8 (.int .u8 x) (by exact e8) c8 rfl (by rw [List.length_map, HLl.out]; omega) (fun v' W' b' h1 h2 h3 => ⟨grown_trans hC h2, le_g h2, (fun h => absurd h (by decide)), (fun _ => ⟨b', h1, ?_⟩), fun z hz => by cases hz⟩)
          rcases h3 with e | ⟨q, e, hq⟩
          · exact Or.inl e
          · exact Or.inr ⟨q, e, Nat.le_trans hC.size hq⟩
        simp only [Act.put, List.setIfInBounds_toArray, List.set_cons_succ, List.set_cons_zero, Nat.reduceAdd]
        refine Tn.spec_cons (fun W hC hd => ⟨by rfl, ?_⟩) ?_
        · exact Tn.gives_val (.pointer (some ⟨b, L * 2, none⟩)) W (exec_nilc (.tmp 33) rfl _ rfl) ⟨hC, le_b (by decide) (Below.refl _ _), (fun h => absurd h (by decide)), (fun h => absurd h (by decide)), fun z hz => by cases hz; rfl⟩
        simp only [Act.put, List.setIfInBounds_toArray, List.set_cons_succ, List.set_cons_zero, Nat.reduceAdd]
        rw [h18]
        refine Tn.spec_cons (fun W hC hd => ⟨by rfl, ?_⟩) ?_
        · exact Tn.gives_val (.pointer (some ⟨b, L * 2, none⟩)) W (exec_fld 105 0 (.tmp 51) rfl _ _ rfl (by kernel_rfl)) ⟨hC, le_b (by decide) (Below.refl _ _), (fun h => absurd h (by decide)), (fun h => absurd h (by decide)), fun z hz => by cases hz; rfl⟩
        simp only [Act.put, List.setIfInBounds_toArray, List.set_cons_succ, List.set_cons_zero, Nat.reduceAdd]
        rw [h19]
        exact Tn.spec_nil
      · intro u W hu hC hP
        have h0 : u 0 = .pointer (some ⟨b, L * 2, none⟩) := hu 0 _ rfl
        have h1 : u 1 = .pointer (some ⟨b, L * 2, none⟩) := hu 1 _ rfl
        have h2 : u 2 = .pointer (some ⟨b, L * 2, none⟩) := hu 2 _ rfl
        have h3 : u 3 = .pointer (some ⟨b, L * 2, none⟩) := hu 3 _ rfl
        have h4 : u 4 = .slice sp lc cap := hu 4 _ rfl
        have h5 : u 5 = .pointer (some ⟨rb, 0, none⟩) := hu 5 _ rfl
        have h6 : u 6 = .pointer (some ⟨rb, 0, none⟩) := hu 6 _ rfl
        have h7 : u 7 = .pointer (some ⟨rb, 0, none⟩) := hu 7 _ rfl
        have h8 : u 8 = .int .i64 (n : Int) := hu 8 _ rfl
        have h9 : u 9 = .pointer (some ⟨g, 0, none⟩) := hu 9 _ rfl
        have h10 : u 10 = .pointer (some ⟨g, 0, none⟩) := hu 10 _ rfl
        have h11 : u 11 = .pointer (some ⟨g, 0, none⟩) := hu 11 _ rfl
        have h12 : u 12 = .int .i64 (s : Int) := hu 12 _ rfl
        have h13 : u 13 = .int .i64 (t : Int) := hu 13 _ rfl
        have h14 : u 14 = .slice sp t cap := hu 14 _ rfl
        have h15 : u 15 = (.int .u8 x) := hu 15 _ rfl
        have h18 : u 18 = .pointer (some ⟨b, L * 2, none⟩) := hu 18 _ rfl
        have h19 : u 19 = .pointer (some ⟨b, L * 2, none⟩) := hu 19 _ rfl
        obtain ⟨b17, k17, k18⟩ := (hP 17 (by decide)).2.1 rfl
        obtain ⟨sq, cq, e17, _⟩ := k17.slice
        rw [List.length_append, List.length_singleton, List.length_map, HLl.out] at e17
        rw [e17] at k17
        simp only [List.take_succ_cons, List.take_zero, List.drop_succ_cons, List.drop_zero, Tn.putAll, Act.put, List.setIfInBounds_toArray, List.set_cons_succ, List.set_cons_zero, Nat.reduceAdd]
        rw [h0, h1, h2, h3, h4, h5, h6, h7, h8, h9, h10, h11, h12, h13, h14, h15, e17, h18, h19]
        have HK17 := Lib.hid k17
        have HK18 := Lib.hid k18
        have HCw := Lib.hid hC
        clear hu hC hP e17 k17 k18 h0 h1 h2 h3 h4 h5 h6 h7 h8 h9 h10 h11 h12 h13 h14 h15 h18 h19
        have q1 := HF.out.1 W HCw.out
        have q2 : W.frozen? ⟨b, L * 2, none⟩ = false := by
          rw [World.frozen?_of_block (w := w7) (HCw.out.block b (by rw [← HBb.out]; exact H7.out.fits _ _ H7.out.tpages) (fun e => by
            have h1 := (H7.out.th L c HC.out).2 b (by rw [HD.out]; exact e.symm)
            rw [← HBb.out, H7.out.tpages] at h1
            cases h1)), ← HBb.out]
          exact (H7.out.free (L * 2)).2.1
        have hset : ∃ τ8 ly8, PoolAt kind (W.setCell ⟨b, L * 2, none⟩ (.slice sq (t + 1) cq)) τ8 g ly8 s D.rows.length (Kv.fill s pg1 n P1 x) ((roOf D.rows).set k (some (n, P1))) ∧ Step Tag.mine τ τ8 w (W.setCell ⟨b, L * 2, none⟩ (.slice sq (t + 1) cq)) ∧ ly8.rb = ly2.rb := by
          obtain ⟨τ8, ly8, k1, k2, k3, _⟩ := H7.out.setThing HC.out (w' := W) (by rw [HD.out]; exact HCw.out) (v := .slice sq (t + 1) cq) (d := b17) (l := l ++ [x]) (by rw [List.map_append]; exact HK17.out) (by
            rw [HD.out]
            rcases HK18.out with e | ⟨q, e, hq⟩
            · exact Or.inr (Or.inl e)
            · exact Or.inr (Or.inr ⟨q, e, hq⟩))
          rw [HBb.out] at k1 k2
          refine ⟨τ8, ly8, ?_, HS7.out.trans k2, k3⟩
          unfold Kv.fill
          rw [HLp.out, pageOf_eq HC.out, HTt.out, HLe.out]
          exact k1
        have HSet := Lib.hid hset
        clear hset
        go_upto_region 9 with fail
        refine gen_w (Q := fun w => Code.wp _ _ _ _ w) _ (fun W => ∃ τ8 ly8, PoolAt kind W τ8 g ly8 s D.rows.length (Kv.fill s pg1 n P1 x) ((roOf D.rows).set k (some (n, P1))) ∧ Step Tag.mine τ τ8 w W ∧ ly8.rb = ly2.rb) HSet.out ?_
        clear q1 q2 HSet HCw HK17 HK18 HF HCut Hlo H7 HS7
        rintro w8 ⟨τ8, ly8, k1, k2, k3⟩
        have H8 := Lib.hid k1
        have HS8 := Lib.hid k2
        have HRb8 : Hid (ly8.rb k = rb) := Lib.hid (by rw [k3]; exact HRb.out)
        clear k1 k2 k3
        obtain ⟨r0, _⟩ := H8.out.rowC HRo2.out
        rw [HRb8.out] at r0
        have q3 := (H8.out.free 0).2.2 k n P1 HRo2.out
        rw [HRb8.out] at q3
        have hw : IntKind.i64.wrap ((n : Int) + 1) = ((n + 1 : Nat) : Int) := by rw [IntWalk.i64_in _ (by omega)]; omega
        go_wp2
        go_ret
        rw [HX.out]
        refine ⟨rfl, τ8, ⟨ly8, Kv.fill s pg1 n P1 x, ?_, by
          show Good ⟨D.size, D.pages, _⟩ _
          rw [HSs.out]
          exact HGood.out⟩, HS8.out.trans (step_set (v := .int .i64 ((n + 1 : Nat) : Int)) (by rw [← HRb8.out]; exact (H8.out.row k n P1 HRo2.out).2.1) rfl)⟩
        have h9 := H8.out.setMany HRo2.out (n + 1)
        rw [HRb8.out, List.set_set] at h9
        show PoolAt kind _ τ8 g ly8 D.size (D.rows.set k _).length _ (roOf (D.rows.set k _))
        rw [HSs.out, List.length_set, roOf_set, List.length_append, List.length_singleton, HNn.out]
        exact h9
end
end Go.Proofs.Ytcfhchdkohjbfaa.Kv.Y
