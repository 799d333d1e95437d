import Derived.Test.YthnlagplkeklmaaNd
namespace Go.Proofs.Ythnlagplkeklmaa.Wg
set_option maxRecDepth 100000
open Go.ChangeShapes Go.WideShapes Go.ChangeAt Go.RowKit Go.Shelf Go.Proofs.Ythnlagplkeklmaa.Tn
attribute [local go_sem] Oper.semAt_some

/-! ### the leaves of a model -/
/-- the rows of a list of numbers -/
def rowsL (C R : Nat) (l : List Int) : List (List Int) := (List.range R).map fun q => (l.drop (q * C)).take C
/-- a part's leaves -/
def leavesB (b : Bl) (p : Mt) : List (List Int) := (rowsL b.c b.r p.l).map Cd.nums
def leavesD (m : Md) : List (List Int) := headB m.cfg m.al m.ps :: m.cfg.blks.flatMap fun b => leavesB b (m.part b.k b.y)
/-- where a part's numbers stand -/
def addrN (v : Wv) (g : Nat) (b : Bl) : Addr := if isVec b.k then ⟨(addrP v g b).1, (addrP v g b).2, none⟩ else ⟨(addrP v g b).1, (addrP v g b).2 + 2, none⟩
theorem numbers_at (w : World) (n0 g : Nat) (v : Wv) (m : Md) (x : Bk) (hm : Model w g v m) (hn : v.nl ≤ 4) (hx : FnOK n0 w x) (hb : OkB v x.b) :
    (Calls Try.prog 30 #[x.val, .pointer (some ⟨g, 0, none⟩)] w fun e w' => e = .returned (.pointer (some (addrN v g x.b))) ∧ Below w.heap.size w w') ∧
      ∃ sp cap, w.cell? (addrN v g x.b) = some (.slice sp (m.part x.b.k x.b.y).l.length cap) ∧ Nums w sp cap (m.part x.b.k x.b.y).l := by
  have hp := hm.part hb.kind
  have hc := clos_of hm hn hx (fun h2 h3 => by rcases hb.kind with h | h | h | h <;> omega)
  obtain ⟨⟨k, y, r, c⟩, vf, mf⟩ := x
  dsimp only at hp hc ⊢
  unfold addrN
  cases hk : isVec k with
  | true =>
    obtain ⟨hc1, rfl⟩ := hc.1 hk
    unfold PartAt at hp
    rw [if_pos hk] at hp
    rw [if_pos rfl]
    exact ⟨numbersV_any w g k y r c vf _ _ hc1, hp⟩
  | false =>
    obtain ⟨hc1, rfl⟩ := hc.2 hk
    unfold PartAt at hp
    rw [if_neg (by rw [hk]; decide)] at hp
    obtain ⟨_, _, h⟩ := hp
    rw [if_neg (by decide)]
    exact ⟨numbersM_any w g k y r c mf _ _ hc1, h⟩
theorem partsE_all {m : Md} : ∀ {l : List Bl}, partsE m l = 0 → ∀ b ∈ l, szB b (m.part b.k b.y) = 0 ∧ nmB b (m.part b.k b.y) = 0
  | [], _, _, h => by cases h
  | c :: l, h, b, hb => by
    have h0 : partE c (m.part c.k c.y) = 0 := by
      by_cases hz : partE c (m.part c.k c.y) = 0
      · exact hz
      · rw [partsE_no hz] at h; exact absurd h hz
    rw [partsE_yes h0] at h
    rcases List.mem_cons.1 hb with rfl | h1
    · unfold partE at h0
      by_cases hs : szB b (m.part b.k b.y) = 0
      · rw [if_neg (by omega)] at h0
        exact ⟨hs, h0⟩
      · rw [if_pos hs] at h0
        exact absurd h0 hs
    · exact partsE_all h b h1
/-- a part that may be has as many numbers as its sizes say -/
theorem part_many {b : Bl} {p : Mt} (h1 : isVec b.k = true → b.r = 1) (hs : szB b p = 0) (hn : nmB b p = 0) : p.l.length = b.r * b.c ∧ 1 ≤ b.c ∧ b.r * b.c ≤ 32768 := by
  unfold szB at hs
  unfold nmB at hn
  cases hk : isVec b.k with
  | true =>
    rw [hk, if_pos rfl] at hs hn
    have hl : p.l.length = b.c := by
      by_cases h : p.l.length = b.c
      · exact h
      · rw [if_neg h] at hs; cases hs
    have : ¬ (p.l.length < 1 ∨ 512 < p.l.length) := fun h => by unfold chkV at hn; rw [if_pos h] at hn; cases hn
    rw [h1 hk]
    omega
  | false =>
    rw [hk, if_neg (by decide)] at hs hn
    have hrc : p.r = b.r ∧ p.c = b.c := by
      by_cases h : p.r = b.r ∧ p.c = b.c
      · exact h
      · rw [if_neg h] at hs; cases hs
    have hz : sizeM p.r p.c p.l.length := by
      by_cases h : sizeM p.r p.c p.l.length
      · exact h
      · rw [chkM_size h] at hn; cases hn
    obtain ⟨a1, a2, a3, a4, a5⟩ := hz
    rw [hrc.1, hrc.2] at a5
    have e : ((p.l.length : Nat) : Int) = ((b.r * b.c : Nat) : Int) := by rw [a5]; simp
    have hle : b.r * b.c ≤ 512 * 64 := Nat.mul_le_mul (by omega) (by omega)
    exact ⟨by omega, by omega, by omega⟩
/-- of a model that may be -/
theorem chk_zero {m : Md} (h : m.chk = 0) : m.headE = 0 ∧ partsE m m.cfg.blks = 0 := by
  by_cases h0 : m.headE = 0
  · exact ⟨h0, (chk_yes h0).symm.trans h⟩
  · rw [chk_no h0] at h
    exact absurd h h0
theorem rowsL_length (C R : Nat) (l : List Int) : (rowsL C R l).length = R := by simp [rowsL]
theorem leavesB_length (b : Bl) (p : Mt) : (leavesB b p).length = b.r := by simp [leavesB, rowsL_length]

/-! ### a leaf more -/
theorem info39 : (Try.prog.info? 24).map (fun i => (i.zero, i.size, i.bytes)) = some (some (.slice none 0 0), 1, 24) := by kernel_rfl
theorem wpList_push_leaf {W : World} {ops : Array Oper} {rest : List Oper} {o : Oper} {a : Act} {Q : Exit → Act → World → Prop} (hgd : o.guard = none) (s x : Operand) (ho : o.op = .call { callee := .builtin .append, args := #[s, x], argTypes := #[39, 39] })
    (base : Nat) (v u : Value) (ls : List (List Int)) (l : List Int) (hs : a.eval s = v) (hv : LvR base v ls W) (hu : PcT base W u l)
    (b : Nat) (hx : a.eval x = .slice (some ⟨b, 0, none⟩) 1 1) (hbk : W.heap[b]? = some (.cells #[u] 24 (0, 0))) (hn : ls.length ≤ 999990)
    (h : ∀ v' w', LvR base v' (ls ++ [l]) w' → W.grownBy w' v.ownBlock → wpList Try.prog ops Q rest (a.put o.dst v') w') : wpList Try.prog ops Q (o :: rest) a W := by
  have hsl : Sl W (some ⟨b, 0, none⟩) 1 [u] := by
    refine ⟨by simp, by unfold maxLen; omega, (fun h => by cases h), fun _ => ⟨_, _, rfl, fun i y hy => ?_⟩⟩
    rw [cell_of_row _ _ _ _ _ _ hbk, ← hy]
    simp
  have hr := hv
  obtain ⟨vs, h1, h2, h3, h4⟩ := hv
  have h1u : u.oneCell' = true := by
    obtain ⟨sp, cap, rfl, _⟩ := hu
    rfl
  refine wpList_append_sl 39 24 24 (.slice none 0 0) Try.underlying39 info39 rfl (by decide) hgd s x ho base v ls.length 1 vs [u] hs h1 (some ⟨b, 0, none⟩) 1 hx rfl hsl (fun y hy => by simp at hy; rw [hy]; exact h1u) (by omega) h4 ?_
  intro v' w' k1 k2
  refine h v' w' ⟨vs ++ [u], by rw [List.length_append]; exact k1, by simp [h2], fun i y hy => ?_, Nat.le_trans h4 k2.size⟩ k2
  by_cases hi : i < vs.length
  · rw [List.getElem?_append_left hi] at hy
    have e : (ls ++ [l]).getD i [] = ls.getD i [] := by
      rw [List.getD_eq_getElem?_getD, List.getElem?_append_left (by omega), ← List.getD_eq_getElem?_getD]
    rw [e]
    exact PcT.grown hr k2 (h3 i y hy)
  · have hi2 : i = vs.length := by
      have := (List.getElem?_eq_some_iff.1 hy).1
      simp at this
      omega
    subst hi2
    rw [List.getElem?_append_right (Nat.le_refl _)] at hy
    simp at hy
    subst hy
    have e : (ls ++ [l]).getD vs.length [] = l := by
      rw [List.getD_eq_getElem?_getD, List.getElem?_append_right (by omega), h2]
      simp
    rw [e]
    exact PcT.grown hr k2 hu
theorem LvR.keepsFrom {base B : Nat} {v : Value} {ls : List (List Int)} {W W' : World} (h : LvR base v ls W) (hg : W.grownBy W' v.ownBlock) : KeepsFrom B W W' :=
  ⟨hg.size, fun _ _ _ hk ho => h.keeps hg hk (Or.inr fun cs fr e => by rw [e] at ho; cases ho)⟩
theorem Hw.past {w W W' : World} {v : Wv} {m : Md} {base : Nat} (hv : WvOK w v m) (h : Hw w v m W) (hb : Below base W W') (hlt : w.heap.size < base) : Hw w v m W' := by
  have h1 := h.below.trans (hb.mono (by omega))
  have := h.hi
  exact ⟨h1, (hb.block _ hlt).trans h.md.row, hv.later h1⟩
/-- what stands between two rounds of Leaves -/
def LvS (w : World) (v : Wv) (m : Md) (base : Nat) (ls : List (List Int)) (W : World) : Prop := ∃ val, Boxed W (base + 1) 39 val ∧ (∀ y, val ≠ .int .u8 y) ∧ LvR base val ls W ∧ Hw w v m W
theorem LvS.later {w W W' : World} {v : Wv} {m : Md} {base : Nat} {ls : List (List Int)} (h : LvS w v m base ls W) (hb : Below W.heap.size W W') : LvS w v m base ls W' := by
  obtain ⟨val, h1, h2, h3, h4⟩ := h
  exact ⟨val, boxed_below h1 hb, h2, h3.later hb, h4.later hb⟩
theorem LvS.own {w : World} {v : Wv} {m : Md} {base n : Nat} {α : Type} {f : α → List (List Int)} (hn : w.heap.size ≤ n) : OwnFrom n (fun (s : α) W => LvS w v m base (f s) W) := fun s X Y row hs hg hr => by
  obtain ⟨val, h1, h2, h3, h4⟩ := hs
  exact ⟨val, row_own' () X Y row h1 hg hr, h2, LvR.own (B := n) (f := f) s X Y row h3 hg hr, Hw.own (α := Unit) hn () X Y row h4 hg hr⟩
theorem KpB.own {B n0 bc : Nat} {Wb : World} {α : Type} : OwnFrom B (fun (_ : α) W => KpB n0 bc Wb W) := fun _ X Y row hs hg hr =>
  ⟨Nat.le_trans hs.size hg.size, fun k cs t hk ht e => row_own' () X Y row (hs.same k cs t hk ht e) hg hr⟩
/-- a leaf more, and the box -/
theorem LvS.push {w W W' : World} {v : Wv} {m : Md} {base : Nat} {ls ls' : List (List Int)} {val v' : Value} (hv : WvOK w v m) (hlt : w.heap.size < base) (hb : Boxed W (base + 1) 39 val) (h2 : ∀ y, val ≠ .int .u8 y) (hr : LvR base val ls W) (hw : Hw w v m W)
    (hg : W.grownBy W' val.ownBlock) (hr' : LvR base v' ls' W') (h3 : ∀ y, v' ≠ .int .u8 y) : LvS w v m base ls' (W'.setCell ⟨base + 1, 0, none⟩ v') :=
  ⟨v', (hr.boxed hg hb (by decide)).set _, h3, hr'.set (hr.boxed hg hb (by decide)) h2 (by decide) v', (Hw.past hv hw (hr.below hg) hlt).set hv (by omega) v'⟩
theorem LvR.isSl {base : Nat} {v : Value} {ls : List (List Int)} {W : World} (h : LvR base v ls W) : ∀ y, v ≠ .int .u8 y := fun y e => by
  obtain ⟨vs, h1, _⟩ := h
  rcases h1.2 with ⟨rfl, _⟩ | ⟨g, cap, cur, rfl, _⟩ <;> cases e

/-! ### Leaves of what is no model -/
set_option maxHeartbeats 8000000 in
theorem leaves_no (w : World) (v : Wv) (m : Md) (hv : WvOK w v m) (ha : m.al.length ≤ 1000) (hp : m.ps.length ≤ 1000) (hE : m.chk ≠ 0) :
    Calls Try.prog 11 #[.agg v.cells] w fun e w' => e = .returned (.tuple #[.slice none 0 0, .int .i64 m.chk]) ∧ Below w.heap.size w w' := by
  have HB := Lib.hid (Hw.made hv)
  have HC := Lib.hid (fun W (h : Hw w v m W) => check_any W v m (hv.later h.below) ha hp)
  obtain ⟨E, hEE⟩ : ∃ E, m.chk = E := ⟨_, rfl⟩
  rw [hEE] at HC hE ⊢
  have n1 : (E == 0) = false := by simpa using hE
  have n2 : (E != 0) = true := by simpa using hE
  clear hv ha hp hE hEE
  unfold Wv.cells at HB HC ⊢
  go_enter Try.func11, Try.ntmps11
  go_upto_region 1 with fail
  refine gen_w (Q := fun w => Code.wp _ _ _ _ w) _ (Hw w v m) HB.out ?_
  clear HB
  intro w1 hx
  have HX := Lib.hid hx
  have HR := Lib.hid hx.md.row
  clear hx
  unfold Wv.cells at HR
  go_wp2_with (first
    | (refine wpList_load_row rfl 31 (.tmp 1) rfl w.heap.size rfl 31 _ (0, 0) _ HR.out Try.underlying31 rfl size_wts ?_)
    | (refine (HC.out w1 HX.out).mono ?_; rintro e w2 ⟨rfl, hb2⟩; have HX2 := Lib.hid (HX.out.later hb2); clear hb2))
  exact bodyPost_ret (v := .tuple #[.slice none 0 0, .int .i64 E]) (by simp [results, Try.results11, go_sem]) rfl ⟨rfl, HX2.out.below⟩
end Go.Proofs.Ythnlagplkeklmaa.Wg
