import Derived.Test.YtighmhoekbnagaaDoorTi
namespace Go.Proofs.YtighmhoekbnagaaDoor
open Go.ChangeShapes Go.WideShapes Go.ChangeAt Go.RowKit

/-! ### Set -/
theorem Env.same {w W : World} (h : Env w) (h0 : W.heap[0]? = w.heap[0]?) (h1 : W.heap[1]? = w.heap[1]?) : Env W := by
  refine ⟨fun i hi => (cell_same h1 i).trans (h.kc i hi), ?_⟩
  obtain ⟨t, fr, hs⟩ := h.start
  exact ⟨t, fr, h0.trans hs⟩
/-- what was there is there, but for blocks of a set -/
structure Chg (S : Nat → Prop) (w W : World) : Prop where
  os : W.os = w.os
  tape : W.tape = w.tape
  output : W.output = w.output
  size : w.heap.size ≤ W.heap.size
  block : ∀ b, b < w.heap.size → ¬ S b → W.heap[b]? = w.heap[b]?
theorem Chg.refl (S : Nat → Prop) (w : World) : Chg S w w := ⟨rfl, rfl, rfl, Nat.le_refl _, fun _ _ _ => rfl⟩
theorem Chg.later {S : Nat → Prop} {w W W' : World} (h : Chg S w W) (hb : Below W.heap.size W W') : Chg S w W' :=
  ⟨hb.os.trans h.os, hb.tape.trans h.tape, hb.output.trans h.output, Nat.le_trans h.size hb.size, fun b h1 h2 => (hb.block b (Nat.lt_of_lt_of_le h1 h.size)).trans (h.block b h1 h2)⟩
theorem Chg.setCell {S : Nat → Prop} {w W : World} (h : Chg S w W) (g o : Nat) (v : Value) (hg : S g) : Chg S w (W.setCell ⟨g, o, none⟩ v) :=
  ⟨h.os, h.tape, h.output, by simpa [World.setCell] using h.size, fun b h1 h2 => by
    have : b ≠ g := fun e => h2 (e ▸ hg)
    rw [← h.block b h1 h2]
    simp [World.setCell, Array.getElem?_modify, Ne.symm this]⟩
theorem Chg.setCells {S : Nat → Prop} {w : World} (g : Nat) (hg : S g) : ∀ (vs : List Value) (o : Nat) (W : World), Chg S w W → Chg S w (W.setCells g o vs)
  | [], _, _, h => h
  | v :: r, o, W, h => by
    rw [World.setCells]
    exact Chg.setCells g hg r (o + 1) _ (h.setCell g o v hg)
theorem Chg.below {S : Nat → Prop} {w W : World} (h : Chg S w W) (B : Nat) (hB : B ≤ w.heap.size) (hS : ∀ b, S b → B ≤ b) : Below B w W :=
  ⟨h.os, h.tape, h.output, h.size, fun b hb => h.block b (by omega) (fun hs => by have := hS b hs; omega)⟩
/-- the blocks into which Set writes -/
def Wrt (Lb H : Nat) (rb : Nat → Nat) (b : Nat) : Prop := b = Lb ∨ ∃ h, h ≤ H ∧ b = rb h
/-- a tree while Set goes up -/
structure SetP (w : World) (ls ls' : List (List Int)) (t Lb Rb Rc H k : Nat) (vs : List Value) (rb : Nat → Nat) (W : World) : Prop where
  chg : Chg (Wrt Lb H rb) w W
  top : W.heap[t]? = some (.cells #[.slice (some ⟨Lb, 0, none⟩) ls.length ls.length, .slice (some ⟨Rb, 0, none⟩) (H + 1) Rc] 75 (0, 0))
  leaves : W.heap[Lb]? = some (.cells vs.toArray 28 (0, 0))
  vlen : vs.length = ls.length
  vpc : ∀ i v, vs[i]? = some v → LfVal W v (ls'.getD i [])
  roots : ∃ cur : Array Value, W.heap[Rb]? = some (.cells cur 33 (0, 0)) ∧ H + 1 ≤ cur.size ∧ ∀ h, h ≤ H → cur[h]? = some (.slice (some ⟨rb h, 0, none⟩) (rowsD ls h).length (rowsD ls h).length)
  new : ∀ h, h < k → h ≤ H → RowD W (rb h) (rowsD ls' h)
  old : ∀ h, k ≤ h → h ≤ H → RowD W (rb h) (rowsD ls h)
section
variable {w W W' : World} {ls ls' : List (List Int)} {t Lb Rb Rc H k : Nat} {vs : List Value} {rb : Nat → Nat}
theorem SetP.later (h : SetP w ls ls' t Lb Rb Rc H k vs rb W) (hb : Below W.heap.size W W') : SetP w ls ls' t Lb Rb Rc H k vs rb W' := by
  obtain ⟨cur, h1, h2, h3⟩ := h.roots
  exact ⟨h.chg.later hb, (hb.block t (Array.getElem?_eq_some_iff.1 h.top).1).trans h.top, (hb.block Lb (Array.getElem?_eq_some_iff.1 h.leaves).1).trans h.leaves, h.vlen, fun i v hv => (h.vpc i v hv).below hb,
    ⟨cur, (hb.block Rb (Array.getElem?_eq_some_iff.1 h1).1).trans h1, h2, h3⟩, fun k hk hH => (h.new k hk hH).below hb, fun k hk hH => (h.old k hk hH).below hb⟩
theorem SetP.c1 (h : SetP w ls ls' t Lb Rb Rc H k vs rb W) : W.cell? ⟨t, 1, none⟩ = some (.slice (some ⟨Rb, 0, none⟩) (H + 1) Rc) := by rw [cell_of_row _ _ _ _ _ _ h.top]; rfl
theorem SetP.r (h : SetP w ls ls' t Lb Rb Rc H k vs rb W) (j : Nat) (hj : j ≤ H) : W.cell? ⟨Rb, j, none⟩ = some (.slice (some ⟨rb j, 0, none⟩) (rowsD ls j).length (rowsD ls j).length) := by
  obtain ⟨cur, h1, _, h3⟩ := h.roots
  rw [cell_of_row _ _ _ _ _ _ h1]
  exact h3 j hj
theorem SetP.env (h : SetP w ls ls' t Lb Rb Rc H k vs rb W) (he : Env w) (h2 : ∀ b, Wrt Lb H rb b → 2 ≤ b) : Env W := by
  have ht := he.two
  exact he.same (h.chg.block 0 (by omega) (fun hs => by have := h2 0 hs; omega)) (h.chg.block 1 (by omega) (fun hs => by have := h2 1 hs; omega))
/-- one root of the k-th row is stored -/
theorem SetP.row (h : SetP w ls ls' t Lb Rb Rc H k vs rb W) (hk : k ≤ H) (inj : ∀ h k, h ≤ H → k ≤ H → rb h = rb k → h = k) (p : Nat) (hp : p < (rowsD ls k).length) (d : List Int) (hd : d.length = 32) (he : (rowsD ls k).set p d = rowsD ls' k) :
    SetP w ls ls' t Lb Rb Rc H (k + 1) vs rb (W.setCells (rb k) (32 * p) (d.map (Value.int .u8))) := by
  have ho := h.old k (Nat.le_refl _) hk
  obtain ⟨C, hC, _⟩ := id ho.ty
  have hne : ∀ {b : Nat} {C' : Array Value} {ty : TypeId} {fr : Nat × Nat}, W.heap[b]? = some (.cells C' ty fr) → ty ≠ 24 → (W.setCells (rb k) (32 * p) (d.map (Value.int .u8))).heap[b]? = W.heap[b]? := fun hb ht => heap_setCells_ne _ _ _ _ (fun e => by rw [e, hC] at hb; cases hb; exact ht rfl)
  have hrow : ∀ j, j ≤ H → j ≠ k → (W.setCells (rb k) (32 * p) (d.map (Value.int .u8))).heap[rb j]? = W.heap[rb j]? := fun j hj hjk => heap_setCells_ne _ _ _ _ (fun e => hjk (inj j k hj hk e))
  obtain ⟨cur, h1, h2, h3⟩ := h.roots
  refine ⟨Chg.setCells _ (.inr ⟨k, hk, rfl⟩) _ _ _ h.chg, (hne h.top (by decide)).trans h.top, (hne h.leaves (by decide)).trans h.leaves, h.vlen, fun i v hv => (h.vpc i v hv).kept fun c C' fr hc => hne hc (by decide), ⟨cur, (hne h1 (by decide)).trans h1, h2, h3⟩, fun j hj hjH => ?_, fun j hj hjH => (h.old j (by omega) hjH).kept (hrow j hjH (by omega))⟩
  by_cases hjk : j = k
  · subst hjk
    rw [← he]
    exact ho.set p hp d hd
  · exact (h.new j (by omega) hjH).kept (hrow j hjH hjk)
end
theorem rowsD_len_set (ls : List (List Int)) (i : Nat) (l : List Int) (h : Nat) : (rowsD (ls.set i l) h).length = (rowsD ls h).length := by
  induction h with
  | zero => show ((ls.set i l).map leafD).length = (ls.map leafD).length; simp
  | succ h ih =>
    have e1 : rowsD (ls.set i l) (h + 1) = above nodeD (rowsD (ls.set i l) h) := rfl
    have e2 : rowsD ls (h + 1) = above nodeD (rowsD ls h) := rfl
    rw [e1, e2, above_len, above_len, ih]
theorem rowsD_set (ls : List (List Int)) (i : Nat) (l : List Int) (hi : i < ls.length) (h : Nat) : (rowsD ls h).set (i / 2 ^ h) ((rowsD (ls.set i l) h).getD (i / 2 ^ h) []) = rowsD (ls.set i l) h := by
  have := rws_set nodeD (ls.map leafD) i (leafD l) (by rw [List.length_map]; exact hi) h
  have e : (ls.map leafD).set i (leafD l) = (ls.set i l).map leafD := by rw [List.map_set]
  rw [e] at this
  exact this.symm
theorem place_lt (ls : List (List Int)) (i : Nat) (hi : i < ls.length) (h : Nat) : i / 2 ^ h < (rowsD ls h).length := by
  have hl : (rowsD ls h).length = ((ls.map leafD).length - 1) / 2 ^ h + 1 := rws_len nodeD (ls.map leafD) (map_ne (by omega)) h
  rw [hl, List.length_map]
  exact Nat.lt_succ_of_le (Nat.div_le_div_right (by omega))
/-- the first store: a leaf's slice -/
theorem TreeP.leaf {w W : World} {ls : List (List Int)} {t Lb Rb Rc H : Nat} {vs : List Value} {rb : Nat → Nat} (h : TreeP w ls t Lb Rb Rc H vs rb) (hb : Below w.heap.size w W) (i : Nat) (hi : i < ls.length) (l : List Int) (v : Value) (hv : LfVal W v l) :
    SetP w ls (ls.set i l) t Lb Rb Rc H 0 (vs.set i v) rb (W.setCell ⟨Lb, i, none⟩ v) := by
  have hW := h.below hb
  have hk : ∀ b, b ≠ Lb → (W.setCell ⟨Lb, i, none⟩ v).heap[b]? = W.heap[b]? := fun b hb => by
    simp [World.setCell, Array.getElem?_modify, Ne.symm hb]
  have hty : ∀ {b : Nat} {C' : Array Value} {ty : TypeId} {fr : Nat × Nat}, W.heap[b]? = some (.cells C' ty fr) → ty ≠ 28 → (W.setCell ⟨Lb, i, none⟩ v).heap[b]? = W.heap[b]? := fun hb ht => hk _ (fun e => by rw [e, hW.leaves] at hb; cases hb; exact ht rfl)
  obtain ⟨cur, h1, h2, h3⟩ := hW.roots
  refine ⟨((Chg.refl _ w).later hb).setCell Lb i v (.inl rfl), (hty hW.top (by decide)).trans hW.top, ?_, by rw [List.length_set]; exact hW.vlen, fun j u hu => ?_, ⟨cur, (hty h1 (by decide)).trans h1, h2, h3⟩, fun j hj => absurd hj (by omega), fun j _ hj => ?_⟩
  · rw [setCell_heap hW.leaves, List.setIfInBounds_toArray]
  · have hl : ∀ {u : Value} {l : List Int}, LfVal W u l → LfVal (W.setCell ⟨Lb, i, none⟩ v) u l := fun hu => hu.kept fun c C fr hc => hty hc (by decide)
    by_cases hji : j = i
    · subst hji
      rw [List.getElem?_set_self (by rw [hW.vlen]; exact hi)] at hu
      cases hu
      rw [show (ls.set j l).getD j [] = l by simp [hi]]
      exact hl hv
    · rw [List.getElem?_set_ne (fun e => hji e.symm)] at hu
      rw [show (ls.set i l).getD j [] = ls.getD j [] by rw [List.getD_eq_getElem?_getD, List.getD_eq_getElem?_getD, List.getElem?_set_ne (fun e => hji e.symm)]]
      exact hl (hW.vpc j u hu)
  · obtain ⟨C, hC, _⟩ := id (hW.rows j hj).ty
    exact (hW.rows j hj).kept (hty hC (by decide))
theorem SetP.tree {w W : World} {ls : List (List Int)} {t Lb Rb Rc H : Nat} {vs vs' : List Value} {rb : Nat → Nat} {i : Nat} {l : List Int} (hT : TreeP w ls t Lb Rb Rc H vs rb) (h : SetP w ls (ls.set i l) t Lb Rb Rc H (H + 1) vs' rb W) : TreeP W (ls.set i l) t Lb Rb Rc H vs' rb := by
  obtain ⟨cur, h1, h2, h3⟩ := h.roots
  exact ⟨by rw [List.length_set]; exact h.top, h.leaves, by rw [List.length_set]; exact h.vlen, h.vpc, ⟨cur, h1, h2, fun j hj => by rw [rowsD_len_set]; exact h3 j hj⟩, fun j hj => h.new j (by omega) hj, hT.inj, by rw [rowsD_len_set]; exact hT.last, by rw [List.length_set]; exact hT.many, hT.high⟩
/-- bytes that were handed in are no slices of a tree -/
theorem TreeP.apart {W : World} {ls : List (List Int)} {t Lb Rb Rc H : Nat} {vs : List Value} {rb : Nat → Nat} (h : TreeP W ls t Lb Rb Rc H vs rb) {sp : Option Addr} {cap : Nat} {b : List Int} (hb : Byt W sp cap b) (i : Nat) (v : Value) : Byt (W.setCell ⟨Lb, i, none⟩ v) sp cap b := by
  have hs := byt_iff.1 hb
  refine byt_iff.2 ⟨hs.le, hs.max, hs.nul, fun h0 => ?_⟩
  obtain ⟨c, o, e, hl⟩ := hs.lies h0
  refine ⟨c, o, e, fun j u hu => ?_⟩
  have hc := hl j u hu
  have hcl : c ≠ Lb := by
    rintro rfl
    rw [cell_of_row _ _ _ _ _ _ h.leaves] at hc
    rw [List.getElem?_toArray] at hc
    obtain ⟨s, k, e2, _⟩ := h.vpc _ _ hc
    obtain ⟨x, _, hx⟩ := List.mem_map.1 (List.mem_of_getElem? hu)
    rw [← hx] at e2
    cases e2
  rw [cell_same (show (W.setCell ⟨Lb, i, none⟩ v).heap[c]? = W.heap[c]? by simp [World.setCell, Array.getElem?_modify, Ne.symm hcl])]
  exact hc
theorem cfLeafT (vs : Array Value) (W : World) : (callFunc 11 vs).run Tryd.prog W = .ok (.enter 11 vs) W := cf Tryd.func11 (by kernel_rfl) (by kernel_rfl) vs W
theorem cfPair (vs : Array Value) (W : World) : (callFunc 45 vs).run Tryd.prog W = .ok (.enter 45 vs) W := cf Tryd.func45 (by kernel_rfl) (by kernel_rfl) vs W
set_option maxRecDepth 100000 in
set_option maxHeartbeats 4000000 in
theorem set_any (w : World) (ls : List (List Int)) (t Lb Rb Rc H : Nat) (vs : List Value) (rb : Nat → Nat) (i : Nat) (s2 : Option Addr) (m c2 : Nat) (l : List Int) (hT : TreeP w ls t Lb Rb Rc H vs rb) (hi : i < ls.length) (he : Env w) (h2 : ∀ b, Wrt Lb H rb b → 2 ≤ b) (hlm : l.length = m) (hby : Byt w s2 c2 l) (hm9 : m ≤ 900000) :
    Calls Tryd.prog 25 #[.pointer (some ⟨t, 0, none⟩), .int .i64 i, .slice s2 m c2] w fun e w' => e = .returned (.int .i64 0) ∧ ∃ vs', TreeP w' (ls.set i l) t Lb Rb Rc H vs' rb ∧ Chg (Wrt Lb H rb) w w' := by
  have hmany := hT.many
  have hhigh := hT.high
  have HM2 := Lib.hid hlm
  have hvl := hT.vlen
  have HV9 := Lib.hid (fun W (hB : Below w.heap.size w W) => (⟨vs[i]'(by omega), by rw [cell_of_row _ _ _ _ _ _ (hT.below hB).leaves, List.getElem?_toArray, List.getElem?_eq_getElem (by omega)]⟩ : ∃ v9, W.cell? ⟨Lb, i, none⟩ = some v9))
  have HT := Lib.hid hT
  have HE := Lib.hid he
  have HW2 := Lib.hid h2
  have hr0 : (rowsD ls 0).length = ls.length := by show (ls.map leafD).length = _; rw [List.length_map]
  have HR0 : Hid (∀ W, SetP w ls (ls.set i l) t Lb Rb Rc H 0 (vs.set i (.slice none 0 0)) rb W → True) := fun _ _ => trivial
  clear HR0
  have HSet := Lib.hid (fun k => rowsD_set ls i l hi k)
  have HPl := Lib.hid (fun k => place_lt ls i hi k)
  have HLe := Lib.hid (fun k => rowsD_len_set ls i l k)
  have HLn := Lib.hid (fun k => rowsD_le ls k)
  obtain ⟨n, hn⟩ : ∃ n, ls.length = n := ⟨_, rfl⟩
  have HC0 := Lib.hid (fun W (h : TreeP W ls t Lb Rb Rc H vs rb) => (by rw [← hn]; exact h.c0 : W.cell? ⟨t, 0, none⟩ = some (.slice (some ⟨Lb, 0, none⟩) n n)))
  have HCk := Lib.hid (check_at w t i n n (some ⟨Lb, 0, none⟩) (HC0.out w hT) (by omega))
  have HCl := Lib.hid (fun W (hB : Below w.heap.size w W) => clone_any W s2 m c2 l hlm (hby.below hB) hm9)
  rw [hn] at hi hmany hr0
  have HN := Lib.hid hn
  clear hn hvl
  go_enter Tryd.func25, Tryd.ntmps25
  go_upto_region 4 with (go_at_call 44; refine HCk.out.mono ?_; rintro e w' ⟨rfl, rfl⟩)
  have hw : ∀ W, Below w.heap.size w W → TreeP W ls t Lb Rb Rc H vs rb := fun W h => HT.out.below h
  have hb : ∀ W, Below w.heap.size w W → Below w.heap.size w W := fun W h => h
  refine wp_region_spec (C := fun W => Below w.heap.size w W) (Le := fun w w' => Below w.heap.size w w') 8 (fun ix wz v => nwP l 6 [.pointer (some ⟨t, 0, none⟩), .pointer (some ⟨t, 0, none⟩), .pointer (some ⟨t, 0, none⟩), .slice (some ⟨Lb, 0, none⟩) n n, .int .i64 (i : Nat), .slice s2 m c2, undef, .pointer (some ⟨Lb, i, none⟩)] ix wz v) (by kernel_rfl) (by kernel_rfl) ⟨rfl, rfl, rfl, Nat.le_refl _, fun _ _ => rfl⟩ (fun j wa wb v hb h => nwP_le j wa wb v hb h) (fun ix v => ix = 6 ∨ v = ([.pointer (some ⟨t, 0, none⟩), .pointer (some ⟨t, 0, none⟩), .pointer (some ⟨t, 0, none⟩), .slice (some ⟨Lb, 0, none⟩) n n, .int .i64 (i : Nat), .slice s2 m c2, undef, .pointer (some ⟨Lb, i, none⟩)] : List Value).getD ix undef) (fun j wa v h => nwP_v j wa v h) (fun ix => ([.pointer (some ⟨t, 0, none⟩), .pointer (some ⟨t, 0, none⟩), .pointer (some ⟨t, 0, none⟩), .slice (some ⟨Lb, 0, none⟩) n n, .int .i64 (i : Nat), .slice s2 m c2, undef, .pointer (some ⟨Lb, i, none⟩)] : List Value).getD ix undef) (fun _ => .inr rfl) ?_ ?_
  · intro u hu
    have h0 : u 0 = .pointer (some ⟨t, 0, none⟩) := nw_eq (hu 0) (by decide)
    have h1 : u 1 = .pointer (some ⟨t, 0, none⟩) := nw_eq (hu 1) (by decide)
    have h2 : u 2 = .pointer (some ⟨t, 0, none⟩) := nw_eq (hu 2) (by decide)
    have h3 : u 3 = .slice (some ⟨Lb, 0, none⟩) n n := nw_eq (hu 3) (by decide)
    have h4 : u 4 = .int .i64 (i : Nat) := nw_eq (hu 4) (by decide)
    have h5 : u 5 = .slice s2 m c2 := nw_eq (hu 5) (by decide)
    have h7 : u 7 = .pointer (some ⟨Lb, i, none⟩) := nw_eq (hu 7) (by decide)
    clear hu
    simp only [List.take_succ_cons, List.take_zero]
    refine spec_cons (fun W hC hd => ⟨by rfl, ?_⟩) ?_
    · exact gives_val _ W (rfl) ⟨hC, Below.refl _ _, rfl⟩
    simp only [Act.put, List.setIfInBounds_toArray, List.set_cons_succ, List.set_cons_zero, Nat.reduceAdd]
    rw [h0]
    refine spec_cons (fun W hC hd => ⟨by rfl, ?_⟩) ?_
    · exact gives_val _ W (exec_nil (.tmp 16) rfl _ rfl) ⟨hC, Below.refl _ _, rfl⟩
    simp only [Act.put, List.setIfInBounds_toArray, List.set_cons_succ, List.set_cons_zero, Nat.reduceAdd]
    rw [h1]
    refine spec_cons (fun W hC hd => ⟨by rfl, ?_⟩) ?_
    · exact gives_val _ W (exec_tree0 (.tmp 17) rfl _ rfl) ⟨hC, Below.refl _ _, rfl⟩
    simp only [Act.put, List.setIfInBounds_toArray, List.set_cons_succ, List.set_cons_zero, Nat.reduceAdd]
    rw [h2]
    refine spec_cons (fun W hC hd => ⟨by rfl, ?_⟩) ?_
    · exact gives_val _ W (exec_load1 22 (.tmp 18) rfl ⟨t, 0, none⟩ rfl _ (HC0.out W (hw W hC)) _ Tryd.underlying22 rfl) ⟨hC, Below.refl _ _, rfl⟩
    simp only [Act.put, List.setIfInBounds_toArray, List.set_cons_succ, List.set_cons_zero, Nat.reduceAdd]
    rw [h3]
    refine spec_cons (fun W hC hd => ⟨by rfl, ?_⟩) ?_
    · exact gives_val _ W (rfl) ⟨hC, Below.refl _ _, rfl⟩
    simp only [Act.put, List.setIfInBounds_toArray, List.set_cons_succ, List.set_cons_zero, Nat.reduceAdd]
    rw [h4]
    refine spec_cons (fun W hC hd => ⟨by rfl, ?_⟩) ?_
    · exact gives_val _ W (rfl) ⟨hC, Below.refl _ _, rfl⟩
    simp only [Act.put, List.setIfInBounds_toArray, List.set_cons_succ, List.set_cons_zero, Nat.reduceAdd]
    rw [h5]
    refine spec_cons (fun W hC hd => ⟨by rfl, ?_⟩) ?_
    · exact gives_call _ _ (exec_call1 42 (.tmp 21) #[28] _ rfl rfl (cfClone _ _)) ((HCl.out W (hb W hC)).mono fun e W' h => by obtain ⟨v, e1, e2, e3⟩ := h; exact ⟨v, e1, hC.trans (e3.mono hC.size), e3, e2⟩)
    simp only [Act.put, List.setIfInBounds_toArray, List.set_cons_succ, List.set_cons_zero, Nat.reduceAdd]
    refine spec_cons (fun W hC hd => ⟨by rfl, ?_⟩) ?_
    · exact gives_val _ W (exec_pcT (.tmp 19) (.tmp 20) rfl Lb n n i rfl rfl hi) ⟨hC, Below.refl _ _, rfl⟩
    simp only [Act.put, List.setIfInBounds_toArray, List.set_cons_succ, List.set_cons_zero, Nat.reduceAdd]
    rw [h7]
    exact spec_nil
  · intro u W hu hC hF
    have h0 : u 0 = .pointer (some ⟨t, 0, none⟩) := nw_eq (hu 0) (by decide)
    have h1 : u 1 = .pointer (some ⟨t, 0, none⟩) := nw_eq (hu 1) (by decide)
    have h2 : u 2 = .pointer (some ⟨t, 0, none⟩) := nw_eq (hu 2) (by decide)
    have h3 : u 3 = .slice (some ⟨Lb, 0, none⟩) n n := nw_eq (hu 3) (by decide)
    have h4 : u 4 = .int .i64 (i : Nat) := nw_eq (hu 4) (by decide)
    have h5 : u 5 = .slice s2 m c2 := nw_eq (hu 5) (by decide)
    have h7 : u 7 = .pointer (some ⟨Lb, i, none⟩) := nw_eq (hu 7) (by decide)
    simp only [List.take_succ_cons, List.take_zero, List.drop_succ_cons, List.drop_zero, putAll, Act.put, List.setIfInBounds_toArray, List.set_cons_succ, List.set_cons_zero, Nat.reduceAdd]
    rw [h0, h1, h2, h3, h4, h5, h7]
    have hL : LfVal W (u 6) l := hF 6 (by omega)
    obtain ⟨v, hv⟩ : ∃ v, u 6 = v := ⟨_, rfl⟩
    rw [hv] at hL ⊢
    obtain ⟨s9, k9, e9, hL2⟩ := id hL
    rw [HM2.out] at e9
    subst e9
    clear hL2
    have H3 := Lib.hid (HT.out.leaf hC i (by rw [HN.out]; exact hi) l (.slice s9 m k9) hL)
    have HBy3 := Lib.hid ((HT.out.below hC).apart (hby.below hC) i (.slice s9 m k9))
    have hc9 := HV9.out W hC
    have hf9 : W.frozen? ⟨Lb, i, none⟩ = false := by simp [World.frozen?, (HT.out.below hC).leaves]
    obtain ⟨v9, hv9⟩ := hc9
    clear hu hF hv hL hw hb hC h0 h1 h2 h3 h4 h5 h7 HCl
    go_upto_region 5 with fail
    refine gen_world (Q := fun w => Code.wp _ _ _ _ w) _ (fun W => SetP w ls (ls.set i l) t Lb Rb Rc H 0 (vs.set i (.slice s9 m k9)) rb W ∧ Byt W s2 c2 l) ⟨H3.out, HBy3.out⟩ ?_
    rintro w3 ⟨h3, hby3⟩
    have HS3 := Lib.hid h3
    have HR0 := Lib.hid (fun W (h : SetP w ls (ls.set i l) t Lb Rb Rc H 0 (vs.set i (.slice s9 m k9)) rb W) => (by have := h.r 0 (by omega); rw [hr0] at this; exact this : W.cell? ⟨Rb, 0, none⟩ = some (.slice (some ⟨rb 0, 0, none⟩) n n)))
    have hl32 := leafD_length l
    have HLf := Lib.hid (fun W (hB : Below w3.heap.size w3 W) => leaf_any W s2 m c2 l HM2.out (hby3.below hB) ((HS3.out.later hB).env HE.out HW2.out) (by omega))
    have hse := HSet.out 0
    have hge : (rowsD (ls.set i l) 0).getD (i / 2 ^ 0) [] = leafD l := by
      show ((ls.set i l).map leafD).getD (i / 2 ^ 0) [] = _
      rw [Nat.pow_zero, Nat.div_one]
      simp [HN.out, hi]
    rw [hge, Nat.pow_zero, Nat.div_one] at hse
    obtain ⟨d, hd⟩ : ∃ d, leafD l = d := ⟨_, rfl⟩
    rw [hd] at hl32 HLf hse
    have HSe := Lib.hid hse
    clear hge hse hd h3 hby3 H3 HBy3 hf9 hv9
    have hw : ∀ W, Below w3.heap.size w3 W → SetP w ls (ls.set i l) t Lb Rb Rc H 0 (vs.set i (.slice s9 m k9)) rb W := fun W h => HS3.out.later h
    refine wp_region_quiet_tail (C := fun W => Below w3.heap.size w3 W) 10 (by kernel_rfl) (by kernel_rfl) ⟨rfl, rfl, rfl, Nat.le_refl _, fun _ _ => rfl⟩ ?_
    simp only [List.take_succ_cons, List.take_zero, List.drop_succ_cons, List.drop_zero]
    refine q_val _ rfl (fun _ _ => rfl) ?_
    simp only [Act.put, List.setIfInBounds_toArray, List.set_cons_succ, List.set_cons_zero]
    refine q_val (.pointer (some ⟨t, 0, none⟩)) rfl (fun _ _ => exec_nil (.tmp 24) rfl _ rfl) ?_
    simp only [Act.put, List.setIfInBounds_toArray, List.set_cons_succ, List.set_cons_zero]
    refine q_val (.pointer (some ⟨t, 1, none⟩)) rfl (fun _ _ => exec_tree1 (.tmp 25) rfl _ rfl) ?_
    simp only [Act.put, List.setIfInBounds_toArray, List.set_cons_succ, List.set_cons_zero]
    refine q_val (.slice (some ⟨Rb, 0, none⟩) (H + 1) Rc) rfl (fun W hW => exec_load1 73 (.tmp 26) rfl ⟨t, 1, none⟩ rfl _ ((hw W hW).c1) _ Tryd.underlying73 rfl) ?_
    simp only [Act.put, List.setIfInBounds_toArray, List.set_cons_succ, List.set_cons_zero]
    refine q_val (.pointer (some ⟨Rb, 0, none⟩)) rfl (fun _ _ => exec_ddAt (.tmp 27) (.const (.int .i64 0)) rfl Rb (H + 1) Rc 0 rfl rfl (by omega)) ?_
    simp only [Act.put, List.setIfInBounds_toArray, List.set_cons_succ, List.set_cons_zero]
    refine q_val (.slice (some ⟨rb 0, 0, none⟩) n n) rfl (fun W hW => exec_load1 33 (.tmp 28) rfl ⟨Rb, 0, none⟩ rfl _ (HR0.out W (hw W hW)) _ Tryd.underlying33 rfl) ?_
    simp only [Act.put, List.setIfInBounds_toArray, List.set_cons_succ, List.set_cons_zero]
    refine q_val _ rfl (fun _ _ => rfl) ?_
    simp only [Act.put, List.setIfInBounds_toArray, List.set_cons_succ, List.set_cons_zero]
    refine q_val _ rfl (fun _ _ => rfl) ?_
    simp only [Act.put, List.setIfInBounds_toArray, List.set_cons_succ, List.set_cons_zero]
    refine q_call 11 #[.slice s2 m c2] (.agg (rowB d)) rfl (fun _ _ => exec_call1 11 (.tmp 31) #[28] _ rfl rfl (cfLeafT _ _)) (fun W hW => (HLf.out W hW).mono fun e W' h => ⟨h.1, hW.trans (h.2.mono hW.size)⟩) ?_
    simp only [Act.put, List.setIfInBounds_toArray, List.set_cons_succ, List.set_cons_zero]
    refine q_val (.pointer (some ⟨rb 0, 0 + 32 * i, none⟩)) rfl (fun _ _ => exec_dig_at (.tmp 29) (.tmp 30) rfl (rb 0) 0 n n i rfl rfl hi) ?_
    simp only [Act.put, List.setIfInBounds_toArray, List.set_cons_succ, List.set_cons_zero]
    refine wpQuiet_nil ?_
    intro w4 hw4
    have HS4 := Lib.hid (HS3.out.later hw4)
    have hsz : (rowB d).size = 32 := by rw [rowB_size, hl32]
    have e0 : 0 + 32 * i = 32 * i := Nat.zero_add _
    have hid := row_dig hl32
    have HR1 := Lib.hid (HS4.out.row (by omega) HT.out.inj i (by rw [hr0]; exact hi) d hl32 HSe.out)
    have hth := (HS4.out.old 0 (Nat.le_refl _) (by omega)).there i (by rw [hr0]; exact hi)
    clear hw4 hw HLf HS3 HR0
    go_upto_region 6 with (refine wpList_store_mid rfl 24 (.tmp 33) (.tmp 32) rfl (rb 0) (0 + 32 * i) (rowB d) rfl rfl (by rw [e0, hsz]; exact hth) hid (rowB_one d) ?_)
    refine gen_world (Q := fun w => Code.wp _ _ _ _ w) _ (SetP w ls (ls.set i l) t Lb Rb Rc H 1 (vs.set i (.slice s9 m k9)) rb) (by rw [e0]; exact HR1.out) ?_
    intro w5 h5
    have HS5 := Lib.hid h5
    clear h5 hth HR1 HS4
    go_wp2
    go_loopw [8] (fun hh wr => ∃ q : Nat, hh = .int .i64 q ∧ 1 ≤ q ∧ q ≤ H + 1 ∧ SetP w ls (ls.set i l) t Lb Rb Rc H q (vs.set i (.slice s9 m k9)) rb wr) (fun hh _ => H + 2 - (intOf hh).toNat)
    case atStart => exact ⟨1, rfl, by omega, by omega, HS5.out⟩
    case round =>
      clear HS5
      obtain ⟨q, rfl, hq1, hqH, hs⟩ := hrel
      have HS6 := Lib.hid hs
      have hc1 := hs.c1
      clear hs
      by_cases hlt : q < H + 1
      · have d1 : decide ((q : Int) < ((H + 1 : Nat) : Int)) = true := decide_eq_true (by omega)
        have d1' : decide (q < H + 1) = true := decide_eq_true (by omega)
        have d1'' : decide (q ≤ H) = true := decide_eq_true (by omega)
        obtain ⟨k, hk⟩ : ∃ k, k + 1 = q := ⟨q - 1, by omega⟩
        have es := fun W => run_less1 k (by omega) W
        rw [hk] at es
        have hpl := HPl.out q
        have hse := HSet.out q
        obtain ⟨p, hp⟩ : ∃ p, i / 2 ^ q = p := ⟨_, rfl⟩
        have ep : (i : Int) / 2 ^ q = (p : Int) := by rw [shr_nat, hp]
        rw [hp] at hpl hse
        have eab : ∀ ls : List (List Int), rowsD ls q = above nodeD (rowsD ls k) := fun ls => by rw [← hk]; rfl
        have hx32 : ((rowsD (ls.set i l) q).getD p []).length = 32 := rowsD_all _ q _ (getD_mem _ p (by rw [HLe.out]; exact hpl))
        have hla : (rowsD ls q).length = ((rowsD ls k).length + 1) / 2 := by rw [eab, above_len]
        have hLk := HLn.out k
        rw [HN.out] at hLk
        have HRa := Lib.hid (fun W (h : SetP w ls (ls.set i l) t Lb Rb Rc H q (vs.set i (.slice s9 m k9)) rb W) => h.r q (by omega))
        have HRk := Lib.hid (fun W (h : SetP w ls (ls.set i l) t Lb Rb Rc H q (vs.set i (.slice s9 m k9)) rb W) => h.r k (by omega))
        have hgx : (rowsD (ls.set i l) q).getD p [] = pairD nodeD (rowsD (ls.set i l) k) p := by
          rw [eab]
          exact above_at nodeD _ p (by rw [HLe.out, ← hla]; exact hpl)
        have hlk' := HLe.out k
        obtain ⟨La, hLa⟩ : ∃ L, (rowsD ls q).length = L := ⟨_, rfl⟩
        obtain ⟨Lk, hLke⟩ : ∃ L, (rowsD ls k).length = L := ⟨_, rfl⟩
        rw [hLa] at hpl hla HRa
        rw [hLke] at hla HRk hLk hlk'
        have HPr := Lib.hid (fun W (h : SetP w ls (ls.set i l) t Lb Rb Rc H q (vs.set i (.slice s9 m k9)) rb W) => pair_any W (rb k) Lk p (rowsD (ls.set i l) k) hlk' (h.new k (by omega) (by omega)) (by omega) (h.env HE.out HW2.out) (by omega))
        rw [← hgx] at HPr
        obtain ⟨x, hx⟩ : ∃ x, (rowsD (ls.set i l) q).getD p [] = x := ⟨_, rfl⟩
        rw [hx] at HPr hx32 hse
        have HSe2 := Lib.hid hse
        have HLa := Lib.hid hLa
        have hpa : p < La := hpl
        clear hse hgx hx eab hlk' hLke hLa hp
        go_upto_region 10 with fail
        have hw : ∀ W, Below wr.heap.size wr W → SetP w ls (ls.set i l) t Lb Rb Rc H q (vs.set i (.slice s9 m k9)) rb W := fun W h => HS6.out.later h
        refine wp_region_quiet_tail (C := fun W => Below wr.heap.size wr W) 19 (by kernel_rfl) (by kernel_rfl) ⟨rfl, rfl, rfl, Nat.le_refl _, fun _ _ => rfl⟩ ?_
        simp only [List.take_succ_cons, List.take_zero, List.drop_succ_cons, List.drop_zero]
        refine q_val _ rfl (fun _ _ => rfl) ?_
        simp only [Act.put, List.setIfInBounds_toArray, List.set_cons_succ, List.set_cons_zero]
        refine q_val (.pointer (some ⟨t, 0, none⟩)) rfl (fun _ _ => exec_nil (.tmp 46) rfl _ rfl) ?_
        simp only [Act.put, List.setIfInBounds_toArray, List.set_cons_succ, List.set_cons_zero]
        refine q_val (.pointer (some ⟨t, 1, none⟩)) rfl (fun _ _ => exec_tree1 (.tmp 47) rfl _ rfl) ?_
        simp only [Act.put, List.setIfInBounds_toArray, List.set_cons_succ, List.set_cons_zero]
        refine q_val (.slice (some ⟨Rb, 0, none⟩) (H + 1) Rc) rfl (fun W hW => exec_load1 73 (.tmp 48) rfl ⟨t, 1, none⟩ rfl _ ((hw W hW).c1) _ Tryd.underlying73 rfl) ?_
        simp only [Act.put, List.setIfInBounds_toArray, List.set_cons_succ, List.set_cons_zero]
        refine q_val _ rfl (fun _ _ => rfl) ?_
        simp only [Act.put, List.setIfInBounds_toArray, List.set_cons_succ, List.set_cons_zero]
        refine q_val (.pointer (some ⟨Rb, q, none⟩)) rfl (fun _ _ => exec_ddAt (.tmp 49) (.tmp 50) rfl Rb (H + 1) Rc (q) rfl rfl (by omega)) ?_
        simp only [Act.put, List.setIfInBounds_toArray, List.set_cons_succ, List.set_cons_zero]
        refine q_val (.slice (some ⟨rb (q), 0, none⟩) La La) rfl (fun W hW => exec_load1 33 (.tmp 51) rfl ⟨Rb, q, none⟩ rfl _ (HRa.out W (hw W hW)) _ Tryd.underlying33 rfl) ?_
        simp only [Act.put, List.setIfInBounds_toArray, List.set_cons_succ, List.set_cons_zero]
        refine q_val _ rfl (fun _ _ => rfl) ?_
        simp only [Act.put, List.setIfInBounds_toArray, List.set_cons_succ, List.set_cons_zero]
        refine q_val _ rfl (fun _ _ => rfl) ?_
        simp only [Act.put, List.setIfInBounds_toArray, List.set_cons_succ, List.set_cons_zero]
        refine q_val (.pointer (some ⟨t, 0, none⟩)) rfl (fun _ _ => exec_nil (.tmp 54) rfl _ rfl) ?_
        simp only [Act.put, List.setIfInBounds_toArray, List.set_cons_succ, List.set_cons_zero]
        refine q_val (.pointer (some ⟨t, 1, none⟩)) rfl (fun _ _ => exec_tree1 (.tmp 55) rfl _ rfl) ?_
        simp only [Act.put, List.setIfInBounds_toArray, List.set_cons_succ, List.set_cons_zero]
        refine q_val (.slice (some ⟨Rb, 0, none⟩) (H + 1) Rc) rfl (fun W hW => exec_load1 73 (.tmp 56) rfl ⟨t, 1, none⟩ rfl _ ((hw W hW).c1) _ Tryd.underlying73 rfl) ?_
        simp only [Act.put, List.setIfInBounds_toArray, List.set_cons_succ, List.set_cons_zero]
        refine q_val _ rfl (fun _ _ => rfl) ?_
        simp only [Act.put, List.setIfInBounds_toArray, List.set_cons_succ, List.set_cons_zero]
        refine q_val (.int .i64 (k : Int)) rfl (fun W _ => exec_bin .sub (.tmp 58) (.const (.int .i64 1)) rfl rfl _ _ _ rfl rfl (es W)) ?_
        simp only [Act.put, List.setIfInBounds_toArray, List.set_cons_succ, List.set_cons_zero]
        refine q_val (.pointer (some ⟨Rb, k, none⟩)) rfl (fun _ _ => exec_ddAt (.tmp 57) (.tmp 59) rfl Rb (H + 1) Rc k rfl rfl (by omega)) ?_
        simp only [Act.put, List.setIfInBounds_toArray, List.set_cons_succ, List.set_cons_zero]
        refine q_val (.slice (some ⟨rb k, 0, none⟩) Lk Lk) rfl (fun W hW => exec_load1 33 (.tmp 60) rfl ⟨Rb, k, none⟩ rfl _ (HRk.out W (hw W hW)) _ Tryd.underlying33 rfl) ?_
        simp only [Act.put, List.setIfInBounds_toArray, List.set_cons_succ, List.set_cons_zero]
        refine q_val _ rfl (fun _ _ => rfl) ?_
        simp only [Act.put, List.setIfInBounds_toArray, List.set_cons_succ, List.set_cons_zero]
        refine q_call 45 #[.slice (some ⟨rb k, 0, none⟩) Lk Lk, .int .i64 (p : Int)] (.agg (rowB x)) rfl (fun _ _ => exec_call2 45 (.tmp 61) (.tmp 62) #[33, 3] _ _ rfl rfl rfl (cfPair _ _)) (fun W hW => (HPr.out W (hw W hW)).mono fun e W' h => ⟨h.1, hW.trans (h.2.mono hW.size)⟩) ?_
        simp only [Act.put, List.setIfInBounds_toArray, List.set_cons_succ, List.set_cons_zero]
        refine q_val (.pointer (some ⟨rb (q), 0 + 32 * p, none⟩)) rfl (fun _ _ => exec_dig_at (.tmp 52) (.tmp 53) rfl (rb (q)) 0 La La p rfl rfl hpa) ?_
        simp only [Act.put, List.setIfInBounds_toArray, List.set_cons_succ, List.set_cons_zero]
        refine wpQuiet_nil ?_
        intro w7 hw7
        have HS7 := Lib.hid (HS6.out.later hw7)
        have hsz2 : (rowB x).size = 32 := by rw [rowB_size, hx32]
        have e02 : 0 + 32 * p = 32 * p := Nat.zero_add _
        have hid2 := row_dig hx32
        have HR2 := Lib.hid (HS7.out.row (by omega) HT.out.inj p (by rw [HLa.out]; exact hpa) x hx32 HSe2.out)
        have hth2 := (HS7.out.old q (Nat.le_refl _) (by omega)).there p (by rw [HLa.out]; exact hpa)
        clear hw7 hw HPr HRa HRk HS6 hc1
        go_wp2_with (refine wpList_store_mid rfl 24 (.tmp 64) (.tmp 63) rfl (rb q) (0 + 32 * p) (rowB x) rfl rfl (by rw [e02, hsz2]; exact hth2) hid2 (rowB_one x) ?_)
        go_roundw
        case rel => exact ⟨q + 1, by go_num, by omega, by omega, HR2.out⟩
        case measure => simp [intOf]; omega
      · obtain rfl : q = H + 1 := by omega
        have d1 : decide (((H + 1 : Nat) : Int) < ((H + 1 : Nat) : Int)) = false := decide_eq_false (by omega)
        have d1' : decide (H + 1 < H + 1) = false := decide_eq_false (by omega)
        go_wp2
        go_ret
        exact ⟨rfl, _, SetP.tree HT.out HS6.out, HS6.out.chg⟩
end Go.Proofs.YtighmhoekbnagaaDoor
