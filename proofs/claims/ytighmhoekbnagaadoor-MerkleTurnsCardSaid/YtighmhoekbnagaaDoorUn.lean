import Derived.Test.YtighmhoekbnagaaDoorTj
import Derived.Test.YtighmhoekbnagaaDoorEv
import Derived.Deep.Slices
import Derived.Deep.Fields
import Derived.ChangeSame
import Derived.Deep.DeepCutAuto
import Derived.BigQuiet
import Derived.Lib.SmallJoins
import Derived.ChangeMaps5
namespace Go.Proofs.YtighmhoekbnagaaDoor
open Go.ChangeShapes Go.WideShapes Go.ChangeAt Go.RowKit

/-! ### Set once more, with where the leaf's copy lies; Get; calls out of range -/
/-- a slice in a block from B on, or none -/
def Fresh (B : Nat) (v : Value) : Prop := ∀ c o n cap, v = .slice (some ⟨c, o, none⟩) n cap → B ≤ c
set_option maxRecDepth 100000 in
set_option maxHeartbeats 4000000 in
theorem clone_own (w : World) (sp : Option Addr) (n cap : Nat) (l : List Int) (hn : l.length = n) (hb : Byt w sp cap l) (hs : n ≤ 900000) :
    Calls Tryd.prog 42 #[.slice sp n cap] w fun e w' => ∃ v, e = .returned v ∧ (LfVal w' v l ∧ Fresh w.heap.size v) ∧ Below w.heap.size w w' := by
  cases sp with
  | none =>
    have h0 := hb.nul rfl
    have hle := hb.by_.le
    obtain rfl : n = 0 := by omega
    subst h0
    obtain rfl : l = [] := List.eq_nil_of_length_eq_zero hn
    clear hb hn hle
    have hnil : ∀ W : World, (binOp .eql 28 (.slice none 0 0) (.slice none 0 0)).run Tryd.prog W = .ok (.bool true) W := fun _ => rfl
    go_enter Tryd.func42, Tryd.ntmps42
    go_wp2
    go_ret
    exact ⟨_, rfl, ⟨⟨none, 0, rfl, Byt.nil w, fun _ _ h => by cases h⟩, fun _ _ _ _ h => by cases h⟩, Below.refl _ _⟩
  | some ad =>
    have HN := Lib.hid hn
    clear hn
    have hnil : ∀ W : World, (binOp .eql 28 (.slice (some ad) n cap) (.slice none 0 0)).run Tryd.prog W = .ok (.bool false) W := fun _ => rfl
    go_enter Tryd.func42, Tryd.ntmps42
    have HS := Lib.hid ((byt_iff.1 hb).below (Nat.le_refl _) ((Below.refl _ w).alloc (Nat.le_refl _) (.cells #[] 5)))
    clear hb
    go_upto_region 3 with fail
    go_wp2_with (refine wpList_append_sl 28 5 1 (.int .u8 0) Tryd.underlying28 info5 rfl (by decide) rfl (.tmp 5) (.tmp 6) rfl w.heap.size (.slice (some ⟨w.heap.size, 0, none⟩) 0 0) 0 n [] (l.map (Value.int .u8)) rfl (World.ownsRow_lit w #[] 0 (Nat.le_refl _) (by unfold maxLen; omega) rfl) (some ad) cap rfl (by simpa using HN.out) HS.out (fun v hv => by obtain ⟨x, _, rfl⟩ := List.mem_map.1 hv; rfl) (by omega) (by simp) ?_; intro v' w1 hown hg; have HO := Lib.hid hown; have HG := Lib.hid hg; clear hown hg)
    go_ret
    have ho : w1.ownsRow w.heap.size 5 1 v' (0 + n) (l.map (Value.int .u8)) := HO.out
    have hB : Below w.heap.size w w1 := ((Below.refl _ w).alloc (Nat.le_refl _) _).trans (Below.ofGrown HG.out (by simp) (fun k e => by simp [Value.ownBlock] at e; omega))
    refine ⟨v', rfl, ?_, hB⟩
    rw [Nat.zero_add] at ho
    obtain ⟨sp', cap', e1, h2, h3⟩ := own_bytT ho
    refine ⟨⟨sp', cap', by rw [e1, h2], h3, fun c o e => ?_⟩, fun c o k q e => (ho.lt c (by rw [e]; rfl)).1⟩
    subst e
    rcases ho.2 with ⟨e2, _⟩ | ⟨g, cp, cur, e2, _, hgb, _⟩
    · rw [e1] at e2; cases e2
    · rw [e1] at e2
      cases e2
      exact ⟨cur, (0, 0), hgb⟩
/-- what the drawn region of Set tells -/
def nwQ (B : Nat) (l : List Int) (p : Nat) (X : List Value) (j : Nat) (w : World) (v : Value) : Prop := if j = p then LfVal w v l ∧ Fresh B v else v = X.getD j undef
theorem nwQ_le {B : Nat} {l : List Int} {p : Nat} {X : List Value} (j : Nat) (w w' : World) (v : Value) (hb : Below w.heap.size w w') (h : nwQ B l p X j w v) : nwQ B l p X j w' v := by
  unfold nwQ at *
  split
  · rename_i hj; rw [if_pos hj] at h; exact ⟨h.1.below hb, h.2⟩
  · rename_i hj; rw [if_neg hj] at h; exact h
theorem nwQ_v {B : Nat} {l : List Int} {p : Nat} {X : List Value} (j : Nat) (w : World) (v : Value) (h : nwQ B l p X j w v) : j = p ∨ v = X.getD j undef := by
  unfold nwQ at h
  split at h
  · exact .inl ‹_›
  · exact .inr h
set_option maxRecDepth 100000 in
set_option maxHeartbeats 4000000 in
theorem set_own (w : World) (ls : List (List Int)) (t Lb Rb Rc H : Nat) (vs : List Value) (rb : Nat → Nat) (i : Nat) (s2 : Option Addr) (m c2 : Nat) (l : List Int) (hT : TreeP w ls t Lb Rb Rc H vs rb) (hi : i < ls.length) (he : Env w) (h2 : ∀ b, Wrt Lb H rb b → 2 ≤ b) (hlm : l.length = m) (hby : Byt w s2 c2 l) (hm9 : m ≤ 900000) :
    Calls Tryd.prog 25 #[.pointer (some ⟨t, 0, none⟩), .int .i64 i, .slice s2 m c2] w fun e w' => e = .returned (.int .i64 0) ∧ ∃ v', TreeP w' (ls.set i l) t Lb Rb Rc H (vs.set i v') rb ∧ Fresh w.heap.size v' ∧ Chg (Wrt Lb H rb) w w' := by
  have hmany := hT.many
  have hhigh := hT.high
  have HM2 := Lib.hid hlm
  have hvl := hT.vlen
  have HV9 := Lib.hid (fun W (hB : Below w.heap.size w W) => (⟨vs[i]'(by omega), by rw [cell_of_row _ _ _ _ _ _ (hT.below hB).leaves, List.getElem?_toArray, List.getElem?_eq_getElem (by omega)]⟩ : ∃ v9, W.cell? ⟨Lb, i, none⟩ = some v9))
  have HT := Lib.hid hT
  have HE := Lib.hid he
  have HW2 := Lib.hid h2
  have hr0 : (rowsD ls 0).length = ls.length := by show (ls.map leafD).length = _; rw [List.length_map]
  have HR0 : Hid (∀ W, SetP w ls (ls.set i l) t Lb Rb Rc H 0 (vs.set i (.slice none 0 0)) rb W → True) := fun _ _ => trivial
  clear HR0
  have HSet := Lib.hid (fun k => rowsD_set ls i l hi k)
  have HPl := Lib.hid (fun k => place_lt ls i hi k)
  have HLe := Lib.hid (fun k => rowsD_len_set ls i l k)
  have HLn := Lib.hid (fun k => rowsD_le ls k)
  obtain ⟨n, hn⟩ : ∃ n, ls.length = n := ⟨_, rfl⟩
  have HC0 := Lib.hid (fun W (h : TreeP W ls t Lb Rb Rc H vs rb) => (by rw [← hn]; exact h.c0 : W.cell? ⟨t, 0, none⟩ = some (.slice (some ⟨Lb, 0, none⟩) n n)))
  have HCk := Lib.hid (check_at w t i n n (some ⟨Lb, 0, none⟩) (HC0.out w hT) (by omega))
  have HCl := Lib.hid (fun W (hB : Below w.heap.size w W) => (clone_own W s2 m c2 l hlm (hby.below hB) hm9).mono (fun e W' (h : ∃ v, e = .returned v ∧ (LfVal W' v l ∧ Fresh W.heap.size v) ∧ Below W.heap.size W W') => (by obtain ⟨v, h1, h2, h3⟩ := h; exact ⟨v, h1, ⟨h2.1, fun c o q k e => Nat.le_trans hB.size (h2.2 c o q k e)⟩, h3⟩ : ∃ v, e = .returned v ∧ (LfVal W' v l ∧ Fresh w.heap.size v) ∧ Below W.heap.size W W')))
  rw [hn] at hi hmany hr0
  have HN := Lib.hid hn
  clear hn hvl
  go_enter Tryd.func25, Tryd.ntmps25
  go_upto_region 4 with (go_at_call 44; refine HCk.out.mono ?_; rintro e w' ⟨rfl, rfl⟩)
  have hw : ∀ W, Below w.heap.size w W → TreeP W ls t Lb Rb Rc H vs rb := fun W h => HT.out.below h
  have hb : ∀ W, Below w.heap.size w W → Below w.heap.size w W := fun W h => h
  refine wp_region_spec (C := fun W => Below w.heap.size w W) (Le := fun w w' => Below w.heap.size w w') 8 (fun ix wz v => nwQ w.heap.size l 6 [.pointer (some ⟨t, 0, none⟩), .pointer (some ⟨t, 0, none⟩), .pointer (some ⟨t, 0, none⟩), .slice (some ⟨Lb, 0, none⟩) n n, .int .i64 (i : Nat), .slice s2 m c2, undef, .pointer (some ⟨Lb, i, none⟩)] ix wz v) (by kernel_rfl) (by kernel_rfl) ⟨rfl, rfl, rfl, Nat.le_refl _, fun _ _ => rfl⟩ (fun j wa wb v hb h => nwQ_le j wa wb v hb h) (fun ix v => ix = 6 ∨ v = ([.pointer (some ⟨t, 0, none⟩), .pointer (some ⟨t, 0, none⟩), .pointer (some ⟨t, 0, none⟩), .slice (some ⟨Lb, 0, none⟩) n n, .int .i64 (i : Nat), .slice s2 m c2, undef, .pointer (some ⟨Lb, i, none⟩)] : List Value).getD ix undef) (fun j wa v h => nwQ_v j wa v h) (fun ix => ([.pointer (some ⟨t, 0, none⟩), .pointer (some ⟨t, 0, none⟩), .pointer (some ⟨t, 0, none⟩), .slice (some ⟨Lb, 0, none⟩) n n, .int .i64 (i : Nat), .slice s2 m c2, undef, .pointer (some ⟨Lb, i, none⟩)] : List Value).getD ix undef) (fun _ => .inr rfl) ?_ ?_
  · intro u hu
    have h0 : u 0 = .pointer (some ⟨t, 0, none⟩) := nw_eq (hu 0) (by decide)
    have h1 : u 1 = .pointer (some ⟨t, 0, none⟩) := nw_eq (hu 1) (by decide)
    have h2 : u 2 = .pointer (some ⟨t, 0, none⟩) := nw_eq (hu 2) (by decide)
    have h3 : u 3 = .slice (some ⟨Lb, 0, none⟩) n n := nw_eq (hu 3) (by decide)
    have h4 : u 4 = .int .i64 (i : Nat) := nw_eq (hu 4) (by decide)
    have h5 : u 5 = .slice s2 m c2 := nw_eq (hu 5) (by decide)
    have h7 : u 7 = .pointer (some ⟨Lb, i, none⟩) := nw_eq (hu 7) (by decide)
    clear hu
    simp only [List.take_succ_cons, List.take_zero]
    refine spec_cons (fun W hC hd => ⟨by rfl, ?_⟩) ?_
    · exact gives_val _ W (rfl) ⟨hC, Below.refl _ _, rfl⟩
    simp only [Act.put, List.setIfInBounds_toArray, List.set_cons_succ, List.set_cons_zero, Nat.reduceAdd]
    rw [h0]
    refine spec_cons (fun W hC hd => ⟨by rfl, ?_⟩) ?_
    · exact gives_val _ W (exec_nil (.tmp 16) rfl _ rfl) ⟨hC, Below.refl _ _, rfl⟩
    simp only [Act.put, List.setIfInBounds_toArray, List.set_cons_succ, List.set_cons_zero, Nat.reduceAdd]
    rw [h1]
    refine spec_cons (fun W hC hd => ⟨by rfl, ?_⟩) ?_
    · exact gives_val _ W (exec_tree0 (.tmp 17) rfl _ rfl) ⟨hC, Below.refl _ _, rfl⟩
    simp only [Act.put, List.setIfInBounds_toArray, List.set_cons_succ, List.set_cons_zero, Nat.reduceAdd]
    rw [h2]
    refine spec_cons (fun W hC hd => ⟨by rfl, ?_⟩) ?_
    · exact gives_val _ W (exec_load1 22 (.tmp 18) rfl ⟨t, 0, none⟩ rfl _ (HC0.out W (hw W hC)) _ Tryd.underlying22 rfl) ⟨hC, Below.refl _ _, rfl⟩
    simp only [Act.put, List.setIfInBounds_toArray, List.set_cons_succ, List.set_cons_zero, Nat.reduceAdd]
    rw [h3]
    refine spec_cons (fun W hC hd => ⟨by rfl, ?_⟩) ?_
    · exact gives_val _ W (rfl) ⟨hC, Below.refl _ _, rfl⟩
    simp only [Act.put, List.setIfInBounds_toArray, List.set_cons_succ, List.set_cons_zero, Nat.reduceAdd]
    rw [h4]
    refine spec_cons (fun W hC hd => ⟨by rfl, ?_⟩) ?_
    · exact gives_val _ W (rfl) ⟨hC, Below.refl _ _, rfl⟩
    simp only [Act.put, List.setIfInBounds_toArray, List.set_cons_succ, List.set_cons_zero, Nat.reduceAdd]
    rw [h5]
    refine spec_cons (fun W hC hd => ⟨by rfl, ?_⟩) ?_
    · exact gives_call _ _ (exec_call1 42 (.tmp 21) #[28] _ rfl rfl (cfClone _ _)) ((HCl.out W (hb W hC)).mono fun e W' h => by obtain ⟨v, e1, e2, e3⟩ := h; exact ⟨v, e1, hC.trans (e3.mono hC.size), e3, e2⟩)
    simp only [Act.put, List.setIfInBounds_toArray, List.set_cons_succ, List.set_cons_zero, Nat.reduceAdd]
    refine spec_cons (fun W hC hd => ⟨by rfl, ?_⟩) ?_
    · exact gives_val _ W (exec_pcT (.tmp 19) (.tmp 20) rfl Lb n n i rfl rfl hi) ⟨hC, Below.refl _ _, rfl⟩
    simp only [Act.put, List.setIfInBounds_toArray, List.set_cons_succ, List.set_cons_zero, Nat.reduceAdd]
    rw [h7]
    exact spec_nil
  · intro u W hu hC hF
    have h0 : u 0 = .pointer (some ⟨t, 0, none⟩) := nw_eq (hu 0) (by decide)
    have h1 : u 1 = .pointer (some ⟨t, 0, none⟩) := nw_eq (hu 1) (by decide)
    have h2 : u 2 = .pointer (some ⟨t, 0, none⟩) := nw_eq (hu 2) (by decide)
    have h3 : u 3 = .slice (some ⟨Lb, 0, none⟩) n n := nw_eq (hu 3) (by decide)
    have h4 : u 4 = .int .i64 (i : Nat) := nw_eq (hu 4) (by decide)
    have h5 : u 5 = .slice s2 m c2 := nw_eq (hu 5) (by decide)
    have h7 : u 7 = .pointer (some ⟨Lb, i, none⟩) := nw_eq (hu 7) (by decide)
    simp only [List.take_succ_cons, List.take_zero, List.drop_succ_cons, List.drop_zero, putAll, Act.put, List.setIfInBounds_toArray, List.set_cons_succ, List.set_cons_zero, Nat.reduceAdd]
    rw [h0, h1, h2, h3, h4, h5, h7]
    have hLF : LfVal W (u 6) l ∧ Fresh w.heap.size (u 6) := hF 6 (by omega)
    have hL := hLF.1
    have hFr := hLF.2
    clear hLF
    obtain ⟨v, hv⟩ : ∃ v, u 6 = v := ⟨_, rfl⟩
    rw [hv] at hL hFr ⊢
    obtain ⟨s9, k9, e9, hL2⟩ := id hL
    rw [HM2.out] at e9
    subst e9
    clear hL2
    have HFr := Lib.hid hFr
    clear hFr
    have H3 := Lib.hid (HT.out.leaf hC i (by rw [HN.out]; exact hi) l (.slice s9 m k9) hL)
    have HBy3 := Lib.hid ((HT.out.below hC).apart (hby.below hC) i (.slice s9 m k9))
    have hc9 := HV9.out W hC
    have hf9 : W.frozen? ⟨Lb, i, none⟩ = false := by simp [World.frozen?, (HT.out.below hC).leaves]
    obtain ⟨v9, hv9⟩ := hc9
    clear hu hF hv hL hw hb hC h0 h1 h2 h3 h4 h5 h7 HCl
    go_upto_region 5 with fail
    refine gen_world (Q := fun w => Code.wp _ _ _ _ w) _ (fun W => SetP w ls (ls.set i l) t Lb Rb Rc H 0 (vs.set i (.slice s9 m k9)) rb W ∧ Byt W s2 c2 l) ⟨H3.out, HBy3.out⟩ ?_
    rintro w3 ⟨h3, hby3⟩
    have HS3 := Lib.hid h3
    have HR0 := Lib.hid (fun W (h : SetP w ls (ls.set i l) t Lb Rb Rc H 0 (vs.set i (.slice s9 m k9)) rb W) => (by have := h.r 0 (by omega); rw [hr0] at this; exact this : W.cell? ⟨Rb, 0, none⟩ = some (.slice (some ⟨rb 0, 0, none⟩) n n)))
    have hl32 := leafD_length l
    have HLf := Lib.hid (fun W (hB : Below w3.heap.size w3 W) => leaf_any W s2 m c2 l HM2.out (hby3.below hB) ((HS3.out.later hB).env HE.out HW2.out) (by omega))
    have hse := HSet.out 0
    have hge : (rowsD (ls.set i l) 0).getD (i / 2 ^ 0) [] = leafD l := by
      show ((ls.set i l).map leafD).getD (i / 2 ^ 0) [] = _
      rw [Nat.pow_zero, Nat.div_one]
      simp [HN.out, hi]
    rw [hge, Nat.pow_zero, Nat.div_one] at hse
    obtain ⟨d, hd⟩ : ∃ d, leafD l = d := ⟨_, rfl⟩
    rw [hd] at hl32 HLf hse
    have HSe := Lib.hid hse
    clear hge hse hd h3 hby3 H3 HBy3 hf9 hv9
    have hw : ∀ W, Below w3.heap.size w3 W → SetP w ls (ls.set i l) t Lb Rb Rc H 0 (vs.set i (.slice s9 m k9)) rb W := fun W h => HS3.out.later h
    refine wp_region_quiet_tail (C := fun W => Below w3.heap.size w3 W) 10 (by kernel_rfl) (by kernel_rfl) ⟨rfl, rfl, rfl, Nat.le_refl _, fun _ _ => rfl⟩ ?_
    simp only [List.take_succ_cons, List.take_zero, List.drop_succ_cons, List.drop_zero]
    refine q_val _ rfl (fun _ _ => rfl) ?_
    simp only [Act.put, List.setIfInBounds_toArray, List.set_cons_succ, List.set_cons_zero]
    refine q_val (.pointer (some ⟨t, 0, none⟩)) rfl (fun _ _ => exec_nil (.tmp 24) rfl _ rfl) ?_
    simp only [Act.put, List.setIfInBounds_toArray, List.set_cons_succ, List.set_cons_zero]
    refine q_val (.pointer (some ⟨t, 1, none⟩)) rfl (fun _ _ => exec_tree1 (.tmp 25) rfl _ rfl) ?_
    simp only [Act.put, List.setIfInBounds_toArray, List.set_cons_succ, List.set_cons_zero]
    refine q_val (.slice (some ⟨Rb, 0, none⟩) (H + 1) Rc) rfl (fun W hW => exec_load1 73 (.tmp 26) rfl ⟨t, 1, none⟩ rfl _ ((hw W hW).c1) _ Tryd.underlying73 rfl) ?_
    simp only [Act.put, List.setIfInBounds_toArray, List.set_cons_succ, List.set_cons_zero]
    refine q_val (.pointer (some ⟨Rb, 0, none⟩)) rfl (fun _ _ => exec_ddAt (.tmp 27) (.const (.int .i64 0)) rfl Rb (H + 1) Rc 0 rfl rfl (by omega)) ?_
    simp only [Act.put, List.setIfInBounds_toArray, List.set_cons_succ, List.set_cons_zero]
    refine q_val (.slice (some ⟨rb 0, 0, none⟩) n n) rfl (fun W hW => exec_load1 33 (.tmp 28) rfl ⟨Rb, 0, none⟩ rfl _ (HR0.out W (hw W hW)) _ Tryd.underlying33 rfl) ?_
    simp only [Act.put, List.setIfInBounds_toArray, List.set_cons_succ, List.set_cons_zero]
    refine q_val _ rfl (fun _ _ => rfl) ?_
    simp only [Act.put, List.setIfInBounds_toArray, List.set_cons_succ, List.set_cons_zero]
    refine q_val _ rfl (fun _ _ => rfl) ?_
    simp only [Act.put, List.setIfInBounds_toArray, List.set_cons_succ, List.set_cons_zero]
    refine q_call 11 #[.slice s2 m c2] (.agg (rowB d)) rfl (fun _ _ => exec_call1 11 (.tmp 31) #[28] _ rfl rfl (cfLeafT _ _)) (fun W hW => (HLf.out W hW).mono fun e W' h => ⟨h.1, hW.trans (h.2.mono hW.size)⟩) ?_
    simp only [Act.put, List.setIfInBounds_toArray, List.set_cons_succ, List.set_cons_zero]
    refine q_val (.pointer (some ⟨rb 0, 0 + 32 * i, none⟩)) rfl (fun _ _ => exec_dig_at (.tmp 29) (.tmp 30) rfl (rb 0) 0 n n i rfl rfl hi) ?_
    simp only [Act.put, List.setIfInBounds_toArray, List.set_cons_succ, List.set_cons_zero]
    refine wpQuiet_nil ?_
    intro w4 hw4
    have HS4 := Lib.hid (HS3.out.later hw4)
    have hsz : (rowB d).size = 32 := by rw [rowB_size, hl32]
    have e0 : 0 + 32 * i = 32 * i := Nat.zero_add _
    have hid := row_dig hl32
    have HR1 := Lib.hid (HS4.out.row (by omega) HT.out.inj i (by rw [hr0]; exact hi) d hl32 HSe.out)
    have hth := (HS4.out.old 0 (Nat.le_refl _) (by omega)).there i (by rw [hr0]; exact hi)
    clear hw4 hw HLf HS3 HR0
    go_upto_region 6 with (refine wpList_store_mid rfl 24 (.tmp 33) (.tmp 32) rfl (rb 0) (0 + 32 * i) (rowB d) rfl rfl (by rw [e0, hsz]; exact hth) hid (rowB_one d) ?_)
    refine gen_world (Q := fun w => Code.wp _ _ _ _ w) _ (SetP w ls (ls.set i l) t Lb Rb Rc H 1 (vs.set i (.slice s9 m k9)) rb) (by rw [e0]; exact HR1.out) ?_
    intro w5 h5
    have HS5 := Lib.hid h5
    clear h5 hth HR1 HS4
    go_wp2
    go_loopw [8] (fun hh wr => ∃ q : Nat, hh = .int .i64 q ∧ 1 ≤ q ∧ q ≤ H + 1 ∧ SetP w ls (ls.set i l) t Lb Rb Rc H q (vs.set i (.slice s9 m k9)) rb wr) (fun hh _ => H + 2 - (intOf hh).toNat)
    case atStart => exact ⟨1, rfl, by omega, by omega, HS5.out⟩
    case round =>
      clear HS5
      obtain ⟨q, rfl, hq1, hqH, hs⟩ := hrel
      have HS6 := Lib.hid hs
      have hc1 := hs.c1
      clear hs
      by_cases hlt : q < H + 1
      · have d1 : decide ((q : Int) < ((H + 1 : Nat) : Int)) = true := decide_eq_true (by omega)
        have d1' : decide (q < H + 1) = true := decide_eq_true (by omega)
        have d1'' : decide (q ≤ H) = true := decide_eq_true (by omega)
        obtain ⟨k, hk⟩ : ∃ k, k + 1 = q := ⟨q - 1, by omega⟩
        have es := fun W => run_less1 k (by omega) W
        rw [hk] at es
        have hpl := HPl.out q
        have hse := HSet.out q
        obtain ⟨p, hp⟩ : ∃ p, i / 2 ^ q = p := ⟨_, rfl⟩
        have ep : (i : Int) / 2 ^ q = (p : Int) := by rw [shr_nat, hp]
        rw [hp] at hpl hse
        have eab : ∀ ls : List (List Int), rowsD ls q = above nodeD (rowsD ls k) := fun ls => by rw [← hk]; rfl
        have hx32 : ((rowsD (ls.set i l) q).getD p []).length = 32 := rowsD_all _ q _ (getD_mem _ p (by rw [HLe.out]; exact hpl))
        have hla : (rowsD ls q).length = ((rowsD ls k).length + 1) / 2 := by rw [eab, above_len]
        have hLk := HLn.out k
        rw [HN.out] at hLk
        have HRa := Lib.hid (fun W (h : SetP w ls (ls.set i l) t Lb Rb Rc H q (vs.set i (.slice s9 m k9)) rb W) => h.r q (by omega))
        have HRk := Lib.hid (fun W (h : SetP w ls (ls.set i l) t Lb Rb Rc H q (vs.set i (.slice s9 m k9)) rb W) => h.r k (by omega))
        have hgx : (rowsD (ls.set i l) q).getD p [] = pairD nodeD (rowsD (ls.set i l) k) p := by
          rw [eab]
          exact above_at nodeD _ p (by rw [HLe.out, ← hla]; exact hpl)
        have hlk' := HLe.out k
        obtain ⟨La, hLa⟩ : ∃ L, (rowsD ls q).length = L := ⟨_, rfl⟩
        obtain ⟨Lk, hLke⟩ : ∃ L, (rowsD ls k).length = L := ⟨_, rfl⟩
        rw [hLa] at hpl hla HRa
        rw [hLke] at hla HRk hLk hlk'
        have HPr := Lib.hid (fun W (h : SetP w ls (ls.set i l) t Lb Rb Rc H q (vs.set i (.slice s9 m k9)) rb W) => pair_any W (rb k) Lk p (rowsD (ls.set i l) k) hlk' (h.new k (by omega) (by omega)) (by omega) (h.env HE.out HW2.out) (by omega))
        rw [← hgx] at HPr
        obtain ⟨x, hx⟩ : ∃ x, (rowsD (ls.set i l) q).getD p [] = x := ⟨_, rfl⟩
        rw [hx] at HPr hx32 hse
        have HSe2 := Lib.hid hse
        have HLa := Lib.hid hLa
        have hpa : p < La := hpl
        clear hse hgx hx eab hlk' hLke hLa hp
        go_upto_region 10 with fail
        have hw : ∀ W, Below wr.heap.size wr W → SetP w ls (ls.set i l) t Lb Rb Rc H q (vs.set i (.slice s9 m k9)) rb W := fun W h => HS6.out.later h
        refine wp_region_quiet_tail (C := fun W => Below wr.heap.size wr W) 19 (by kernel_rfl) (by kernel_rfl) ⟨rfl, rfl, rfl, Nat.le_refl _, fun _ _ => rfl⟩ ?_
        simp only [List.take_succ_cons, List.take_zero, List.drop_succ_cons, List.drop_zero]
        refine q_val _ rfl (fun _ _ => rfl) ?_
        simp only [Act.put, List.setIfInBounds_toArray, List.set_cons_succ, List.set_cons_zero]
        refine q_val (.pointer (some ⟨t, 0, none⟩)) rfl (fun _ _ => exec_nil (.tmp 46) rfl _ rfl) ?_
        simp only [Act.put, List.setIfInBounds_toArray, List.set_cons_succ, List.set_cons_zero]
        refine q_val (.pointer (some ⟨t, 1, none⟩)) rfl (fun _ _ => exec_tree1 (.tmp 47) rfl _ rfl) ?_
        simp only [Act.put, List.setIfInBounds_toArray, List.set_cons_succ, List.set_cons_zero]
        refine q_val (.slice (some ⟨Rb, 0, none⟩) (H + 1) Rc) rfl (fun W hW => exec_load1 73 (.tmp 48) rfl ⟨t, 1, none⟩ rfl _ ((hw W hW).c1) _ Tryd.underlying73 rfl) ?_
        simp only [Act.put, List.setIfInBounds_toArray, List.set_cons_succ, List.set_cons_zero]
        refine q_val _ rfl (fun _ _ => rfl) ?_
        simp only [Act.put, List.setIfInBounds_toArray, List.set_cons_succ, List.set_cons_zero]
        refine q_val (.pointer (some ⟨Rb, q, none⟩)) rfl (fun _ _ => exec_ddAt (.tmp 49) (.tmp 50) rfl Rb (H + 1) Rc (q) rfl rfl (by omega)) ?_
        simp only [Act.put, List.setIfInBounds_toArray, List.set_cons_succ, List.set_cons_zero]
        refine q_val (.slice (some ⟨rb (q), 0, none⟩) La La) rfl (fun W hW => exec_load1 33 (.tmp 51) rfl ⟨Rb, q, none⟩ rfl _ (HRa.out W (hw W hW)) _ Tryd.underlying33 rfl) ?_
        simp only [Act.put, List.setIfInBounds_toArray, List.set_cons_succ, List.set_cons_zero]
        refine q_val _ rfl (fun _ _ => rfl) ?_
        simp only [Act.put, List.setIfInBounds_toArray, List.set_cons_succ, List.set_cons_zero]
        refine q_val _ rfl (fun _ _ => rfl) ?_
        simp only [Act.put, List.setIfInBounds_toArray, List.set_cons_succ, List.set_cons_zero]
        refine q_val (.pointer (some ⟨t, 0, none⟩)) rfl (fun _ _ => exec_nil (.tmp 54) rfl _ rfl) ?_
        simp only [Act.put, List.setIfInBounds_toArray, List.set_cons_succ, List.set_cons_zero]
        refine q_val (.pointer (some ⟨t, 1, none⟩)) rfl (fun _ _ => exec_tree1 (.tmp 55) rfl _ rfl) ?_
        simp only [Act.put, List.setIfInBounds_toArray, List.set_cons_succ, List.set_cons_zero]
        refine q_val (.slice (some ⟨Rb, 0, none⟩) (H + 1) Rc) rfl (fun W hW => exec_load1 73 (.tmp 56) rfl ⟨t, 1, none⟩ rfl _ ((hw W hW).c1) _ Tryd.underlying73 rfl) ?_
        simp only [Act.put, List.setIfInBounds_toArray, List.set_cons_succ, List.set_cons_zero]
        refine q_val _ rfl (fun _ _ => rfl) ?_
        simp only [Act.put, List.setIfInBounds_toArray, List.set_cons_succ, List.set_cons_zero]
        refine q_val (.int .i64 (k : Int)) rfl (fun W _ => exec_bin .sub (.tmp 58) (.const (.int .i64 1)) rfl rfl _ _ _ rfl rfl (es W)) ?_
        simp only [Act.put, List.setIfInBounds_toArray, List.set_cons_succ, List.set_cons_zero]
        refine q_val (.pointer (some ⟨Rb, k, none⟩)) rfl (fun _ _ => exec_ddAt (.tmp 57) (.tmp 59) rfl Rb (H + 1) Rc k rfl rfl (by omega)) ?_
        simp only [Act.put, List.setIfInBounds_toArray, List.set_cons_succ, List.set_cons_zero]
        refine q_val (.slice (some ⟨rb k, 0, none⟩) Lk Lk) rfl (fun W hW => exec_load1 33 (.tmp 60) rfl ⟨Rb, k, none⟩ rfl _ (HRk.out W (hw W hW)) _ Tryd.underlying33 rfl) ?_
        simp only [Act.put, List.setIfInBounds_toArray, List.set_cons_succ, List.set_cons_zero]
        refine q_val _ rfl (fun _ _ => rfl) ?_
        simp only [Act.put, List.setIfInBounds_toArray, List.set_cons_succ, List.set_cons_zero]
        refine q_call 45 #[.slice (some ⟨rb k, 0, none⟩) Lk Lk, .int .i64 (p : Int)] (.agg (rowB x)) rfl (fun _ _ => exec_call2 45 (.tmp 61) (.tmp 62) #[33, 3] _ _ rfl rfl rfl (cfPair _ _)) (fun W hW => (HPr.out W (hw W hW)).mono fun e W' h => ⟨h.1, hW.trans (h.2.mono hW.size)⟩) ?_
        simp only [Act.put, List.setIfInBounds_toArray, List.set_cons_succ, List.set_cons_zero]
        refine q_val (.pointer (some ⟨rb (q), 0 + 32 * p, none⟩)) rfl (fun _ _ => exec_dig_at (.tmp 52) (.tmp 53) rfl (rb (q)) 0 La La p rfl rfl hpa) ?_
        simp only [Act.put, List.setIfInBounds_toArray, List.set_cons_succ, List.set_cons_zero]
        refine wpQuiet_nil ?_
        intro w7 hw7
        have HS7 := Lib.hid (HS6.out.later hw7)
        have hsz2 : (rowB x).size = 32 := by rw [rowB_size, hx32]
        have e02 : 0 + 32 * p = 32 * p := Nat.zero_add _
        have hid2 := row_dig hx32
        have HR2 := Lib.hid (HS7.out.row (by omega) HT.out.inj p (by rw [HLa.out]; exact hpa) x hx32 HSe2.out)
        have hth2 := (HS7.out.old q (Nat.le_refl _) (by omega)).there p (by rw [HLa.out]; exact hpa)
        clear hw7 hw HPr HRa HRk HS6 hc1
        go_wp2_with (refine wpList_store_mid rfl 24 (.tmp 64) (.tmp 63) rfl (rb q) (0 + 32 * p) (rowB x) rfl rfl (by rw [e02, hsz2]; exact hth2) hid2 (rowB_one x) ?_)
        go_roundw
        case rel => exact ⟨q + 1, by go_num, by omega, by omega, HR2.out⟩
        case measure => simp [intOf]; omega
      · obtain rfl : q = H + 1 := by omega
        have d1 : decide (((H + 1 : Nat) : Int) < ((H + 1 : Nat) : Int)) = false := decide_eq_false (by omega)
        have d1' : decide (H + 1 < H + 1) = false := decide_eq_false (by omega)
        go_wp2
        go_ret
        exact ⟨rfl, _, SetP.tree HT.out HS6.out, HFr.out, HS6.out.chg⟩
set_option maxRecDepth 100000 in
theorem check_out (w : World) (t n c : Nat) (i : Int) (s : Option Addr) (hc : w.cell? ⟨t, 0, none⟩ = some (.slice s n c)) (hi : ¬ (0 ≤ i ∧ i < n)) :
    Calls Tryd.prog 44 #[.pointer (some ⟨t, 0, none⟩), .int .i64 i] w fun e w' => e = .returned (.int .i64 10) ∧ w = w' := by
  have HL := Lib.hid (tlen_at w t n c s hc)
  clear hc
  go_enter Tryd.func44, Tryd.ntmps44
  go_wp2_with (first
    | (go_at_call 29; refine HL.out.mono ?_; rintro e w' ⟨rfl, rfl⟩)
    | (go_at_call 37; refine (place_no _ _ _ hi).mono ?_; rintro e w' ⟨rfl, rfl⟩))
  go_ret
  exact ⟨rfl, rfl⟩
theorem get_out (w : World) (t n c : Nat) (i : Int) (s : Option Addr) (hc : w.cell? ⟨t, 0, none⟩ = some (.slice s n c)) (hi : ¬ (0 ≤ i ∧ i < n)) :
    Calls Tryd.prog 30 #[.pointer (some ⟨t, 0, none⟩), .int .i64 i] w fun e w' => e = .returned (.tuple #[.slice none 0 0, .int .i64 10]) ∧ w = w' := by
  have HC := Lib.hid (check_out w t n c i s hc hi)
  clear hc hi
  go_enter Tryd.func30, Tryd.ntmps30
  go_wp2_with (go_at_call 44; refine HC.out.mono ?_; rintro e w' ⟨rfl, rfl⟩)
  exact bodyPost_ret (v := .tuple #[.slice none 0 0, .int .i64 10]) (by simp [results, Tryd.results30, go_sem]) rfl ⟨rfl, rfl⟩
theorem set_out (w : World) (t n c : Nat) (i : Int) (s s2 : Option Addr) (m c2 : Nat) (hc : w.cell? ⟨t, 0, none⟩ = some (.slice s n c)) (hi : ¬ (0 ≤ i ∧ i < n)) :
    Calls Tryd.prog 25 #[.pointer (some ⟨t, 0, none⟩), .int .i64 i, .slice s2 m c2] w fun e w' => e = .returned (.int .i64 10) ∧ w = w' := by
  have HC := Lib.hid (check_out w t n c i s hc hi)
  clear hc hi
  go_enter Tryd.func25, Tryd.ntmps25
  go_wp2_with (go_at_call 44; refine HC.out.mono ?_; rintro e w' ⟨rfl, rfl⟩)
  go_ret
  exact ⟨rfl, rfl⟩
theorem tprove_out (w : World) (t n c : Nat) (i : Int) (s : Option Addr) (hc : w.cell? ⟨t, 0, none⟩ = some (.slice s n c)) (hi : ¬ (0 ≤ i ∧ i < n)) :
    Calls Tryd.prog 26 #[.pointer (some ⟨t, 0, none⟩), .int .i64 i] w fun e w' => e = .returned (.tuple #[.slice none 0 0, .int .i64 10]) ∧ Below w.heap.size w w' := by
  have HC := Lib.hid (fun W (hB : Below w.heap.size w W) => check_out W t n c i s ((hB.cell (block_lt_of_cell hc)).trans hc) hi)
  clear hc hi
  have hB1 : Below w.heap.size w (w.alloc (.cells #[.pointer (some ⟨t, 0, none⟩)] 46)) := (Below.refl _ w).alloc (Nat.le_refl _) _
  go_enter Tryd.func26, Tryd.ntmps26
  go_wp2_with (go_at_call 44; refine (HC.out _ hB1).mono ?_; rintro e w' ⟨rfl, rfl⟩)
  exact bodyPost_ret (v := .tuple #[.slice none 0 0, .int .i64 10]) (by simp [results, Tryd.results26, go_sem]) rfl ⟨rfl, hB1⟩
set_option maxRecDepth 100000 in
set_option maxHeartbeats 4000000 in
theorem get_any (w : World) (ls : List (List Int)) (t Lb Rb Rc H : Nat) (vs : List Value) (rb : Nat → Nat) (i : Nat) (hT : TreeP w ls t Lb Rb Rc H vs rb) (hi : i < ls.length) (hs9 : (ls.getD i []).length ≤ 900000) :
    Calls Tryd.prog 30 #[.pointer (some ⟨t, 0, none⟩), .int .i64 i] w fun e w' => ∃ v, e = .returned (.tuple #[v, .int .i64 0]) ∧ LfVal w' v (ls.getD i []) ∧ Fresh w.heap.size v ∧ Below w.heap.size w w' := by
  obtain ⟨n, hn⟩ : ∃ n, ls.length = n := ⟨_, rfl⟩
  have hc0 := hT.c0
  rw [hn] at hi hc0
  have HC := Lib.hid (check_at w t i n n (some ⟨Lb, 0, none⟩) hc0 hi)
  have hvl := hT.vlen
  have hv : vs[i]? = some (vs[i]'(by omega)) := List.getElem?_eq_getElem (by omega)
  obtain ⟨sp, cap, e1, hby, _⟩ := hT.vpc i _ hv
  have hcl : w.cell? ⟨Lb, i, none⟩ = some (.slice sp (ls.getD i []).length cap) := by rw [cell_of_row _ _ _ _ _ _ hT.leaves, List.getElem?_toArray, hv, e1]
  obtain ⟨l, hl⟩ : ∃ l, ls.getD i [] = l := ⟨_, rfl⟩
  rw [hl] at hby hcl hs9 ⊢
  obtain ⟨m, hm⟩ : ∃ m, l.length = m := ⟨_, rfl⟩
  rw [hm] at hcl hs9
  have HCl := Lib.hid (clone_own w sp m cap l hm hby hs9)
  clear hT hvl hv e1 hby hn hl hm
  go_enter Tryd.func30, Tryd.ntmps30
  go_wp2_with (first
    | (go_at_call 44; refine HC.out.mono ?_; rintro e w' ⟨rfl, rfl⟩)
    | (refine wpList_val rfl (.pointer (some ⟨Lb, i, none⟩)) (exec_pcT (.tmp 16) (.tmp 17) rfl Lb n n i rfl rfl hi) ?_)
    | (go_at_call 42; refine HCl.out.mono ?_; rintro e w1 ⟨v, rfl, ⟨hlf, hfr⟩, hb⟩))
  exact bodyPost_ret (v := .tuple #[v, .int .i64 0]) (by simp [results, Tryd.results30, go_sem]) rfl ⟨v, rfl, hlf, hfr, hb⟩
/-- a block of bytes that is none of the tree's is turned -/
theorem TreeP.kept5 {W W' : World} {ls : List (List Int)} {t Lb Rb Rc H : Nat} {vs : List Value} {rb : Nat → Nat} (h : TreeP W ls t Lb Rb Rc H vs rb) (b0 : Nat) (h5 : ∃ C fr, W.heap[b0]? = some (.cells C 5 fr)) (hv : ∀ v ∈ vs, ∀ c o n k, v = .slice (some ⟨c, o, none⟩) n k → c ≠ b0) (hk : ∀ b, b ≠ b0 → W'.heap[b]? = W.heap[b]?) : TreeP W' ls t Lb Rb Rc H vs rb := by
  obtain ⟨C0, fr0, h0⟩ := h5
  have hne : ∀ {b : Nat} {C : Array Value} {ty : TypeId} {fr : Nat × Nat}, W.heap[b]? = some (.cells C ty fr) → ty ≠ 5 → W'.heap[b]? = W.heap[b]? := fun hb ht => hk _ (fun e => by rw [e, h0] at hb; cases hb; exact ht rfl)
  obtain ⟨cur, h1, h2, h3⟩ := h.roots
  refine ⟨(hne h.top (by decide)).trans h.top, (hne h.leaves (by decide)).trans h.leaves, h.vlen, fun i v hiv => ?_, ⟨cur, (hne h1 (by decide)).trans h1, h2, h3⟩, fun j hj => ?_, h.inj, h.last, h.many, h.high⟩
  · obtain ⟨sp, cap, e, hb, ht⟩ := h.vpc i v hiv
    have hm := hv v (List.mem_of_getElem? hiv)
    refine ⟨sp, cap, e, byt_same hb (fun c o e2 => hk c (hm c o _ _ (by rw [e, e2]))), fun c o e2 => ?_⟩
    obtain ⟨C, fr, hc⟩ := ht c o e2
    exact ⟨C, fr, (hk c (hm c o _ _ (by rw [e, e2]))).trans hc⟩
  · obtain ⟨C, hC, _⟩ := id (h.rows j hj).ty
    exact (h.rows j hj).kept (hne hC (by decide))
/-- a block of slices that is not the tree's is turned -/
theorem TreeP.keptN {W W' : World} {ls : List (List Int)} {t Lb Rb Rc H : Nat} {vs : List Value} {rb : Nat → Nat} (h : TreeP W ls t Lb Rb Rc H vs rb) (b0 : Nat) (h5 : ∃ C fr, W.heap[b0]? = some (.cells C 28 fr)) (hL : b0 ≠ Lb) (hk : ∀ b, b ≠ b0 → W'.heap[b]? = W.heap[b]?) : TreeP W' ls t Lb Rb Rc H vs rb := by
  obtain ⟨C0, fr0, h0⟩ := h5
  have hne : ∀ {b : Nat} {C : Array Value} {ty : TypeId} {fr : Nat × Nat}, W.heap[b]? = some (.cells C ty fr) → ty ≠ 28 → W'.heap[b]? = W.heap[b]? := fun hb ht => hk _ (fun e => by rw [e, h0] at hb; cases hb; exact ht rfl)
  obtain ⟨cur, h1, h2, h3⟩ := h.roots
  refine ⟨(hne h.top (by decide)).trans h.top, (hk Lb (Ne.symm hL)).trans h.leaves, h.vlen, fun i v hiv => (h.vpc i v hiv).kept fun c C fr hc => hne hc (by decide), ⟨cur, (hne h1 (by decide)).trans h1, h2, h3⟩, fun j hj => ?_, h.inj, h.last, h.many, h.high⟩
  obtain ⟨C, hC, _⟩ := id (h.rows j hj).ty
  exact (h.rows j hj).kept (hne hC (by decide))
end Go.Proofs.YtighmhoekbnagaaDoor
namespace Go.Proofs.YtighmhoekbnagaaDoor
open Go.ChangeShapes Go.WideShapes Go.ChangeAt Go.RowKit

theorem take_snocT (l : List Int) (k : Nat) (h : k < l.length) : l.take (k + 1) = l.take k ++ [l.getD k 0] := by
  have e : l.getD k 0 = l[k] := by simp [h]
  rw [e, List.take_succ_eq_append_getElem h]
set_option maxRecDepth 100000 in
set_option maxHeartbeats 2000000 in
theorem bytes_anyT (w : World) (sp sq : Option Addr) (n m cp cq : Nat) (a b : List Int) (hn : a.length = n) (hm : b.length = m) (ha : Byt w sp cp a) (hb : Byt w sq cq b) :
    Calls Tryd.prog 27 #[.slice sp n cp, .slice sq m cq] w (Told (decide (a = b)) w) := by
  have hnl : n ≤ 9223372036854775807 := by rw [← hn]; exact ha.len
  have hml : m ≤ 9223372036854775807 := by rw [← hm]; exact hb.len
  have HN := Lib.hid hn
  have HM := Lib.hid hm
  have HA := Lib.hid ha
  have HB := Lib.hid hb
  clear hn hm ha hb
  by_cases hne : n = m
  · have hd : ((n : Int) != (m : Int)) = false := by rw [hne]; simp
    subst hne
    go_enter Tryd.func27, Tryd.ntmps27
    go_wp2
    go_loopw [5] (fun i wr => ∃ k : Nat, k ≤ n ∧ i = .int .i64 k ∧ a.take k = b.take k ∧ ∃ q, wr = w.drewN q) (fun i _ => n - (intOf i).toNat)
    case atStart => exact ⟨0, by omega, rfl, rfl, 0, rfl⟩
    case round =>
      obtain ⟨k, hk, rfl, heq, q, rfl⟩ := hrel
      have HEq := Lib.hid heq
      clear heq
      by_cases hlt : k < n
      · have hdt : decide (k < n) = true := by simp; omega
        obtain ⟨c, o, rfl, hc1⟩ := HA.out.at_ k (by rw [HN.out]; exact hlt)
        obtain ⟨c', o', rfl, hc2⟩ := HB.out.at_ k (by rw [HM.out]; exact hlt)
        have HS1 := Lib.hid (take_snocT a k (by rw [HN.out]; exact hlt))
        have HS2 := Lib.hid (take_snocT b k (by rw [HM.out]; exact hlt))
        obtain ⟨x, hx⟩ : ∃ x, a.getD k 0 = x := ⟨_, rfl⟩
        obtain ⟨y, hy⟩ : ∃ y, b.getD k 0 = y := ⟨_, rfl⟩
        rw [hx] at hc1 HS1
        rw [hy] at hc2 HS2
        have HX := Lib.hid hx
        have HY := Lib.hid hy
        clear hx hy
        by_cases hxy : x = y
        · subst hxy
          have hd2 : (x != x) = false := by simp
          go_wp2
          go_quiet (fail)
          go_wp2
          go_roundw
          case rel => exact ⟨k + 1, by omega, by go_num, by rw [HS1.out, HS2.out, HEq.out], _, rfl⟩
          case measure => simp [intOf]; omega
        · have hd2 : (x != y) = true := by simpa using hxy
          have HNe : Hid (decide (a = b) = false) := by
            refine Lib.hid (decide_eq_false (fun e => hxy ?_))
            rw [← HX.out, ← HY.out, e]
          clear hxy
          go_wp2
          go_quiet (fail)
          go_wp2
          go_ret
          exact ⟨by rw [HNe.out]; rfl, q + nq, by rw [World.drewN_drewN]⟩
      · obtain rfl : k = n := by omega
        have hdf : decide (k < k) = false := by simp
        have HE : Hid (decide (a = b) = true) := by
          have := HEq.out
          rw [List.take_of_length_le (by rw [HN.out]; omega), List.take_of_length_le (by rw [HM.out]; omega)] at this
          exact Lib.hid (decide_eq_true this)
        go_wp2
        go_ret
        exact ⟨by rw [HE.out]; rfl, _, rfl⟩
  · have hd : ((n : Int) != (m : Int)) = true := by simp; omega
    have HNe : Hid (decide (a = b) = false) := Lib.hid (decide_eq_false (fun e => hne (by rw [← HN.out, ← HM.out, e])))
    clear hne
    go_enter Tryd.func27, Tryd.ntmps27
    go_wp2
    go_ret
    exact ⟨by rw [HNe.out]; rfl, 0, rfl⟩
theorem open_int1 {H : Type} {enc : TypeId × Value → H} {W : World} {fuel : Nat} {v : Value} {x : DataW H × List MemPlace} (hf : DataW.trod enc Tryd.prog W 0 (fun _ => true) true fuel 3 [v] = some x) : ∃ n : Int, v = .int .i64 n ∧ -9223372036854775808 ≤ n ∧ n ≤ 9223372036854775807 := by
  obtain ⟨z, hc, _, hw⟩ := DataW.trod_int Tryd.underlying3 hf
  simp only [List.cons.injEq, and_true] at hc
  exact ⟨z, hc, int_wf hw⟩
theorem run_place (a : Addr) (f : Field) {t : TypeId} {z : Nat} (hz : (Tryd.prog.info? t).map (·.size) = some (z + 1)) (ht : f.type = t) (W : World) : (fieldPlace a f).run Tryd.prog W = .ok (a.add f.offset) W := by
  subst ht
  cases hq : Tryd.prog.info? f.type with
  | none => simp [hq] at hz
  | some i =>
    have hi : i.size = z + 1 := by simpa [hq] using hz
    simp [fieldPlace, sizeOf, typeInfo, hq, hi]
end Go.Proofs.YtighmhoekbnagaaDoor
namespace Go.Proofs.YtighmhoekbnagaaDoor
open Go.ChangeShapes Go.WideShapes Go.ChangeAt Go.RowKit Go.Deep

/-! ### what came in: a slice of operations (three cells each) -/
section
variable {H : Type} {enc : TypeId × Value → H} {P : Program} {w : World} {base : Nat} {spare : Nat → Bool} {held : Bool}
theorem open_slice_fields {t e : TypeId} {fs : Array Field} {fuel : Nat} {cs : List Value} {x : DataW H × List MemPlace} (ht : P.underlying t = some (.slice e)) (he : P.underlying e = some (.struct fs))
    (hone : oneCellFields P fs = true) (hC : P.cellsOf e = fs.size) (h : DataW.trod enc P w base spare held fuel t cs = some x) :
    (cs = [.slice none 0 0] ∧ x = (.nil, [])) ∨
    ∃ (a : Addr) (len cap m : Nat) (D : Nat → DataW H) (Pl : Nat → List MemPlace), cs = [.slice (some a) len cap] ∧ base ≤ a.block ∧ len ≤ cap ∧ cap ≤ maxLen ∧ m = (if spare a.block then cap else len) ∧
      x = (.slice ((List.range len).map D) ((List.range (m - len)).map fun j => D (len + j)), MemPlace.row a (m * fs.size) ++ (List.range m).flatMap Pl) ∧
      ∀ i, i < m → ∃ (ys : List (DataW H × List MemPlace)) (n : Nat), D i = .agg (ys.map (·.1)) ∧ Pl i = ys.flatMap (·.2) ∧ ys.length = fs.size ∧
        ∀ (j : Nat) (f : Field), fs[j]? = some f → ∃ (v : Value) (y : DataW H × List MemPlace), w.cell? (a.add (i * fs.size + j)) = some v ∧ ys[j]? = some y ∧ DataW.trod enc P w base spare held n f.type [v] = some y := by
  rcases open_slice ht h with h0 | ⟨a, len, cap, m, n, D, Pl, hcs, hb, hl, hm, hmm, hx, hi⟩
  · exact .inl h0
  · refine .inr ⟨a, len, cap, m, D, Pl, hcs, hb, hl, hm, hmm, by rw [hC] at hx; exact hx, fun i him => ?_⟩
    obtain ⟨cs', hc, ht'⟩ := hi i him
    rw [hC] at hc
    obtain ⟨ys, n', hn', hy, hlen, hyl, hf⟩ := DataW.trod_struct he ht'
    obtain ⟨_, hcl, hat⟩ := World.cells?_some hc
    simp only [Prod.mk.injEq] at hy
    refine ⟨ys, n', hy.1, hy.2, hyl, fun j f hj => ?_⟩
    obtain ⟨ho, hk⟩ := hone_of hone j f hj
    have hjl : j < fs.size := (Array.getElem?_eq_some_iff.1 hj).1
    have hcell := hat j hjl
    have hv : cs'[j]? = some (cs'[j]'(by omega)) := List.getElem?_eq_getElem (by omega)
    have h1 := hf j f hj
    rw [ho, hk] at h1
    have hone' : (cs'.drop j).take 1 = [cs'[j]'(by omega)] := by
      rw [List.drop_eq_getElem_cons (by omega)]
      rfl
    rw [hone'] at h1
    have hys : ys[j]? = some (ys[j]'(by omega)) := List.getElem?_eq_getElem (by omega)
    refine ⟨_, _, ?_, hys, h1.trans hys⟩
    rw [← Go.Deep.add_add, hcell, hv]
end

/-- one operation, as it lies -/
structure OpV where
  ask : Int
  i : Int
  sp : Option Addr
  cap : Nat
  leaf : List Int
def OpV.cells (x : OpV) : List Value := [.int .i64 x.ask, .int .i64 x.i, .slice x.sp x.leaf.length x.cap]
def OpV.fits (W : World) (x : OpV) : Prop := (-9223372036854775808 ≤ x.ask ∧ x.ask ≤ 9223372036854775807) ∧ (-9223372036854775808 ≤ x.i ∧ x.i ≤ 9223372036854775807) ∧ Byt W x.sp x.cap x.leaf
/-- a slice that reads as operations -/
structure Ops (W : World) (sp : Option Addr) (os : List OpV) : Prop where
  len : os.length ≤ maxLen
  fits : ∀ x ∈ os, x.fits W
  lies : 0 < os.length → ∃ c o, sp = some ⟨c, o, none⟩ ∧ ∀ k (hk : k < os.length), W.rangeAt c (o + 3 * k) (os[k]).cells
theorem OpV.fits_below {W W' : World} {x : OpV} (h : x.fits W) (hb : Below W.heap.size W W') : x.fits W' := ⟨h.1, h.2.1, h.2.2.below hb⟩
theorem cellsOp : Tryd.prog.cellsOf 57 = 3 := by kernel_rfl
theorem list_of' {A : Type} [Inhabited A] {P : Nat → A → Prop} (n : Nat) (h : ∀ i, i < n → ∃ l, P i l) : ∃ ls : List A, ls.length = n ∧ ∀ i (hi : i < ls.length), P i (ls[i]) := by
  induction n generalizing P with
  | zero => exact ⟨[], rfl, fun i hi => by simp at hi⟩
  | succ n ih =>
    obtain ⟨l0, h0⟩ := h 0 (by omega)
    obtain ⟨ls, h1, h2⟩ := ih (P := fun i l => P (i + 1) l) (fun i hi => h (i + 1) (by omega))
    refine ⟨l0 :: ls, by simp [h1], fun i hi => ?_⟩
    rcases i with _ | i
    · exact h0
    · exact h2 i (by simpa using hi)
instance : Inhabited OpV := ⟨⟨0, 0, none, 0, []⟩⟩
set_option maxRecDepth 100000 in
theorem open_ops {H : Type} {enc : TypeId × Value → H} {W : World} {b0 : Nat} {v : Value} {d : DataW H} {p : List MemPlace} (hv : Value.okWide Tryd.prog W .any b0 54 v) (h : DataW.Trod enc Tryd.prog W 0 (fun _ => true) true 54 v d p) :
    ∃ (sp : Option Addr) (cap : Nat) (os : List OpV), v = .slice sp os.length cap ∧ Ops W sp os := by
  obtain ⟨fuel, hf⟩ := h
  obtain ⟨sp0, n0, c0, rfl⟩ := okWide_slice Tryd.underlying54 hv
  have hcl : (Value.slice sp0 n0 c0).cells.toList = [.slice sp0 n0 c0] := rfl
  rw [hcl] at hf
  rcases open_slice_fields Tryd.underlying54 Tryd.underlying57 (by kernel_rfl) cellsOp hf with ⟨hcs, _⟩ | ⟨a, len, cap, m, D, Pl, hcs, _, hl, hm, hmm, _, hx⟩
  · simp only [List.cons.injEq, and_true] at hcs
    exact ⟨none, 0, [], hcs, by unfold maxLen; simp, fun x hx => by simp at hx, fun h0 => by simp at h0⟩
  · simp only [List.cons.injEq, and_true] at hcs
    simp only [if_true] at hmm
    obtain ⟨os, hos, hk⟩ := list_of' (P := fun i (x : OpV) => x.fits W ∧ W.cell? (a.add (i * 3 + 0)) = some (.int .i64 x.ask) ∧ W.cell? (a.add (i * 3 + 1)) = some (.int .i64 x.i) ∧ W.cell? (a.add (i * 3 + 2)) = some (.slice x.sp x.leaf.length x.cap)) len (fun i hi => by
      obtain ⟨ys, n, _, _, hyl, hff⟩ := hx i (by omega)
      obtain ⟨v0, y0, c0, _, t0⟩ := hff 0 _ rfl
      obtain ⟨v1, y1, c1, _, t1⟩ := hff 1 _ rfl
      obtain ⟨v2, y2, c2, _, t2⟩ := hff 2 _ rfl
      obtain ⟨N, rfl, hN⟩ := open_int1 t0
      obtain ⟨I, rfl, hI⟩ := open_int1 t1
      obtain ⟨s, c, l, rfl, hb⟩ := open_bytes1 t2
      exact ⟨⟨N, I, s, c, l⟩, ⟨hN, hI, hb⟩, c0, c1, c2⟩)
    have hx0 : 0 < os.length → ∃ c o, a = ⟨c, o, none⟩ := fun h0 => by
      have c0 := cell_plain (hk 0 h0).2.1
      rw [Nat.zero_mul, Nat.zero_add, add_zero] at c0
      obtain ⟨b, o, s⟩ := a
      have hs : s = none := c0
      subst hs
      exact ⟨b, o, rfl⟩
    refine ⟨some a, cap, os, by rw [hos]; exact hcs, by omega, fun x hx => ?_, fun h0 => ?_⟩
    · obtain ⟨i, hi, rfl⟩ := List.mem_iff_getElem.1 hx
      exact (hk i hi).1
    · obtain ⟨c, o, rfl⟩ := hx0 h0
      refine ⟨c, o, rfl, fun k hki => ?_⟩
      obtain ⟨_, c0, c1, c2⟩ := hk k hki
      rw [add_plain] at c0 c1 c2
      intro j v hv
      rcases j with _ | _ | _ | j
      · cases hv
        rw [← c0]
        congr 2
        omega
      · cases hv
        rw [← c1]
        congr 2
        omega
      · cases hv
        rw [← c2]
        congr 2
        omega
      · cases hv
set_option maxRecDepth 100000 in
theorem sizeOp : (Tryd.prog.info? 57).map (·.size) = some 3 := by kernel_rfl
theorem exec_op_at {a : Act} {o : Oper} {W : World} (x y : Operand) (ho : o.op = .indexAddr 54 x y) (c k n cap i : Nat) (hx : a.eval x = .slice (some ⟨c, k, none⟩) n cap) (hy : a.eval y = .int .i64 (i : Int)) (hi : i < n) : (execOp a.eval o).run Tryd.prog W = .ok (.value (.pointer (some ⟨c, k + 3 * i, none⟩))) W := by
  have hadd : (⟨c, k, none⟩ : Addr).add (i * 3) = ⟨c, k + 3 * i, none⟩ := by rw [add_plain]; congr 1; omega
  cases hq : Tryd.prog.info? 57 with
  | none => have := sizeOp; simp [hq] at this
  | some j =>
    have hj : j.size = 3 := by have := sizeOp; simpa [hq] using this
    unfold execOp
    simp [ho, hx, hy, Instr.indexAt, asIntOf, run_underlying Tryd.underlying54, sizeOf, typeInfo, hq, hj, hi, hadd]
set_option maxRecDepth 100000 in
theorem exec_opf_at {a : Act} {o : Oper} {W : World} (x : Operand) (k : Nat) (hk : k < 3) (ho : o.op = .fieldAddr 57 x k) (g : Nat) (hx : a.eval x = .pointer (some ⟨g, 0, none⟩)) : (execOp a.eval o).run Tryd.prog W = .ok (.value (.pointer (some ⟨g, k, none⟩))) W := by
  unfold execOp
  have e3 : (Tryd.prog.info? 3).map (·.size) = some 1 := by kernel_rfl
  rcases k with _ | _ | _ | k
  · simp [ho, hx, Instr.fieldAt, run_underlying Tryd.underlying57, Instr.sureAddr, run_place _ _ e3, add_plain]
  · simp [ho, hx, Instr.fieldAt, run_underlying Tryd.underlying57, Instr.sureAddr, run_place _ _ e3, add_plain]
  · simp [ho, hx, Instr.fieldAt, run_underlying Tryd.underlying57, Instr.sureAddr, run_place _ _ size28, add_plain]
  · omega
end Go.Proofs.YtighmhoekbnagaaDoor
namespace Go.Proofs.YtighmhoekbnagaaDoor
open Go.ChangeShapes Go.WideShapes Go.ChangeAt Go.RowKit

/-! ### a tree and a row of leaves, call by call -/
set_option maxRecDepth 100000 in
set_option maxHeartbeats 4000000 in
theorem clone_row (w : World) (sp : Option Addr) (n cap : Nat) (l : List Int) (hn : l.length = n) (hb : Byt w sp cap l) (hs : n ≤ 900000) :
    Calls Tryd.prog 42 #[.slice sp n cap] w fun e w' => ∃ v, e = .returned v ∧ w'.ownsRow w.heap.size 5 1 v n (l.map (Value.int .u8)) ∧ Below w.heap.size w w' := by
  cases sp with
  | none =>
    have h0 := hb.nul rfl
    have hle := hb.by_.le
    obtain rfl : n = 0 := by omega
    subst h0
    obtain rfl : l = [] := List.eq_nil_of_length_eq_zero hn
    clear hb hn hle
    have hnil : ∀ W : World, (binOp .eql 28 (.slice none 0 0) (.slice none 0 0)).run Tryd.prog W = .ok (.bool true) W := fun _ => rfl
    go_enter Tryd.func42, Tryd.ntmps42
    go_wp2
    go_ret
    exact ⟨_, rfl, ⟨by simp, .inl ⟨rfl, rfl⟩⟩, Below.refl _ _⟩
  | some ad =>
    have HN := Lib.hid hn
    clear hn
    have hnil : ∀ W : World, (binOp .eql 28 (.slice (some ad) n cap) (.slice none 0 0)).run Tryd.prog W = .ok (.bool false) W := fun _ => rfl
    go_enter Tryd.func42, Tryd.ntmps42
    have HS := Lib.hid ((byt_iff.1 hb).below (Nat.le_refl _) ((Below.refl _ w).alloc (Nat.le_refl _) (.cells #[] 5)))
    clear hb
    go_upto_region 3 with fail
    go_wp2_with (refine wpList_append_sl 28 5 1 (.int .u8 0) Tryd.underlying28 info5 rfl (by decide) rfl (.tmp 5) (.tmp 6) rfl w.heap.size (.slice (some ⟨w.heap.size, 0, none⟩) 0 0) 0 n [] (l.map (Value.int .u8)) rfl (World.ownsRow_lit w #[] 0 (Nat.le_refl _) (by unfold maxLen; omega) rfl) (some ad) cap rfl (by simpa using HN.out) HS.out (fun v hv => by obtain ⟨x, _, rfl⟩ := List.mem_map.1 hv; rfl) (by omega) (by simp) ?_; intro v' w1 hown hg; have HO := Lib.hid hown; have HG := Lib.hid hg; clear hown hg)
    go_ret
    have ho : w1.ownsRow w.heap.size 5 1 v' (0 + n) (l.map (Value.int .u8)) := HO.out
    have hB : Below w.heap.size w w1 := ((Below.refl _ w).alloc (Nat.le_refl _) _).trans (Below.ofGrown HG.out (by simp) (fun k e => by simp [Value.ownBlock] at e; omega))
    refine ⟨v', rfl, ?_, hB⟩
    rw [Nat.zero_add] at ho
    exact ho
set_option maxRecDepth 100000 in
set_option maxHeartbeats 4000000 in
theorem get_row (w : World) (ls : List (List Int)) (t Lb Rb Rc H : Nat) (vs : List Value) (rb : Nat → Nat) (i : Nat) (hT : TreeP w ls t Lb Rb Rc H vs rb) (hi : i < ls.length) (hs9 : (ls.getD i []).length ≤ 900000) :
    Calls Tryd.prog 30 #[.pointer (some ⟨t, 0, none⟩), .int .i64 i] w fun e w' => ∃ v, e = .returned (.tuple #[v, .int .i64 0]) ∧ w'.ownsRow w.heap.size 5 1 v (ls.getD i []).length ((ls.getD i []).map (Value.int .u8)) ∧ Below w.heap.size w w' := by
  obtain ⟨n, hn⟩ : ∃ n, ls.length = n := ⟨_, rfl⟩
  have hc0 := hT.c0
  rw [hn] at hi hc0
  have HC := Lib.hid (check_at w t i n n (some ⟨Lb, 0, none⟩) hc0 hi)
  have hvl := hT.vlen
  have hv : vs[i]? = some (vs[i]'(by omega)) := List.getElem?_eq_getElem (by omega)
  obtain ⟨sp, cap, e1, hby, _⟩ := hT.vpc i _ hv
  have hcl : w.cell? ⟨Lb, i, none⟩ = some (.slice sp (ls.getD i []).length cap) := by rw [cell_of_row _ _ _ _ _ _ hT.leaves, List.getElem?_toArray, hv, e1]
  obtain ⟨l, hl⟩ : ∃ l, ls.getD i [] = l := ⟨_, rfl⟩
  rw [hl] at hby hcl hs9 ⊢
  obtain ⟨m, hm⟩ : ∃ m, l.length = m := ⟨_, rfl⟩
  rw [hm] at hcl hs9
  have HCl := Lib.hid (clone_row w sp m cap l hm hby hs9)
  have HM := Lib.hid hm
  clear hT hvl hv e1 hby hn hl hm
  go_enter Tryd.func30, Tryd.ntmps30
  go_wp2_with (first
    | (go_at_call 44; refine HC.out.mono ?_; rintro e w' ⟨rfl, rfl⟩)
    | (refine wpList_val rfl (.pointer (some ⟨Lb, i, none⟩)) (exec_pcT (.tmp 16) (.tmp 17) rfl Lb n n i rfl rfl hi) ?_)
    | (go_at_call 42; refine HCl.out.mono ?_; rintro e w1 ⟨v, rfl, hlf, hb⟩))
  rw [← HM.out] at hlf
  exact bodyPost_ret (v := .tuple #[v, .int .i64 0]) (by simp [results, Tryd.results30, go_sem]) rfl ⟨v, rfl, hlf, hb⟩

theorem TreeP.wrtTy {W : World} {ls : List (List Int)} {t Lb Rb Rc H : Nat} {vs : List Value} {rb : Nat → Nat} (h : TreeP W ls t Lb Rb Rc H vs rb) {b : Nat} (hw : Wrt Lb H rb b) : ∃ C ty, W.heap[b]? = some (.cells C ty (0, 0)) ∧ (ty = 28 ∧ b = Lb ∨ ty = 24) := by
  rcases hw with rfl | ⟨j, hj, rfl⟩
  · exact ⟨_, _, h.leaves, .inl ⟨rfl, rfl⟩⟩
  · obtain ⟨C, hC, _⟩ := (h.rows j hj).ty
    exact ⟨C, _, hC, .inr rfl⟩
/-- a block of another type is none that Set writes -/
theorem TreeP.notWrt {W : World} {ls : List (List Int)} {t Lb Rb Rc H : Nat} {vs : List Value} {rb : Nat → Nat} (h : TreeP W ls t Lb Rb Rc H vs rb) {b : Nat} {C : Array Value} {ty : TypeId} {fr : Nat × Nat} (hb : W.heap[b]? = some (.cells C ty fr)) (h1 : ty ≠ 24) (h2 : ty ≠ 28 ∨ b ≠ Lb) : ¬ Wrt Lb H rb b := by
  intro hw
  obtain ⟨C', ty', h3, h4⟩ := h.wrtTy hw
  rw [hb] at h3
  cases h3
  rcases h4 with ⟨e, e'⟩ | e
  · rcases h2 with h2 | h2
    · exact h2 e
    · exact h2 e'
  · exact h1 e
/-- the tree of cur, and a row of a call's own that holds curN, as they stand; A: blocks where no leaf of the tree lies -/
structure TnS (w : World) (t Lb Rb Rc H : Nat) (rb : Nat → Nat) (n : Nat) (A : Nat → Prop) (cur curN : List (List Int)) (nowv : Value) (W : World) : Prop where
  below : Below w.heap.size w W
  clen : cur.length = n
  nlen : curN.length = n
  short : ∀ l ∈ cur, l.length ≤ 100
  tree : ∃ vs, TreeP W cur t Lb Rb Rc H vs rb ∧ ∀ v ∈ vs, ∀ c o q k, v = .slice (some ⟨c, o, none⟩) q k → ¬ A c
  now : ∃ nv, W.ownsRow (Lb + 1) 28 1 nowv n nv ∧ ∀ i v, nv[i]? = some v → PcVal w v (curN.getD i [])
  wrt : ∀ b, Wrt Lb H rb b → w.heap.size ≤ b
section
variable {w W W' : World} {t Lb Rb Rc H n : Nat} {rb : Nat → Nat} {A : Nat → Prop} {cur curN : List (List Int)} {nowv : Value}
theorem TnS.weak (h : TnS w t Lb Rb Rc H rb n A cur curN nowv W) {A' : Nat → Prop} (hA : ∀ c, A' c → A c) : TnS w t Lb Rb Rc H rb n A' cur curN nowv W := by
  obtain ⟨vs, h1, h2⟩ := h.tree
  exact ⟨h.below, h.clen, h.nlen, h.short, ⟨vs, h1, fun v hv c o q k e hc => h2 v hv c o q k e (hA c hc)⟩, h.now, h.wrt⟩
theorem TnS.out (h : TnS w t Lb Rb Rc H rb n A cur curN nowv W) : TnS w t Lb Rb Rc H rb n (fun c => W.heap.size ≤ c ∨ A c) cur curN nowv W := by
  obtain ⟨vs, h1, h2⟩ := h.tree
  refine ⟨h.below, h.clen, h.nlen, h.short, ⟨vs, h1, fun v hv c o q k e hc => ?_⟩, h.now, h.wrt⟩
  rcases hc with hc | hc
  · obtain ⟨i, hi⟩ := List.mem_iff_getElem?.1 hv
    obtain ⟨sp, cap, e1, _, h3⟩ := h1.vpc i v hi
    rw [e1] at e
    cases e
    obtain ⟨C, fr, h4⟩ := h3 c o rfl
    have := (Array.getElem?_eq_some_iff.1 h4).1
    omega
  · exact h2 v hv c o q k e hc
theorem TnS.later (h : TnS w t Lb Rb Rc H rb n A cur curN nowv W) (hb : Below W.heap.size W W') : TnS w t Lb Rb Rc H rb n (fun c => W.heap.size ≤ c ∨ A c) cur curN nowv W' := by
  have h' := h.out
  obtain ⟨vs, h1, h2⟩ := h'.tree
  obtain ⟨nv, h3, h4⟩ := h.now
  exact ⟨h.below.trans (hb.mono h.below.size), h.clen, h.nlen, h.short, ⟨vs, h1.below hb, h2⟩, ⟨nv, owns_below h3 hb, h4⟩, h.wrt⟩
theorem below_set {w W : World} (h : Below w.heap.size w W) (g j : Nat) (u : Value) (hg : w.heap.size ≤ g) : Below w.heap.size w (W.setCell ⟨g, j, none⟩ u) :=
  ⟨h.os, h.tape, h.output, by have := h.size; simpa using this, fun b hb => (heap_setCell_other W ⟨g, j, none⟩ b u (fun e => by simp at e; omega)).trans (h.block b hb)⟩
/-- a block of bytes where no leaf lies is turned -/
theorem TnS.turn (h : TnS w t Lb Rb Rc H rb n A cur curN nowv W) (g j : Nat) (u : Value) (hA : A g) (hg : w.heap.size ≤ g) (h5 : ∃ C fr, W.heap[g]? = some (.cells C 5 fr)) : TnS w t Lb Rb Rc H rb n A cur curN nowv (W.setCell ⟨g, j, none⟩ u) := by
  have hk : ∀ b, b ≠ g → (W.setCell ⟨g, j, none⟩ u).heap[b]? = W.heap[b]? := fun b hb => heap_setCell_other W ⟨g, j, none⟩ b u (fun e => hb (by simpa using e))
  obtain ⟨vs, h1, h2⟩ := h.tree
  obtain ⟨nv, h3, h4⟩ := h.now
  refine ⟨below_set h.below g j u hg, h.clen, h.nlen, h.short, ⟨vs, h1.kept5 g h5 (fun v hv c o q k e hc => h2 v hv c o q k e (hc ▸ hA)) hk, h2⟩, ⟨nv, ⟨h3.1, ?_⟩, h4⟩, h.wrt⟩
  obtain ⟨C, fr, h5⟩ := h5
  rcases h3.2 with h0 | ⟨B0, cap, cu, e1, e2, e3, e4⟩
  · exact .inl h0
  · refine .inr ⟨B0, cap, cu, e1, e2, (hk B0 (fun e => ?_)).trans e3, e4⟩
    rw [e, h5] at e3
    cases e3
/-- a leaf of the row is set -/
theorem TnS.put {B0 cap : Nat} (h : TnS w t Lb Rb Rc H rb n A cur curN (.slice (some ⟨B0, 0, none⟩) n cap) W) (i : Nat) (v : Value) (l : List Int) (hv : PcVal w v l) (hi : i < n) : TnS w t Lb Rb Rc H rb n A cur (curN.set i l) (.slice (some ⟨B0, 0, none⟩) n cap) (W.setCell ⟨B0, i, none⟩ v) := by
  have hk : ∀ b, b ≠ B0 → (W.setCell ⟨B0, i, none⟩ v).heap[b]? = W.heap[b]? := fun b hb => heap_setCell_other W ⟨B0, i, none⟩ b v (fun e => hb (by simpa using e))
  obtain ⟨vs, h1, h2⟩ := h.tree
  obtain ⟨nv, h3, h4⟩ := h.now
  have hB := (h3.lt B0 rfl).1
  have hLb := h.wrt Lb (.inl rfl)
  refine ⟨below_set h.below B0 i v (by omega), h.clen, by rw [List.length_set]; exact h.nlen, h.short, ⟨vs, h1.keptN B0 ?_ (by omega) hk, h2⟩, ⟨nv.set i v, (h3.stored i v).1, fun k x hx => ?_⟩, h.wrt⟩
  · rcases h3.2 with ⟨h0, _⟩ | ⟨B1, cp, cu, e1, e2, e3, e4⟩
    · cases h0
    · cases e1
      exact ⟨cu, (0, 0), e3⟩
  · rw [List.getElem?_set] at hx
    have hnl : curN.length = n := h.nlen
    split at hx
    · subst_vars
      split at hx
      · cases hx
        simpa [hi] using hv
      · cases hx
    · rename_i hne
      have := h4 k x hx
      rwa [show (curN.set i l).getD k [] = curN.getD k [] by simp [List.getD_eq_getElem?_getD, hne]]
theorem TnS.c0 (h : TnS w t Lb Rb Rc H rb n A cur curN nowv W) : W.cell? ⟨t, 0, none⟩ = some (.slice (some ⟨Lb, 0, none⟩) n n) := by
  obtain ⟨vs, h1, _⟩ := h.tree
  have := h1.c0
  rwa [h.clen] at this
theorem TnS.env (h : TnS w t Lb Rb Rc H rb n A cur curN nowv W) (he : Env w) : Env W := he.below h.below
/-- the row, as what is handed on -/
theorem TnS.pcs (h : TnS w t Lb Rb Rc H rb n A cur curN nowv W) : ∃ sp cap, nowv = .slice sp n cap ∧ Pcs W sp cap curN := by
  obtain ⟨nv, h3, h4⟩ := h.now
  have hl : nv.length = n := by have := h3.1; simpa using this
  have hnl := h.nlen
  rcases h3.2 with ⟨e1, e2⟩ | ⟨B0, cap, cu, e1, e2, e3, e4, e5, e6, e7⟩
  · subst e2
    obtain rfl : curN = [] := List.eq_nil_of_length_eq_zero hnl
    exact ⟨none, 0, e1, Pcs.nil W⟩
  · refine ⟨_, cap, e1, nv, by omega, ⟨by omega, e5, (fun e => by cases e), fun _ => ⟨B0, 0, rfl, fun i v hv => ?_⟩⟩, fun i v hv => (h4 i v hv).below h.below⟩
    have hi : i < nv.length := (List.getElem?_eq_some_iff.1 hv).1
    subst e1
    rw [Nat.zero_add, h3.cellAt i (by omega), hv]
/-- Set of a place that is there -/
theorem TnS.tset (h : TnS w t Lb Rb Rc H rb n A cur curN nowv W) (he : Env w) (h2w : 2 ≤ w.heap.size) (i : Nat) (hi : i < n) (s2 : Option Addr) (m c2 : Nat) (l : List Int) (hlm : l.length = m) (hby : Byt W s2 c2 l) (hm : m ≤ 100) :
    Calls Tryd.prog 25 #[.pointer (some ⟨t, 0, none⟩), .int .i64 i, .slice s2 m c2] W fun e W' => e = .returned (.int .i64 0) ∧ TnS w t Lb Rb Rc H rb n (fun c => A c ∧ c < W.heap.size) (cur.set i l) curN nowv W' ∧ Chg (Wrt Lb H rb) W W' := by
  obtain ⟨vs, h1, h2⟩ := h.tree
  refine (set_own W cur t Lb Rb Rc H vs rb i s2 m c2 l h1 (by rw [h.clen]; exact hi) (h.env he) (fun b hb => Nat.le_trans h2w (h.wrt b hb)) hlm hby (by omega)).mono ?_
  rintro e W' ⟨rfl, v', hT, hF, hC⟩
  refine ⟨rfl, ⟨?_, by rw [List.length_set]; exact h.clen, h.nlen, fun x hx => ?_, ⟨_, hT, fun v hv c o q k e hc => ?_⟩, ?_, h.wrt⟩, hC⟩
  · have hb := h.below
    exact ⟨hC.os.trans hb.os, hC.tape.trans hb.tape, hC.output.trans hb.output, Nat.le_trans hb.size hC.size, fun b hlt => (hC.block b (Nat.lt_of_lt_of_le hlt hb.size) (fun hw => by have := h.wrt b hw; omega)).trans (hb.block b hlt)⟩
  · rcases List.mem_or_eq_of_mem_set hx with hx | rfl
    · exact h.short x hx
    · omega
  · rcases List.mem_or_eq_of_mem_set hv with hv | rfl
    · exact h2 v hv c o q k e hc.1
    · have := hF c o q k e
      omega
  · obtain ⟨nv, h3, h4⟩ := h.now
    refine ⟨nv, ⟨h3.1, ?_⟩, h4⟩
    rcases h3.2 with h0 | ⟨B0, cap, cu, e1, e2, e3, e4⟩
    · exact .inl h0
    · exact .inr ⟨B0, cap, cu, e1, e2, (hC.block B0 (Array.getElem?_eq_some_iff.1 e3).1 (h1.notWrt e3 (by decide) (.inr (by omega)))).trans e3, e4⟩
/-- what else there is after Set: blocks of another type -/
theorem TnS.other (h : TnS w t Lb Rb Rc H rb n A cur curN nowv W) (hC : Chg (Wrt Lb H rb) W W') {b : Nat} {C : Array Value} {ty : TypeId} {fr : Nat × Nat} (hb : W.heap[b]? = some (.cells C ty fr)) (h1 : ty ≠ 24) (h2 : ty ≠ 28) : W'.heap[b]? = some (.cells C ty fr) := by
  obtain ⟨vs, hT, _⟩ := h.tree
  exact (hC.block b (Array.getElem?_eq_some_iff.1 hb).1 (hT.notWrt hb h1 (.inl h2))).trans hb
end
end Go.Proofs.YtighmhoekbnagaaDoor
namespace Go.Proofs.YtighmhoekbnagaaDoor
open Go.ChangeShapes Go.WideShapes Go.ChangeAt Go.RowKit

section
variable {w W W' : World} {t Lb Rb Rc H n : Nat} {rb : Nat → Nat} {A : Nat → Prop} {cur curN : List (List Int)} {nowv : Value}
theorem TnS.mild (h : TnS w t Lb Rb Rc H rb n A cur curN nowv W) (hn : n ≤ 20) : Mild cur := ⟨by rw [h.clen]; omega, fun l hl => Nat.le_trans (h.short l hl) (by omega)⟩
theorem TnS.troot (h : TnS w t Lb Rb Rc H rb n A cur curN nowv W) (he : Env w) : Calls Tryd.prog 24 #[.pointer (some ⟨t, 0, none⟩)] W fun e W' => e = .returned (.agg (rowB (rootD cur))) ∧ Below W.heap.size W W' := by
  obtain ⟨vs, h1, _⟩ := h.tree
  by_cases h0 : 0 < cur.length
  · exact troot_any W cur t Lb Rb Rc H vs rb h1 h0
  · obtain rfl : cur = [] := List.eq_nil_of_length_eq_zero (by omega)
    exact troot_none W _ (h.env he) (.inr ⟨t, _, _, rfl, h1.c0⟩)
theorem TnS.tget (h : TnS w t Lb Rb Rc H rb n A cur curN nowv W) (i : Nat) (hi : i < n) :
    Calls Tryd.prog 30 #[.pointer (some ⟨t, 0, none⟩), .int .i64 i] W fun e w' => ∃ v, e = .returned (.tuple #[v, .int .i64 0]) ∧ w'.ownsRow W.heap.size 5 1 v (cur.getD i []).length ((cur.getD i []).map (Value.int .u8)) ∧ Below W.heap.size W w' := by
  obtain ⟨vs, h1, _⟩ := h.tree
  have hc := h.clen
  exact get_row W cur t Lb Rb Rc H vs rb i h1 (by omega) (by have := h.short _ (getD_mem cur i (by omega)); omega)
theorem TnS.tprove (h : TnS w t Lb Rb Rc H rb n A cur curN nowv W) (i : Nat) (hi : i < n) :
    Calls Tryd.prog 26 #[.pointer (some ⟨t, 0, none⟩), .int .i64 i] W fun e w' => ∃ sp' cap', e = .returned (.tuple #[.slice sp' (proofD i cur).length cap', .int .i64 0]) ∧ Digs w' sp' cap' (proofD i cur) ∧ Below W.heap.size W w' := by
  obtain ⟨vs, h1, _⟩ := h.tree
  exact tprove_any i W cur t Lb Rb Rc H vs rb h1 (by rw [h.clen]; exact hi)
end
/-- an operation in its box -/
def OpBox (g : Nat) (ask I : Int) (sL : Option Addr) (m cL : Nat) (W : World) : Prop := W.heap[g]? = some (.cells #[.int .i64 ask, .int .i64 I, .slice sL m cL] 57 (0, 0))
section
variable {g m cL : Nat} {ask I : Int} {sL : Option Addr} {W W' : World}
theorem OpBox.below (h : OpBox g ask I sL m cL W) (hb : Below W.heap.size W W') : OpBox g ask I sL m cL W' := (hb.block _ (Array.getElem?_eq_some_iff.1 h).1).trans h
theorem OpBox.c0 (h : OpBox g ask I sL m cL W) : W.cell? ⟨g, 0, none⟩ = some (.int .i64 ask) := by rw [cell_of_row _ _ _ _ _ _ h]; rfl
theorem OpBox.c1 (h : OpBox g ask I sL m cL W) : W.cell? ⟨g, 1, none⟩ = some (.int .i64 I) := by rw [cell_of_row _ _ _ _ _ _ h]; rfl
theorem OpBox.c2 (h : OpBox g ask I sL m cL W) : W.cell? ⟨g, 2, none⟩ = some (.slice sL m cL) := by rw [cell_of_row _ _ _ _ _ _ h]; rfl
theorem OpBox.set (h : OpBox g ask I sL m cL W) (go j : Nat) (u : Value) (h5 : ∃ C ty fr, W.heap[go]? = some (.cells C ty fr) ∧ ty ≠ 57) : OpBox g ask I sL m cL (W.setCell ⟨go, j, none⟩ u) := by
  refine (heap_setCell_other W ⟨go, j, none⟩ g u (fun e => ?_)).trans h
  obtain ⟨C, ty, fr, h1, h2⟩ := h5
  have e' : g = go := by simpa using e
  subst e'
  rw [h] at h1
  cases h1
  exact h2 rfl
end
theorem TnS.pcsOf {w W : World} {t Lb Rb Rc H n : Nat} {rb : Nat → Nat} {A : Nat → Prop} {cur curN : List (List Int)} {sp : Option Addr} {cp : Nat} (h : TnS w t Lb Rb Rc H rb n A cur curN (.slice sp n cp) W) : Pcs W sp cp curN := by
  obtain ⟨_, _, e, hp⟩ := h.pcs
  cases e
  exact hp
section
variable {w W W' : World} {t Lb Rb Rc H n : Nat} {rb : Nat → Nat} {A : Nat → Prop} {cur curN : List (List Int)} {nowv : Value}
theorem TnS.own (h : TnS w t Lb Rb Rc H rb n A cur curN nowv W) (hC : Chg (Wrt Lb H rb) W W') {base k : Nat} {v : Value} {xs : List Value} (ho : W.ownsRow base 5 1 v k xs) : W'.ownsRow base 5 1 v k xs := by
  refine ⟨ho.1, ?_⟩
  rcases ho.2 with h0 | ⟨g, cap, cu, e1, e2, e3, e4⟩
  · exact .inl h0
  · exact .inr ⟨g, cap, cu, e1, e2, h.other hC e3 (by decide) (by decide), e4⟩
theorem TnS.box {g m cL : Nat} {ask I : Int} {sL : Option Addr} (h : TnS w t Lb Rb Rc H rb n A cur curN nowv W) (hC : Chg (Wrt Lb H rb) W W') (hb : OpBox g ask I sL m cL W) : OpBox g ask I sL m cL W' := h.other hC hb (by decide) (by decide)
theorem TnS.slot {sp : Option Addr} {cp : Nat} (h : TnS w t Lb Rb Rc H rb n A cur curN (.slice sp n cp) W) (h0 : 0 < n) : ∃ B0, sp = some ⟨B0, 0, none⟩ := by
  obtain ⟨nv, h3, _⟩ := h.now
  rcases h3.2 with ⟨_, e⟩ | ⟨B0, cap, cu, e1, _⟩
  · omega
  · cases e1
    exact ⟨B0, rfl⟩
theorem TnS.slotAt {B0 cp : Nat} (h : TnS w t Lb Rb Rc H rb n A cur curN (.slice (some ⟨B0, 0, none⟩) n cp) W) (i : Nat) (hi : i < n) : ∃ s c, W.cell? ⟨B0, i, none⟩ = some (.slice s (curN.getD i []).length c) ∧ Byt W s c (curN.getD i []) := by
  obtain ⟨nv, h3, h4⟩ := h.now
  have hl : nv.length = n := by have := h3.1; simpa using this
  have hv : nv[i]? = some (nv[i]'(by omega)) := List.getElem?_eq_getElem (by omega)
  obtain ⟨s, c, e, hb⟩ := h4 i _ hv
  exact ⟨s, c, by rw [h3.cellAt i (by omega), hv, e], hb.below h.below⟩
theorem TnS.slotFree {B0 cp : Nat} (h : TnS w t Lb Rb Rc H rb n A cur curN (.slice (some ⟨B0, 0, none⟩) n cp) W) (i : Nat) : W.frozen? ⟨B0, i, none⟩ = false := by
  obtain ⟨nv, h3, _⟩ := h.now
  exact h3.frozenAt i
end
set_option maxRecDepth 100000 in
set_option maxHeartbeats 4000000 in
theorem turns_main (w : World) (sp s2 : Option Addr) (n cap K c2 : Nat) (ls : List (List Int)) (hn : ls.length = n) (hP : Pcs w sp cap ls) (he : Env w) (hf : few ls = true) (os : List OpV) (hK : os.length = K) (hO : Ops w s2 os) (hK20 : K ≤ 20) :
    Calls Tryd.prog 7 #[.slice sp n cap, .slice s2 K c2] w fun e w' => e = .returned (.bool true) ∧ Below w.heap.size w w' := by
  have HE := Lib.hid he
  have HF := Lib.hid (few_any w sp n cap ls hn hP)
  rw [hf] at HF
  have hd1 : decide ((20 : Int) < (K : Int)) = false := decide_eq_false (by omega)
  have hd1' : decide (20 < K) = false := decide_eq_false (by omega)
  have hlong := (few_yes hf).1
  have hmild : Mild ls := few_mild hf
  have hn20 : n ≤ 20 := by rw [← hn]; exact (few_yes hf).2
  have HNw := Lib.hid (fun W (hb : Below w.heap.size w W) => newT_any W sp n cap ls hn (hP.below hb) (he.below hb) hmild (fun l hl => Nat.le_trans (hlong l hl) (by omega)))
  have HN := Lib.hid hn
  obtain ⟨vs0, hv0, hsl0, hpc0⟩ := hP.ex
  rw [hn] at hv0
  have HV0 := Lib.hid hv0
  have HSl := Lib.hid (fun W (hb : Below w.heap.size w W) => hsl0.below (Nat.le_refl _) hb)
  have HPc := Lib.hid hpc0
  have HSh := Lib.hid hlong
  have h1v : ∀ v ∈ vs0, v.oneCell' = true := fun v hv => by
    obtain ⟨i, hi⟩ := List.mem_iff_getElem?.1 hv
    obtain ⟨s, c, e, _⟩ := hpc0 i v hi
    rw [e]; rfl
  have H1v := Lib.hid h1v
  have h2w := he.two
  have HO := Lib.hid hO
  have HK := Lib.hid hK
  have hnil : ∀ (W : World) (t : Nat), (binOp .eql 46 (.pointer (some ⟨t, 0, none⟩)) (.pointer none)).run Tryd.prog W = .ok (.bool false) W := fun _ _ => rfl
  clear hn hP he hf hK hO hlong hmild hv0 hsl0 hpc0 h1v
  go_enter Tryd.func7, Tryd.ntmps7
  go_upto_region 3 with (go_at_call 9; refine HF.out.mono ?_; rintro e w' ⟨rfl, q, rfl⟩; have H2 := Lib.hid (below_drewN (Below.refl w.heap.size w) q))
  go_wp2_with fail
  refine (HNw.out _ H2.out).mono ?_
  rintro e w3 ⟨Rb, Rc, H, vs, rb, rfl, hT, hpast, hb3⟩
  obtain ⟨Lb, hLb⟩ : ∃ t, (w.drewN q).heap.size = t := ⟨_, rfl⟩
  rw [hLb] at hT hpast ⊢
  have hLw : w.heap.size ≤ Lb := by rw [← hLb]; exact H2.out.size
  obtain ⟨t, ht⟩ : ∃ t, Lb + 1 = t := ⟨_, rfl⟩
  rw [ht] at hT ⊢
  have HT := Lib.hid hT
  have H3 := Lib.hid (H2.out.trans (hb3.mono H2.out.size))
  have hwr : ∀ b, Wrt Lb H rb b → w.heap.size ≤ b := fun b hs => by
    rcases hs with rfl | ⟨h, hh, rfl⟩
    · exact hLw
    · exact Nat.le_trans hLw (hpast h hh)
  have HWr := Lib.hid hwr
  have hc0 := hT.c0
  rw [HN.out] at hc0
  have hsz3 : Lb + 1 ≤ w3.heap.size := by
    have := (Array.getElem?_eq_some_iff.1 hT.top).1
    omega
  have HLn := Lib.hid (tlen_at w3 t n n (some ⟨Lb, 0, none⟩) hc0)
  clear hT hb3 hLb hpast hwr hc0 H2 HF HNw
  have ht3 : Lb + 1 ≤ t := by omega
  clear ht
  go_upto_region 7 with (go_at_call 29; refine HLn.out.mono ?_; rintro e w' ⟨rfl, rfl⟩)
  go_upto_region 8 with (refine wpList_append_sl 22 28 24 (.slice none 0 0) Tryd.underlying22 info28 rfl (by decide) rfl (.tmp 40) (.tmp 41) rfl (Lb + 1) (.slice none 0 0) 0 n [] vs0 rfl ⟨rfl, .inl ⟨rfl, rfl⟩⟩ sp cap rfl HV0.out (HSl.out w3 H3.out) H1v.out (by omega) hsz3 ?_; intro nowv w4 hown hg; have HOw := Lib.hid hown; have HG := Lib.hid hg; clear hown hg)
  have hb4 : Below w3.heap.size w3 w4 := Below.ofGrown HG.out (Nat.le_refl _) (fun k e => by simp [Value.ownBlock] at e)
  have hst : TnS w t Lb Rb Rc H rb n (fun _ => False) ls ls nowv w4 := ⟨H3.out.trans (hb4.mono H3.out.size), HN.out, HN.out, HSh.out, ⟨vs, HT.out.below hb4, fun _ _ _ _ _ _ _ h => h⟩, ⟨vs0, by have := HOw.out; rw [Nat.zero_add] at this; exact this, HPc.out⟩, HWr.out⟩
  obtain ⟨spn, cpn, hnv, _⟩ := hst.pcs
  subst hnv
  have HS := Lib.hid hst
  clear hst hb4 HOw HG HT H3 HWr HLn hsz3 HV0 HSl HPc HSh H1v
  go_wp2
  go_loopw [7] (fun kk wr => ∃ (k : Nat) (cur : List (List Int)), kk = .int .i64 k ∧ k ≤ K ∧ TnS w t Lb Rb Rc H rb n (fun _ => False) cur cur (.slice spn n cpn) wr) (fun kk _ => K - (intOf kk).toNat)
  case atStart => exact ⟨0, ls, rfl, by omega, HS.out⟩
  case round =>
    clear HS
    obtain ⟨k, cur, rfl, hkK, hs⟩ := hrel
    have HS := Lib.hid hs
    clear hs
    by_cases hlt : k < K
    · have d1 : decide ((k : Int) < (K : Int)) = true := decide_eq_true (by omega)
      have d1' : decide (k < K) = true := decide_eq_true (by omega)
      obtain ⟨co, oo, hsp2, hlies⟩ := HO.out.lies (by rw [HK.out]; omega)
      have hx1 := hlies k (by rw [HK.out]; exact hlt)
      have hx2 := HO.out.fits _ (List.getElem_mem (by rw [HK.out]; exact hlt : k < os.length))
      obtain ⟨x, hx⟩ : ∃ x, os[k]'(by rw [HK.out]; exact hlt) = x := ⟨_, rfl⟩
      rw [hx] at hx1 hx2
      clear hx hlies
      obtain ⟨ask, I, sL, cL, lf⟩ := x
      obtain ⟨ml, hm⟩ : ∃ m, lf.length = m := ⟨_, rfl⟩
      have hcs : (OpV.mk ask I sL cL lf).cells = [.int .i64 ask, .int .i64 I, .slice sL ml cL] := by unfold OpV.cells; rw [hm]
      have HX := Lib.hid hx2
      have HM := Lib.hid hm
      have hra : wr.rangeAt co (oo + 3 * k) [.int .i64 ask, .int .i64 I, .slice sL ml cL] := by
        rw [hcs] at hx1
        exact fun j v hv => (HS.out.below.cell (block_lt_of_cell (hx1 j v hv))).trans (hx1 j v hv)
      have HRa := Lib.hid hra
      subst hsp2
      clear hra hx1 hx2 hcs hm
      go_upto_region 12 with (first
        | (refine wpList_val rfl (.pointer (some ⟨co, oo + 3 * k, none⟩)) (exec_op_at (.tmp 49) (.tmp 50) rfl co oo K c2 k rfl rfl hlt) ?_)
        | (refine wpList_load_mid rfl 57 (.tmp 51) rfl co (oo + 3 * k) rfl _ _ HRa.out Tryd.underlying57 rfl sizeOp ?_)
        | (refine wpList_store_row rfl 57 (.tmp 8) (.tmp 52) rfl wr.heap.size #[.int .i64 ask, .int .i64 I, .slice sL ml cL] rfl rfl 57 _ (heap_alloc_new _ _) sizeOp rfl rfl ?_))
      refine gen_world (Q := fun w => Code.wp _ _ _ _ w) _ (fun W => TnS w t Lb Rb Rc H rb n (fun c => wr.heap.size ≤ c ∨ False) cur cur (.slice spn n cpn) W ∧ OpBox wr.heap.size ask I sL ml cL W) ⟨HS.out.later ((Below.refl _ _).alloc (Nat.le_refl _) _), heap_alloc_new _ _⟩ ?_
      rintro w5 ⟨hz5, hb5⟩
      obtain ⟨g, hg⟩ : ∃ g, wr.heap.size = g := ⟨_, rfl⟩
      rw [hg] at hz5 hb5 ⊢
      have HZ5 := Lib.hid hz5
      have HB5 := Lib.hid hb5
      have hb0 := hb5.c0
      have hb1 := hb5.c1
      have hb2 := hb5.c2
      have HBy := Lib.hid (HX.out.2.2.below hz5.below)
      have hw5 : w.heap.size ≤ w5.heap.size := hz5.below.size
      clear hz5 hb5 hg HS HRa
      by_cases hml : ml ≤ 100
      · have dl : decide ((100 : Int) < (ml : Int)) = false := decide_eq_false (by omega)
        have dl' : decide (100 < ml) = false := decide_eq_false (by omega)
        by_cases ha : ask = 0
        · have da : decide (ask = 0) = true := decide_eq_true ha
          have da' : (ask == 0) = true := by simp [ha]
          by_cases hin : 0 ≤ I ∧ I < n
          · skip
            obtain ⟨i, hI⟩ := Int.eq_ofNat_of_zero_le hin.1
            have hi' : i < n := by have := hin.2; omega
            subst hI
            have di : decide (0 ≤ (i : Int)) = true := decide_eq_true (by omega)
            have di1 : decide ((i : Int) < (n : Int)) = true := decide_eq_true (by omega)
            have di2 : decide (i < n) = true := decide_eq_true (by omega)
            obtain ⟨B0, eB⟩ := HZ5.out.slot (by omega)
            subst eB
            go_upto_region 17 with (refine wpList_append_sl 28 5 1 (.int .u8 0) Tryd.underlying28 info5 rfl (by decide) rfl (.tmp 70) (.tmp 72) rfl w5.heap.size (.slice none 0 0) 0 ml [] (lf.map (Value.int .u8)) rfl ⟨rfl, .inl ⟨rfl, rfl⟩⟩ sL cL rfl (by rw [List.length_map]; exact HM.out) (byt_iff.1 HBy.out) (fun v hv => by obtain ⟨x, _, rfl⟩ := List.mem_map.1 hv; rfl) (by omega) (Nat.le_refl _) ?_; intro own w6 hown hg6; have HO6 := Lib.hid hown; have HG6 := Lib.hid (Below.ofGrown hg6 (Nat.le_refl _) (fun k e => by simp [Value.ownBlock] at e) : Below w5.heap.size w5 w6); clear hown hg6)
            have ho6 : w6.ownsRow w5.heap.size 5 1 own ml (lf.map (Value.int .u8)) := by have := HO6.out; rwa [Nat.zero_add] at this
            obtain ⟨so, co6, e6, _, hby6⟩ := own_bytT ho6
            subst e6
            have HO6 := Lib.hid ho6
            have HBy6 := Lib.hid hby6
            have HZ6 := Lib.hid (HZ5.out.later HG6.out)
            have HB6 := Lib.hid (HB5.out.below HG6.out)
            have hb0 := HB6.out.c0
            have hb1 := HB6.out.c1
            have hb2 := HB6.out.c2
            have ht0 := HZ6.out.c0
            clear ho6 hby6 HZ5 HB5 HG6
            have HSt := Lib.hid (HZ6.out.tset HE.out h2w i hi' so ml co6 lf HM.out HBy6.out hml)
            clear ht0
            go_wp2_with (go_at_call 25; refine HSt.out.mono ?_; rintro e w7 ⟨rfl, hz7, hch⟩; have HZ7 : Hid (TnS w t Lb Rb Rc H rb n (fun c => (Value.slice so ml co6).ownBlock = some c) (cur.set i lf) cur (.slice (some ⟨B0, 0, none⟩) n cpn) w7) := Lib.hid (hz7.weak (fun c hc => ⟨.inl (HO6.out.lt c hc).1, (HO6.out.lt c hc).2⟩)); have HO7 := Lib.hid (HZ6.out.own hch HO6.out); have HB7 := Lib.hid (HZ6.out.box hch HB6.out); clear hz7 hch hb0 hb1 hb2; have hb0 := HB7.out.c0; have hb1 := HB7.out.c1; have hb2 := HB7.out.c2)
            go_loopw [12] (fun jj wr => ∃ (j : Nat) (xs : List Value), jj = .int .i64 j ∧ j ≤ ml ∧ wr.ownsRow w5.heap.size 5 1 (Value.slice so ml co6) ml xs ∧ (∀ v ∈ xs, ∃ z, v = .int .u8 z) ∧ TnS w t Lb Rb Rc H rb n (fun c => (Value.slice so ml co6).ownBlock = some c) (cur.set i lf) cur (.slice (some ⟨B0, 0, none⟩) n cpn) wr ∧ OpBox g ask (i : Int) sL ml cL wr) (fun jj _ => ml - (intOf jj).toNat)
            case atStart => exact ⟨0, _, rfl, by omega, HO7.out, fun v hv => by obtain ⟨x, _, rfl⟩ := List.mem_map.1 hv; exact ⟨x, rfl⟩, HZ7.out, HB7.out⟩
            case round =>
              clear HZ7 HB7 HO7
              obtain ⟨j, xs, rfl, hjm, ho, hxs, hz, hbx⟩ := hrel
              by_cases hj : j < ml
              · have dj : decide ((j : Int) < (ml : Int)) = true := decide_eq_true (by omega)
                have dj' : decide (j < ml) = true := decide_eq_true (by omega)
                have HQ : Hid (∃ go, so = some ⟨go, 0, none⟩ ∧ w5.heap.size ≤ go ∧ ∃ cu, wr.heap[go]? = some (.cells cu 5 (0, 0))) := by
                  rcases ho.2 with ⟨_, e0⟩ | ⟨go, cp, cu, e1, e2, e3, _⟩
                  · omega
                  · cases e1
                    exact ⟨go, rfl, e2, cu, e3⟩
                obtain ⟨go, eo, hbg, cu, hcu⟩ := HQ.out
                have hlx : xs.length = ml := by have := ho.1; simpa using this
                obtain ⟨z, hz1⟩ := hxs _ (List.getElem_mem (by omega : j < xs.length))
                have hz2 : xs[j]? = some (.int .u8 z) := by rw [List.getElem?_eq_getElem (by omega), hz1]
                subst eo
                have hcell : wr.cell? ⟨go, j, none⟩ = some (.int .u8 z) := (ho.cellAt j (by omega)).trans hz2
                have hfz : wr.frozen? ⟨go, j, none⟩ = false := ho.frozenAt j
                have HS1 := Lib.hid (fun u => (ho.stored j u).1)
                have HS2 := Lib.hid (fun u => hz.turn go j u rfl (by omega) ⟨cu, (0, 0), hcu⟩)
                have HS3 := Lib.hid (fun u => hbx.set go j u ⟨cu, 5, (0, 0), hcu, by decide⟩)
                have HXs := Lib.hid (fun (u : Int) v (hv : v ∈ xs.set j (.int .u8 u)) => ((List.mem_or_eq_of_mem_set hv).elim (fun h => hxs v h) (fun h => ⟨u, h⟩) : ∃ z, v = .int .u8 z))
                clear ho hxs hz hbx hz1 hz2 HQ hcu hlx
                go_wp2
                go_roundw
                case rel => exact ⟨j + 1, _, by go_num, by omega, HS1.out _, HXs.out _, HS2.out _, HS3.out _⟩
                case measure => simp [intOf]; omega
              · have dj : decide ((j : Int) < (ml : Int)) = false := decide_eq_false (by omega)
                have dj' : decide (j < ml) = false := decide_eq_false (by omega)
                have HZ := Lib.hid hz
                have HB := Lib.hid hbx
                have hb0 := HB.out.c0
                have hb1 := HB.out.c1
                have hb2 := HB.out.c2
                clear ho hxs hz hbx
                obtain ⟨s9, c9, hc9, _⟩ := HZ.out.slotAt i hi'
                have hf9 := HZ.out.slotFree i
                go_upto_region 35 with fail
                refine gen_world (Q := fun w => Code.wp _ _ _ _ w) _ (fun W => TnS w t Lb Rb Rc H rb n (fun c => (Value.slice so ml co6).ownBlock = some c) (cur.set i lf) (cur.set i lf) (.slice (some ⟨B0, 0, none⟩) n cpn) W) (HZ.out.put i _ lf ⟨sL, cL, by rw [HM.out], HX.out.2.2⟩ hi') ?_
                intro w8 hz8
                have HZ8 := Lib.hid hz8
                clear hz8 HZ HB hb0 hb1 hb2 hc9 hf9
                have HR1 := Lib.hid (HZ8.out.troot HE.out)
                have HMi := Lib.hid (HZ8.out.mild hn20)
                have HNl := Lib.hid (HZ8.out.nlen)
                have h32 := rootD_length (cur.set i lf)
                have eR : ∀ W : World, (binOp .neq 24 (.agg (rowB (rootD (cur.set i lf)))) (.agg (rowB (rootD (cur.set i lf))))).run Tryd.prog W = .ok (.bool false) W := fun W => by
                  rw [run_neq_row (P := Tryd.prog) 24 5 32 .u8 Tryd.underlying24 Tryd.underlying5 size5 _ _ h32 h32 W]
                  simp
                have HeR := Lib.hid eR
                clear eR h32
                obtain ⟨R, hR⟩ : ∃ R, rootD (cur.set i lf) = R := ⟨_, rfl⟩
                rw [hR] at HeR HR1
                have HRe := Lib.hid hR
                have eR := HeR.out
                clear hR
                go_upto_region 36 with (first
                  | (go_at_call 24; refine HR1.out.mono ?_; rintro e v1 ⟨rfl, hq1⟩; have HY1 := Lib.hid (HZ8.out.later hq1); clear hq1)
                  | (go_at_call 13; refine (root_any _ (some ⟨B0, 0, none⟩) n cpn (cur.set i lf) HNl.out HY1.out.pcsOf (HY1.out.env HE.out) HMi.out).mono ?_; rw [HRe.out]; rintro e v2 ⟨rfl, hq2⟩; have HY2 := Lib.hid (HY1.out.later hq2); have hcL := HY2.out.c0; clear hq2)
                  | (go_at_call 29; refine (tlen_at _ t n n _ hcL).mono ?_; rintro e v3 ⟨rfl, rfl⟩))
                go_wp2
                go_roundw
                case rel => exact ⟨k + 1, (cur.set i lf), by go_num, by omega, HY2.out.weak (fun _ h => h.elim)⟩
                case measure => simp [intOf]; omega
          · by_cases h0 : 0 ≤ I
            · have di : decide (0 ≤ I) = true := decide_eq_true h0
              have di' : decide (I < (n : Int)) = false := decide_eq_false (by omega)
              go_upto_region 17 with (refine wpList_append_sl 28 5 1 (.int .u8 0) Tryd.underlying28 info5 rfl (by decide) rfl (.tmp 70) (.tmp 72) rfl w5.heap.size (.slice none 0 0) 0 ml [] (lf.map (Value.int .u8)) rfl ⟨rfl, .inl ⟨rfl, rfl⟩⟩ sL cL rfl (by rw [List.length_map]; exact HM.out) (byt_iff.1 HBy.out) (fun v hv => by obtain ⟨x, _, rfl⟩ := List.mem_map.1 hv; rfl) (by omega) (Nat.le_refl _) ?_; intro own w6 hown hg6; have HO6 := Lib.hid hown; have HG6 := Lib.hid (Below.ofGrown hg6 (Nat.le_refl _) (fun k e => by simp [Value.ownBlock] at e) : Below w5.heap.size w5 w6); clear hown hg6)
              have ho6 : w6.ownsRow w5.heap.size 5 1 own ml (lf.map (Value.int .u8)) := by have := HO6.out; rwa [Nat.zero_add] at this
              obtain ⟨so, co6, e6, _, hby6⟩ := own_bytT ho6
              subst e6
              have HO6 := Lib.hid ho6
              have HBy6 := Lib.hid hby6
              have HZ6 := Lib.hid (HZ5.out.later HG6.out)
              have HB6 := Lib.hid (HB5.out.below HG6.out)
              have hb0 := HB6.out.c0
              have hb1 := HB6.out.c1
              have hb2 := HB6.out.c2
              have ht0 := HZ6.out.c0
              clear ho6 hby6 HZ5 HB5 HG6
              have HSo := Lib.hid (set_out w6 t n n I (some ⟨Lb, 0, none⟩) so ml co6 ht0 hin)
              have HZ7 : Hid (TnS w t Lb Rb Rc H rb n (fun c => (Value.slice so ml co6).ownBlock = some c) cur cur (.slice spn n cpn) w6) := Lib.hid (HZ6.out.weak (fun c hc => .inl (by have := (HO6.out.lt c hc).1; exact this)))
              clear HZ6 ht0
              go_wp2_with (go_at_call 25; refine HSo.out.mono ?_; rintro e w7 ⟨rfl, rfl⟩)
              go_loopw [12] (fun jj wr => ∃ (j : Nat) (xs : List Value), jj = .int .i64 j ∧ j ≤ ml ∧ wr.ownsRow w5.heap.size 5 1 (Value.slice so ml co6) ml xs ∧ (∀ v ∈ xs, ∃ z, v = .int .u8 z) ∧ TnS w t Lb Rb Rc H rb n (fun c => (Value.slice so ml co6).ownBlock = some c) cur cur (.slice spn n cpn) wr ∧ OpBox g ask I sL ml cL wr) (fun jj _ => ml - (intOf jj).toNat)
              case atStart => exact ⟨0, _, rfl, by omega, HO6.out, fun v hv => by obtain ⟨x, _, rfl⟩ := List.mem_map.1 hv; exact ⟨x, rfl⟩, HZ7.out, HB6.out⟩
              case round =>
                clear HZ7 HB6 HO6
                obtain ⟨j, xs, rfl, hjm, ho, hxs, hz, hbx⟩ := hrel
                by_cases hj : j < ml
                · have dj : decide ((j : Int) < (ml : Int)) = true := decide_eq_true (by omega)
                  have dj' : decide (j < ml) = true := decide_eq_true (by omega)
                  have HQ : Hid (∃ go, so = some ⟨go, 0, none⟩ ∧ w5.heap.size ≤ go ∧ ∃ cu, wr.heap[go]? = some (.cells cu 5 (0, 0))) := by
                    rcases ho.2 with ⟨_, e0⟩ | ⟨go, cp, cu, e1, e2, e3, _⟩
                    · omega
                    · cases e1
                      exact ⟨go, rfl, e2, cu, e3⟩
                  obtain ⟨go, eo, hbg, cu, hcu⟩ := HQ.out
                  have hlx : xs.length = ml := by have := ho.1; simpa using this
                  obtain ⟨z, hz1⟩ := hxs _ (List.getElem_mem (by omega : j < xs.length))
                  have hz2 : xs[j]? = some (.int .u8 z) := by rw [List.getElem?_eq_getElem (by omega), hz1]
                  subst eo
                  have hcell : wr.cell? ⟨go, j, none⟩ = some (.int .u8 z) := (ho.cellAt j (by omega)).trans hz2
                  have hfz : wr.frozen? ⟨go, j, none⟩ = false := ho.frozenAt j
                  have HS1 := Lib.hid (fun u => (ho.stored j u).1)
                  have HS2 := Lib.hid (fun u => hz.turn go j u rfl (by omega) ⟨cu, (0, 0), hcu⟩)
                  have HS3 := Lib.hid (fun u => hbx.set go j u ⟨cu, 5, (0, 0), hcu, by decide⟩)
                  have HXs := Lib.hid (fun (u : Int) v (hv : v ∈ xs.set j (.int .u8 u)) => ((List.mem_or_eq_of_mem_set hv).elim (fun h => hxs v h) (fun h => ⟨u, h⟩) : ∃ z, v = .int .u8 z))
                  clear ho hxs hz hbx hz1 hz2 HQ hcu hlx
                  go_wp2
                  go_roundw
                  case rel => exact ⟨j + 1, _, by go_num, by omega, HS1.out _, HXs.out _, HS2.out _, HS3.out _⟩
                  case measure => simp [intOf]; omega
                · have dj : decide ((j : Int) < (ml : Int)) = false := decide_eq_false (by omega)
                  have dj' : decide (j < ml) = false := decide_eq_false (by omega)
                  have HZ := Lib.hid hz
                  have HB := Lib.hid hbx
                  have hb0 := HB.out.c0
                  have hb1 := HB.out.c1
                  have hb2 := HB.out.c2
                  clear ho hxs hz hbx
                  go_upto_region 35 with fail
                  have HR1 := Lib.hid (HZ.out.troot HE.out)
                  have HMi := Lib.hid (HZ.out.mild hn20)
                  have HNl := Lib.hid (HZ.out.nlen)
                  have h32 := rootD_length cur
                  have eR : ∀ W : World, (binOp .neq 24 (.agg (rowB (rootD cur))) (.agg (rowB (rootD cur)))).run Tryd.prog W = .ok (.bool false) W := fun W => by
                    rw [run_neq_row (P := Tryd.prog) 24 5 32 .u8 Tryd.underlying24 Tryd.underlying5 size5 _ _ h32 h32 W]
                    simp
                  have HeR := Lib.hid eR
                  clear eR h32
                  obtain ⟨R, hR⟩ : ∃ R, rootD cur = R := ⟨_, rfl⟩
                  rw [hR] at HeR HR1
                  have HRe := Lib.hid hR
                  have eR := HeR.out
                  clear hR
                  go_upto_region 36 with (first
                    | (go_at_call 24; refine HR1.out.mono ?_; rintro e v1 ⟨rfl, hq1⟩; have HY1 := Lib.hid (HZ.out.later hq1); clear hq1)
                    | (go_at_call 13; refine (root_any _ spn n cpn cur HNl.out HY1.out.pcsOf (HY1.out.env HE.out) HMi.out).mono ?_; rw [HRe.out]; rintro e v2 ⟨rfl, hq2⟩; have HY2 := Lib.hid (HY1.out.later hq2); have hcL := HY2.out.c0; clear hq2)
                    | (go_at_call 29; refine (tlen_at _ t n n _ hcL).mono ?_; rintro e v3 ⟨rfl, rfl⟩))
                  go_wp2
                  go_roundw
                  case rel => exact ⟨k + 1, cur, by go_num, by omega, HY2.out.weak (fun _ h => h.elim)⟩
                  case measure => simp [intOf]; omega
            · have di : decide (0 ≤ I) = false := decide_eq_false h0
              go_upto_region 17 with (refine wpList_append_sl 28 5 1 (.int .u8 0) Tryd.underlying28 info5 rfl (by decide) rfl (.tmp 70) (.tmp 72) rfl w5.heap.size (.slice none 0 0) 0 ml [] (lf.map (Value.int .u8)) rfl ⟨rfl, .inl ⟨rfl, rfl⟩⟩ sL cL rfl (by rw [List.length_map]; exact HM.out) (byt_iff.1 HBy.out) (fun v hv => by obtain ⟨x, _, rfl⟩ := List.mem_map.1 hv; rfl) (by omega) (Nat.le_refl _) ?_; intro own w6 hown hg6; have HO6 := Lib.hid hown; have HG6 := Lib.hid (Below.ofGrown hg6 (Nat.le_refl _) (fun k e => by simp [Value.ownBlock] at e) : Below w5.heap.size w5 w6); clear hown hg6)
              have ho6 : w6.ownsRow w5.heap.size 5 1 own ml (lf.map (Value.int .u8)) := by have := HO6.out; rwa [Nat.zero_add] at this
              obtain ⟨so, co6, e6, _, hby6⟩ := own_bytT ho6
              subst e6
              have HO6 := Lib.hid ho6
              have HBy6 := Lib.hid hby6
              have HZ6 := Lib.hid (HZ5.out.later HG6.out)
              have HB6 := Lib.hid (HB5.out.below HG6.out)
              have hb0 := HB6.out.c0
              have hb1 := HB6.out.c1
              have hb2 := HB6.out.c2
              have ht0 := HZ6.out.c0
              clear ho6 hby6 HZ5 HB5 HG6
              have HSo := Lib.hid (set_out w6 t n n I (some ⟨Lb, 0, none⟩) so ml co6 ht0 hin)
              have HZ7 : Hid (TnS w t Lb Rb Rc H rb n (fun c => (Value.slice so ml co6).ownBlock = some c) cur cur (.slice spn n cpn) w6) := Lib.hid (HZ6.out.weak (fun c hc => .inl (by have := (HO6.out.lt c hc).1; exact this)))
              clear HZ6 ht0
              go_wp2_with (go_at_call 25; refine HSo.out.mono ?_; rintro e w7 ⟨rfl, rfl⟩)
              go_loopw [12] (fun jj wr => ∃ (j : Nat) (xs : List Value), jj = .int .i64 j ∧ j ≤ ml ∧ wr.ownsRow w5.heap.size 5 1 (Value.slice so ml co6) ml xs ∧ (∀ v ∈ xs, ∃ z, v = .int .u8 z) ∧ TnS w t Lb Rb Rc H rb n (fun c => (Value.slice so ml co6).ownBlock = some c) cur cur (.slice spn n cpn) wr ∧ OpBox g ask I sL ml cL wr) (fun jj _ => ml - (intOf jj).toNat)
              case atStart => exact ⟨0, _, rfl, by omega, HO6.out, fun v hv => by obtain ⟨x, _, rfl⟩ := List.mem_map.1 hv; exact ⟨x, rfl⟩, HZ7.out, HB6.out⟩
              case round =>
                clear HZ7 HB6 HO6
                obtain ⟨j, xs, rfl, hjm, ho, hxs, hz, hbx⟩ := hrel
                by_cases hj : j < ml
                · have dj : decide ((j : Int) < (ml : Int)) = true := decide_eq_true (by omega)
                  have dj' : decide (j < ml) = true := decide_eq_true (by omega)
                  have HQ : Hid (∃ go, so = some ⟨go, 0, none⟩ ∧ w5.heap.size ≤ go ∧ ∃ cu, wr.heap[go]? = some (.cells cu 5 (0, 0))) := by
                    rcases ho.2 with ⟨_, e0⟩ | ⟨go, cp, cu, e1, e2, e3, _⟩
                    · omega
                    · cases e1
                      exact ⟨go, rfl, e2, cu, e3⟩
                  obtain ⟨go, eo, hbg, cu, hcu⟩ := HQ.out
                  have hlx : xs.length = ml := by have := ho.1; simpa using this
                  obtain ⟨z, hz1⟩ := hxs _ (List.getElem_mem (by omega : j < xs.length))
                  have hz2 : xs[j]? = some (.int .u8 z) := by rw [List.getElem?_eq_getElem (by omega), hz1]
                  subst eo
                  have hcell : wr.cell? ⟨go, j, none⟩ = some (.int .u8 z) := (ho.cellAt j (by omega)).trans hz2
                  have hfz : wr.frozen? ⟨go, j, none⟩ = false := ho.frozenAt j
                  have HS1 := Lib.hid (fun u => (ho.stored j u).1)
                  have HS2 := Lib.hid (fun u => hz.turn go j u rfl (by omega) ⟨cu, (0, 0), hcu⟩)
                  have HS3 := Lib.hid (fun u => hbx.set go j u ⟨cu, 5, (0, 0), hcu, by decide⟩)
                  have HXs := Lib.hid (fun (u : Int) v (hv : v ∈ xs.set j (.int .u8 u)) => ((List.mem_or_eq_of_mem_set hv).elim (fun h => hxs v h) (fun h => ⟨u, h⟩) : ∃ z, v = .int .u8 z))
                  clear ho hxs hz hbx hz1 hz2 HQ hcu hlx
                  go_wp2
                  go_roundw
                  case rel => exact ⟨j + 1, _, by go_num, by omega, HS1.out _, HXs.out _, HS2.out _, HS3.out _⟩
                  case measure => simp [intOf]; omega
                · have dj : decide ((j : Int) < (ml : Int)) = false := decide_eq_false (by omega)
                  have dj' : decide (j < ml) = false := decide_eq_false (by omega)
                  have HZ := Lib.hid hz
                  have HB := Lib.hid hbx
                  have hb0 := HB.out.c0
                  have hb1 := HB.out.c1
                  have hb2 := HB.out.c2
                  clear ho hxs hz hbx
                  go_upto_region 35 with fail
                  have HR1 := Lib.hid (HZ.out.troot HE.out)
                  have HMi := Lib.hid (HZ.out.mild hn20)
                  have HNl := Lib.hid (HZ.out.nlen)
                  have h32 := rootD_length cur
                  have eR : ∀ W : World, (binOp .neq 24 (.agg (rowB (rootD cur))) (.agg (rowB (rootD cur)))).run Tryd.prog W = .ok (.bool false) W := fun W => by
                    rw [run_neq_row (P := Tryd.prog) 24 5 32 .u8 Tryd.underlying24 Tryd.underlying5 size5 _ _ h32 h32 W]
                    simp
                  have HeR := Lib.hid eR
                  clear eR h32
                  obtain ⟨R, hR⟩ : ∃ R, rootD cur = R := ⟨_, rfl⟩
                  rw [hR] at HeR HR1
                  have HRe := Lib.hid hR
                  have eR := HeR.out
                  clear hR
                  go_upto_region 36 with (first
                    | (go_at_call 24; refine HR1.out.mono ?_; rintro e v1 ⟨rfl, hq1⟩; have HY1 := Lib.hid (HZ.out.later hq1); clear hq1)
                    | (go_at_call 13; refine (root_any _ spn n cpn cur HNl.out HY1.out.pcsOf (HY1.out.env HE.out) HMi.out).mono ?_; rw [HRe.out]; rintro e v2 ⟨rfl, hq2⟩; have HY2 := Lib.hid (HY1.out.later hq2); have hcL := HY2.out.c0; clear hq2)
                    | (go_at_call 29; refine (tlen_at _ t n n _ hcL).mono ?_; rintro e v3 ⟨rfl, rfl⟩))
                  go_wp2
                  go_roundw
                  case rel => exact ⟨k + 1, cur, by go_num, by omega, HY2.out.weak (fun _ h => h.elim)⟩
                  case measure => simp [intOf]; omega
        · have da : decide (ask = 0) = false := decide_eq_false ha
          have da' : (ask == 0) = false := by simp [ha]
          by_cases hin : 0 ≤ I ∧ I < n
          · skip
            obtain ⟨i, hI⟩ := Int.eq_ofNat_of_zero_le hin.1
            have hi' : i < n := by have := hin.2; omega
            subst hI
            have di : decide (0 ≤ (i : Int)) = true := decide_eq_true (by omega)
            have di1 : decide ((i : Int) < (n : Int)) = true := decide_eq_true (by omega)
            have di2 : decide (i < n) = true := decide_eq_true (by omega)
            obtain ⟨B0, eB⟩ := HZ5.out.slot (by omega)
            subst eB
            have HGt := Lib.hid (HZ5.out.tget i hi')
            obtain ⟨L, hL⟩ : ∃ L, cur.getD i [] = L := ⟨_, rfl⟩
            rw [hL] at HGt
            have HL := Lib.hid hL
            obtain ⟨lq, hlq⟩ : ∃ l, L.length = l := ⟨_, rfl⟩
            rw [hlq] at HGt
            have HLq := Lib.hid hlq
            have hlq9 : lq ≤ 100 := by rw [← hlq, ← hL]; exact HZ5.out.short _ (getD_mem cur i (by rw [HZ5.out.clen]; exact hi'))
            have HMi := Lib.hid (HZ5.out.mild hn20)
            have HCl := Lib.hid HZ5.out.clen
            obtain ⟨P, hP⟩ : ∃ P, proofD i cur = P := ⟨_, rfl⟩
            have HPe := Lib.hid hP
            obtain ⟨pl, hpl⟩ : ∃ l, P.length = l := ⟨_, rfl⟩
            have HPl := Lib.hid hpl
            have HDg := Lib.hid (fun W (s s' : Option Addr) (c c' : Nat) (hd : Digs W s c P) (hd' : Digs W s' c' P) => digests_any W s s' pl pl c c' P P hpl hpl hd hd')
            rw [show decide (P = P) = true by simp] at HDg
            have HBg := Lib.hid (fun W (s s' : Option Addr) (c c' : Nat) (hd : Byt W s c L) (hd' : Byt W s' c' L) => bytes_anyT W s s' lq lq c c' L L hlq hlq hd hd')
            rw [show decide (L = L) = true by simp] at HBg
            clear hL hlq hP hpl
            go_wp2_with (first
              | (go_at_call 30; refine HGt.out.mono ?_; rintro e w6 ⟨b, rfl, hob, hq6⟩; obtain ⟨so, co6, e6, _, hby6⟩ := own_bytT hob; subst e6; have HO6 := Lib.hid hob; have HBy6 := Lib.hid hby6; have HZ6 : Hid (TnS w t Lb Rb Rc H rb n (fun c => (Value.slice so lq co6).ownBlock = some c) cur cur (.slice (some ⟨B0, 0, none⟩) n cpn) w6) := Lib.hid ((HZ5.out.later hq6).weak (fun c hc => .inl (HO6.out.lt c hc).1)); have HB6 := Lib.hid (HB5.out.below hq6); clear hob hby6 hq6; clear hb0 hb1 hb2; have hb0 := HB6.out.c0; have hb1 := HB6.out.c1; have hb2 := HB6.out.c2)
              | (go_at_call 26; refine (HZ6.out.tprove i hi').mono ?_; rw [HPe.out, HPl.out]; rintro e w7 ⟨sp1, cp1, rfl, hd7, hq7⟩; have HZ7 : Hid (TnS w t Lb Rb Rc H rb n (fun c => (Value.slice so lq co6).ownBlock = some c) cur cur (.slice (some ⟨B0, 0, none⟩) n cpn) w7) := Lib.hid ((HZ6.out.later hq7).weak (fun _ h => .inr h)); have HB7 := Lib.hid (HB6.out.below hq7); have HO7 := Lib.hid (owns_below HO6.out hq7); have HBy7 := Lib.hid (HBy6.out.below hq7); clear hb0 hb1 hb2; have hb0 := HB7.out.c0; have hb1 := HB7.out.c1; have hb2 := HB7.out.c2; have HD7 := Lib.hid hd7; clear hd7 hq7)
              | (go_at_call 17; refine (prove_yes i w7 (some ⟨B0, 0, none⟩) n cpn cur HCl.out HZ7.out.pcsOf (HZ7.out.env HE.out) HMi.out hi').mono ?_; rw [HPe.out, HPl.out]; rintro e w8 ⟨sp2, cp2, rfl, hd8, hq8⟩; have HZ8 : Hid (TnS w t Lb Rb Rc H rb n (fun c => (Value.slice so lq co6).ownBlock = some c) cur cur (.slice (some ⟨B0, 0, none⟩) n cpn) w8) := Lib.hid ((HZ7.out.later hq8).weak (fun _ h => .inr h)); have HB8 := Lib.hid (HB7.out.below hq8); have HO8 := Lib.hid (owns_below HO7.out hq8); have HBy8 := Lib.hid (HBy7.out.below hq8); clear hb0 hb1 hb2; have hb0 := HB8.out.c0; have hb1 := HB8.out.c1; have hb2 := HB8.out.c2; have HD8 := Lib.hid hd8; have HD7 := Lib.hid (HD7.out.below hq8); clear hd8 hq8)
              | (go_at_call 18; refine (HDg.out w8 sp1 sp2 cp1 cp2 HD7.out HD8.out).mono ?_; rintro e w9 ⟨rfl, q9, hq9⟩; have hz9 : Below w8.heap.size w8 w9 := (by subst hq9; exact below_drewN (Below.refl _ _) q9); clear hq9; have HZ9 : Hid (TnS w t Lb Rb Rc H rb n (fun c => (Value.slice so lq co6).ownBlock = some c) cur cur (.slice (some ⟨B0, 0, none⟩) n cpn) w9) := Lib.hid ((HZ8.out.later hz9).weak (fun _ h => .inr h)); have HB9 := Lib.hid (HB8.out.below hz9); have HO9 := Lib.hid (owns_below HO8.out hz9); have HBy9 := Lib.hid (HBy8.out.below hz9); clear hb0 hb1 hb2; have hb0 := HB9.out.c0; have hb1 := HB9.out.c1; have hb2 := HB9.out.c2; obtain ⟨s9, c9, hc9, hby9⟩ := HZ9.out.slotAt i hi'; rw [HL.out] at hc9 hby9; rw [HLq.out] at hc9; have HBz := Lib.hid hby9; clear hz9 hby9)
              | (go_at_call 27; refine (HBg.out w9 so s9 co6 c9 HBy9.out HBz.out).mono ?_; rintro e w10 ⟨rfl, q10, hq10⟩; have hz10 : Below w9.heap.size w9 w10 := (by subst hq10; exact below_drewN (Below.refl _ _) q10); clear hq10; have HZ10 : Hid (TnS w t Lb Rb Rc H rb n (fun c => (Value.slice so lq co6).ownBlock = some c) cur cur (.slice (some ⟨B0, 0, none⟩) n cpn) w10) := Lib.hid ((HZ9.out.later hz10).weak (fun _ h => .inr h)); have HB10 := Lib.hid (HB9.out.below hz10); have HO10 := Lib.hid (owns_below HO9.out hz10); have HBy10 := Lib.hid (HBy9.out.below hz10); clear hb0 hb1 hb2; have hb0 := HB10.out.c0; have hb1 := HB10.out.c1; have hb2 := HB10.out.c2; clear hz10))
            go_loopw [19] (fun jj wr => ∃ (j : Nat) (xs : List Value), jj = .int .i64 j ∧ j ≤ lq ∧ wr.ownsRow w5.heap.size 5 1 (Value.slice so lq co6) lq xs ∧ (∀ v ∈ xs, ∃ z, v = .int .u8 z) ∧ TnS w t Lb Rb Rc H rb n (fun c => (Value.slice so lq co6).ownBlock = some c) cur cur (.slice (some ⟨B0, 0, none⟩) n cpn) wr ∧ OpBox g ask (i : Int) sL ml cL wr) (fun jj _ => lq - (intOf jj).toNat)
            case atStart => exact ⟨0, _, rfl, by omega, HO10.out, fun v hv => by obtain ⟨x, _, rfl⟩ := List.mem_map.1 hv; exact ⟨x, rfl⟩, HZ10.out, HB10.out⟩
            case round =>
              clear HZ10 HB10 HO10
              obtain ⟨j, xs, rfl, hjm, ho, hxs, hz, hbx⟩ := hrel
              by_cases hj : j < lq
              · have dj : decide ((j : Int) < (lq : Int)) = true := decide_eq_true (by omega)
                have dj' : decide (j < lq) = true := decide_eq_true (by omega)
                have HQ : Hid (∃ go, so = some ⟨go, 0, none⟩ ∧ w5.heap.size ≤ go ∧ ∃ cu, wr.heap[go]? = some (.cells cu 5 (0, 0))) := by
                  rcases ho.2 with ⟨_, e0⟩ | ⟨go, cp, cu, e1, e2, e3, _⟩
                  · omega
                  · cases e1
                    exact ⟨go, rfl, e2, cu, e3⟩
                obtain ⟨go, eo, hbg, cu, hcu⟩ := HQ.out
                have hlx : xs.length = lq := by have := ho.1; simpa using this
                obtain ⟨z, hz1⟩ := hxs _ (List.getElem_mem (by omega : j < xs.length))
                have hz2 : xs[j]? = some (.int .u8 z) := by rw [List.getElem?_eq_getElem (by omega), hz1]
                subst eo
                have hcell : wr.cell? ⟨go, j, none⟩ = some (.int .u8 z) := (ho.cellAt j (by omega)).trans hz2
                have hfz : wr.frozen? ⟨go, j, none⟩ = false := ho.frozenAt j
                have HS1 := Lib.hid (fun u => (ho.stored j u).1)
                have HS2 := Lib.hid (fun u => hz.turn go j u rfl (by omega) ⟨cu, (0, 0), hcu⟩)
                have HS3 := Lib.hid (fun u => hbx.set go j u ⟨cu, 5, (0, 0), hcu, by decide⟩)
                have HXs := Lib.hid (fun (u : Int) v (hv : v ∈ xs.set j (.int .u8 u)) => ((List.mem_or_eq_of_mem_set hv).elim (fun h => hxs v h) (fun h => ⟨u, h⟩) : ∃ z, v = .int .u8 z))
                clear ho hxs hz hbx hz1 hz2 HQ hcu hlx
                go_wp2
                go_roundw
                case rel => exact ⟨j + 1, _, by go_num, by omega, HS1.out _, HXs.out _, HS2.out _, HS3.out _⟩
                case measure => simp [intOf]; omega
              · have dj : decide ((j : Int) < (lq : Int)) = false := decide_eq_false (by omega)
                have dj' : decide (j < lq) = false := decide_eq_false (by omega)
                have HZ := Lib.hid hz
                have HB := Lib.hid hbx
                have hb0 := HB.out.c0
                have hb1 := HB.out.c1
                have hb2 := HB.out.c2
                clear ho hxs hz hbx
                go_upto_region 35 with fail
                have HR1 := Lib.hid (HZ.out.troot HE.out)
                have HMi := Lib.hid (HZ.out.mild hn20)
                have HNl := Lib.hid (HZ.out.nlen)
                have h32 := rootD_length cur
                have eR : ∀ W : World, (binOp .neq 24 (.agg (rowB (rootD cur))) (.agg (rowB (rootD cur)))).run Tryd.prog W = .ok (.bool false) W := fun W => by
                  rw [run_neq_row (P := Tryd.prog) 24 5 32 .u8 Tryd.underlying24 Tryd.underlying5 size5 _ _ h32 h32 W]
                  simp
                have HeR := Lib.hid eR
                clear eR h32
                obtain ⟨R, hR⟩ : ∃ R, rootD cur = R := ⟨_, rfl⟩
                rw [hR] at HeR HR1
                have HRe := Lib.hid hR
                have eR := HeR.out
                clear hR
                go_upto_region 36 with (first
                  | (go_at_call 24; refine HR1.out.mono ?_; rintro e v1 ⟨rfl, hq1⟩; have HY1 := Lib.hid (HZ.out.later hq1); clear hq1)
                  | (go_at_call 13; refine (root_any _ (some ⟨B0, 0, none⟩) n cpn cur HNl.out HY1.out.pcsOf (HY1.out.env HE.out) HMi.out).mono ?_; rw [HRe.out]; rintro e v2 ⟨rfl, hq2⟩; have HY2 := Lib.hid (HY1.out.later hq2); have hcL := HY2.out.c0; clear hq2)
                  | (go_at_call 29; refine (tlen_at _ t n n _ hcL).mono ?_; rintro e v3 ⟨rfl, rfl⟩))
                go_wp2
                go_roundw
                case rel => exact ⟨k + 1, cur, by go_num, by omega, HY2.out.weak (fun _ h => h.elim)⟩
                case measure => simp [intOf]; omega
          · by_cases h0 : 0 ≤ I
            · have di : decide (0 ≤ I) = true := decide_eq_true h0
              have di' : decide (I < (n : Int)) = false := decide_eq_false (by omega)
              have HGo := Lib.hid (get_out w5 t n n I (some ⟨Lb, 0, none⟩) HZ5.out.c0 hin)
              have HPo := Lib.hid (tprove_out w5 t n n I (some ⟨Lb, 0, none⟩) HZ5.out.c0 hin)
              have HDg := Lib.hid (fun W => digests_any W none none 0 0 0 0 [] [] rfl rfl (Digs.nil W) (Digs.nil W))
              rw [show decide (([] : List (List Int)) = []) = true by simp] at HDg
              go_wp2_with (first
                | (go_at_call 30; refine HGo.out.mono ?_; rintro e w6 ⟨rfl, rfl⟩)
                | (go_at_call 26; refine HPo.out.mono ?_; rintro e w7 ⟨rfl, hq7⟩; have HZ7 : Hid (TnS w t Lb Rb Rc H rb n (fun _ => False) cur cur (.slice spn n cpn) w7) := Lib.hid ((HZ5.out.later hq7).weak (fun _ h => h.elim)); have HB7 := Lib.hid (HB5.out.below hq7); clear hb0 hb1 hb2; have hb0 := HB7.out.c0; have hb1 := HB7.out.c1; have hb2 := HB7.out.c2; clear hq7)
                | (go_at_call 17; refine (prove_no I w7 spn n cpn hin).mono ?_; rintro e w8 ⟨rfl, hq8⟩; have HZ8 : Hid (TnS w t Lb Rb Rc H rb n (fun _ => False) cur cur (.slice spn n cpn) w8) := Lib.hid ((HZ7.out.later hq8).weak (fun _ h => h.elim)); have HB8 := Lib.hid (HB7.out.below hq8); clear hb0 hb1 hb2; have hb0 := HB8.out.c0; have hb1 := HB8.out.c1; have hb2 := HB8.out.c2; clear hq8)
                | (go_at_call 18; refine (HDg.out w8).mono ?_; rintro e w9 ⟨rfl, q9, hq9⟩; have hz9 : Below w8.heap.size w8 w9 := (by subst hq9; exact below_drewN (Below.refl _ _) q9); clear hq9; have HZ9 : Hid (TnS w t Lb Rb Rc H rb n (fun _ => False) cur cur (.slice spn n cpn) w9) := Lib.hid ((HZ8.out.later hz9).weak (fun _ h => h.elim)); have HB9 := Lib.hid (HB8.out.below hz9); clear hb0 hb1 hb2; have hb0 := HB9.out.c0; have hb1 := HB9.out.c1; have hb2 := HB9.out.c2; clear hz9))
              go_loopw [19] (fun jj wr => jj = .int .i64 0 ∧ TnS w t Lb Rb Rc H rb n (fun _ => False) cur cur (.slice spn n cpn) wr) (fun _ _ => 0)
              case atStart => exact ⟨rfl, HZ9.out⟩
              case round =>
                clear hb0 hb1 hb2 HZ9 HB9 HZ8 HB8 HZ7 HB7 HZ5 HB5
                obtain ⟨rfl, hz⟩ := hrel
                have HZ := Lib.hid hz
                clear hz
                go_upto_region 35 with fail
                have HR1 := Lib.hid (HZ.out.troot HE.out)
                have HMi := Lib.hid (HZ.out.mild hn20)
                have HNl := Lib.hid (HZ.out.nlen)
                have h32 := rootD_length cur
                have eR : ∀ W : World, (binOp .neq 24 (.agg (rowB (rootD cur))) (.agg (rowB (rootD cur)))).run Tryd.prog W = .ok (.bool false) W := fun W => by
                  rw [run_neq_row (P := Tryd.prog) 24 5 32 .u8 Tryd.underlying24 Tryd.underlying5 size5 _ _ h32 h32 W]
                  simp
                have HeR := Lib.hid eR
                clear eR h32
                obtain ⟨R, hR⟩ : ∃ R, rootD cur = R := ⟨_, rfl⟩
                rw [hR] at HeR HR1
                have HRe := Lib.hid hR
                have eR := HeR.out
                clear hR
                go_upto_region 36 with (first
                  | (go_at_call 24; refine HR1.out.mono ?_; rintro e v1 ⟨rfl, hq1⟩; have HY1 := Lib.hid (HZ.out.later hq1); clear hq1)
                  | (go_at_call 13; refine (root_any _ spn n cpn cur HNl.out HY1.out.pcsOf (HY1.out.env HE.out) HMi.out).mono ?_; rw [HRe.out]; rintro e v2 ⟨rfl, hq2⟩; have HY2 := Lib.hid (HY1.out.later hq2); have hcL := HY2.out.c0; clear hq2)
                  | (go_at_call 29; refine (tlen_at _ t n n _ hcL).mono ?_; rintro e v3 ⟨rfl, rfl⟩))
                go_wp2
                go_roundw
                case rel => exact ⟨k + 1, cur, by go_num, by omega, HY2.out.weak (fun _ h => h.elim)⟩
                case measure => simp [intOf]; omega
            · have di : decide (0 ≤ I) = false := decide_eq_false h0
              have HGo := Lib.hid (get_out w5 t n n I (some ⟨Lb, 0, none⟩) HZ5.out.c0 hin)
              have HPo := Lib.hid (tprove_out w5 t n n I (some ⟨Lb, 0, none⟩) HZ5.out.c0 hin)
              have HDg := Lib.hid (fun W => digests_any W none none 0 0 0 0 [] [] rfl rfl (Digs.nil W) (Digs.nil W))
              rw [show decide (([] : List (List Int)) = []) = true by simp] at HDg
              go_wp2_with (first
                | (go_at_call 30; refine HGo.out.mono ?_; rintro e w6 ⟨rfl, rfl⟩)
                | (go_at_call 26; refine HPo.out.mono ?_; rintro e w7 ⟨rfl, hq7⟩; have HZ7 : Hid (TnS w t Lb Rb Rc H rb n (fun _ => False) cur cur (.slice spn n cpn) w7) := Lib.hid ((HZ5.out.later hq7).weak (fun _ h => h.elim)); have HB7 := Lib.hid (HB5.out.below hq7); clear hb0 hb1 hb2; have hb0 := HB7.out.c0; have hb1 := HB7.out.c1; have hb2 := HB7.out.c2; clear hq7)
                | (go_at_call 17; refine (prove_no I w7 spn n cpn hin).mono ?_; rintro e w8 ⟨rfl, hq8⟩; have HZ8 : Hid (TnS w t Lb Rb Rc H rb n (fun _ => False) cur cur (.slice spn n cpn) w8) := Lib.hid ((HZ7.out.later hq8).weak (fun _ h => h.elim)); have HB8 := Lib.hid (HB7.out.below hq8); clear hb0 hb1 hb2; have hb0 := HB8.out.c0; have hb1 := HB8.out.c1; have hb2 := HB8.out.c2; clear hq8)
                | (go_at_call 18; refine (HDg.out w8).mono ?_; rintro e w9 ⟨rfl, q9, hq9⟩; have hz9 : Below w8.heap.size w8 w9 := (by subst hq9; exact below_drewN (Below.refl _ _) q9); clear hq9; have HZ9 : Hid (TnS w t Lb Rb Rc H rb n (fun _ => False) cur cur (.slice spn n cpn) w9) := Lib.hid ((HZ8.out.later hz9).weak (fun _ h => h.elim)); have HB9 := Lib.hid (HB8.out.below hz9); clear hb0 hb1 hb2; have hb0 := HB9.out.c0; have hb1 := HB9.out.c1; have hb2 := HB9.out.c2; clear hz9))
              go_loopw [19] (fun jj wr => jj = .int .i64 0 ∧ TnS w t Lb Rb Rc H rb n (fun _ => False) cur cur (.slice spn n cpn) wr) (fun _ _ => 0)
              case atStart => exact ⟨rfl, HZ9.out⟩
              case round =>
                clear hb0 hb1 hb2 HZ9 HB9 HZ8 HB8 HZ7 HB7 HZ5 HB5
                obtain ⟨rfl, hz⟩ := hrel
                have HZ := Lib.hid hz
                clear hz
                go_upto_region 35 with fail
                have HR1 := Lib.hid (HZ.out.troot HE.out)
                have HMi := Lib.hid (HZ.out.mild hn20)
                have HNl := Lib.hid (HZ.out.nlen)
                have h32 := rootD_length cur
                have eR : ∀ W : World, (binOp .neq 24 (.agg (rowB (rootD cur))) (.agg (rowB (rootD cur)))).run Tryd.prog W = .ok (.bool false) W := fun W => by
                  rw [run_neq_row (P := Tryd.prog) 24 5 32 .u8 Tryd.underlying24 Tryd.underlying5 size5 _ _ h32 h32 W]
                  simp
                have HeR := Lib.hid eR
                clear eR h32
                obtain ⟨R, hR⟩ : ∃ R, rootD cur = R := ⟨_, rfl⟩
                rw [hR] at HeR HR1
                have HRe := Lib.hid hR
                have eR := HeR.out
                clear hR
                go_upto_region 36 with (first
                  | (go_at_call 24; refine HR1.out.mono ?_; rintro e v1 ⟨rfl, hq1⟩; have HY1 := Lib.hid (HZ.out.later hq1); clear hq1)
                  | (go_at_call 13; refine (root_any _ spn n cpn cur HNl.out HY1.out.pcsOf (HY1.out.env HE.out) HMi.out).mono ?_; rw [HRe.out]; rintro e v2 ⟨rfl, hq2⟩; have HY2 := Lib.hid (HY1.out.later hq2); have hcL := HY2.out.c0; clear hq2)
                  | (go_at_call 29; refine (tlen_at _ t n n _ hcL).mono ?_; rintro e v3 ⟨rfl, rfl⟩))
                go_wp2
                go_roundw
                case rel => exact ⟨k + 1, cur, by go_num, by omega, HY2.out.weak (fun _ h => h.elim)⟩
                case measure => simp [intOf]; omega
      · have dl : decide ((100 : Int) < (ml : Int)) = true := decide_eq_true (by omega)
        have dl' : decide (100 < ml) = true := decide_eq_true (by omega)
        go_wp2
        go_roundw
        case rel => exact ⟨k + 1, cur, by go_num, by omega, HZ5.out.weak (fun _ h => h.elim)⟩
        case measure => simp [intOf]; omega
    · have d1 : decide ((k : Int) < (K : Int)) = false := decide_eq_false (by omega)
      have d1' : decide (k < K) = false := decide_eq_false (by omega)
      have HAw := Lib.hid (awake_any wr (HS.out.env HE.out))
      go_wp2_with (go_at_call 10; refine HAw.out.mono ?_; rintro e v9 ⟨rfl, hb9⟩; have H9 := Lib.hid (HS.out.later hb9).below)
      go_ret
      exact ⟨rfl, H9.out⟩
set_option maxRecDepth 100000 in
set_option maxHeartbeats 4000000 in
theorem turns_few (w : World) (sp s2 : Option Addr) (n cap K c2 : Nat) (ls : List (List Int)) (hn : ls.length = n) (hP : Pcs w sp cap ls) (he : Env w) (hf : few ls = false) :
    Calls Tryd.prog 7 #[.slice sp n cap, .slice s2 K c2] w fun e w' => e = .returned (.bool true) ∧ Below w.heap.size w w' := by
  have HE := Lib.hid he
  have HF := Lib.hid (few_any w sp n cap ls hn hP)
  rw [hf] at HF
  clear hn hP he hf
  go_enter Tryd.func7, Tryd.ntmps7
  go_wp2_with (first
    | (go_at_call 9; refine HF.out.mono ?_; rintro e w' ⟨rfl, q, rfl⟩; have H2 := Lib.hid (below_drewN (Below.refl w.heap.size w) q))
    | (go_at_call 10; refine (awake_any _ (HE.out.below H2.out)).mono ?_; rintro e w' ⟨rfl, hb⟩; have H3 := Lib.hid (H2.out.trans (hb.mono H2.out.size))))
  go_ret
  exact ⟨rfl, H3.out⟩
set_option maxRecDepth 100000 in
set_option maxHeartbeats 4000000 in
theorem turns_many (w : World) (sp s2 : Option Addr) (n cap K c2 : Nat) (ls : List (List Int)) (hn : ls.length = n) (hP : Pcs w sp cap ls) (he : Env w) (hf : few ls = true) (hK : 20 < K) :
    Calls Tryd.prog 7 #[.slice sp n cap, .slice s2 K c2] w fun e w' => e = .returned (.bool true) ∧ Below w.heap.size w w' := by
  have HE := Lib.hid he
  have HF := Lib.hid (few_any w sp n cap ls hn hP)
  rw [hf] at HF
  have hd1 : decide ((20 : Int) < (K : Int)) = true := decide_eq_true (by omega)
  have hd1' : decide (20 < K) = true := decide_eq_true (by omega)
  clear hn hP he hf
  go_enter Tryd.func7, Tryd.ntmps7
  go_wp2_with (first
    | (go_at_call 9; refine HF.out.mono ?_; rintro e w' ⟨rfl, q, rfl⟩; have H2 := Lib.hid (below_drewN (Below.refl w.heap.size w) q))
    | (go_at_call 10; refine (awake_any _ (HE.out.below H2.out)).mono ?_; rintro e w' ⟨rfl, hb⟩; have H3 := Lib.hid (H2.out.trans (hb.mono H2.out.size))))
  go_ret
  exact ⟨rfl, H3.out⟩
theorem turns_walk (w : World) (sp s2 : Option Addr) (n cap K c2 : Nat) (ls : List (List Int)) (hn : ls.length = n) (hP : Pcs w sp cap ls) (he : Env w) (os : List OpV) (hK : os.length = K) (hO : Ops w s2 os) :
    Calls Tryd.prog 7 #[.slice sp n cap, .slice s2 K c2] w fun e w' => e = .returned (.bool true) ∧ Below w.heap.size w w' := by
  by_cases hf : few ls = true
  · by_cases h20 : K ≤ 20
    · exact turns_main w sp s2 n cap K c2 ls hn hP he hf os hK hO h20
    · exact turns_many w sp s2 n cap K c2 ls hn hP he hf (by omega)
  · exact turns_few w sp s2 n cap K c2 ls hn hP he (by simpa using hf)
end Go.Proofs.YtighmhoekbnagaaDoor
