import Derived.Test.YtighmhoekbnagaaDoorNh
import Derived.Test.YtighmhoekbnagaaDoorNa
import Derived.Test.YtighmhoekbnagaaDoorSs
namespace Go.Proofs.YtighmhoekbnagaaDoor
open Go.ChangeShapes Go.WideShapes Go.ChangeAt Go.RowKit

/-- what the call owns is a slice of bytes -/
theorem own_byt {w : World} {base n : Nat} {v : Value} {l : List Int} (h : w.ownsRow base 5 1 v n (l.map (Value.int .u8))) : ∃ sp cap, v = .slice sp n cap ∧ l.length = n ∧ Byt w sp cap l := by
  have hl : l.length = n := by have := h.1; simpa using this
  rcases h.2 with ⟨rfl, rfl⟩ | ⟨g, cap, cur, rfl, hb, hg, hn, hm, hs, ht⟩
  · obtain rfl : l = [] := List.eq_nil_of_length_eq_zero hl
    exact ⟨none, 0, rfl, rfl, Byt.nil w⟩
  · refine ⟨_, cap, rfl, hl, ⟨⟨by omega, hm, fun _ => ⟨g, 0, rfl, fun i hi => ?_⟩⟩, fun e => by cases e⟩⟩
    rw [Nat.zero_add, h.cellAt i (by omega)]
    simp [hi]
set_option maxRecDepth 100000 in
set_option maxHeartbeats 4000000 in
theorem leafBytes_any (w : World) (sp : Option Addr) (n cap : Nat) (l : List Int) (hn : l.length = n) (hb : Byt w sp cap l) (hs : n ≤ 900) :
    Calls Tryd.prog 33 #[.slice sp n cap] w fun e w' => ∃ sp' cap', e = .returned (.slice sp' (1 + n) cap') ∧ Byt w' sp' cap' (0 :: l) ∧ Below w.heap.size w w' := by
  have HN := Lib.hid hn
  clear hn
  go_enter Tryd.func33, Tryd.ntmps33
  have HS := Lib.hid ((byt_iff.1 hb).below (Nat.le_refl _) ((Below.refl _ w).alloc (Nat.le_refl _) (.cells #[.int .u8 0] 5)))
  clear hb
  go_upto_region 2 with fail
  go_wp2_with (refine wpList_append_sl 28 5 1 (.int .u8 0) Tryd.underlying28 info5 rfl (by decide) rfl (.tmp 5) (.tmp 6) rfl w.heap.size (.slice (some ⟨w.heap.size, 0, none⟩) 1 1) 1 n [.int .u8 0] (l.map (Value.int .u8)) rfl (World.ownsRow_lit w #[.int .u8 0] 1 (Nat.le_refl _) (by unfold maxLen; omega) rfl) sp cap rfl (by simpa using HN.out) HS.out (fun v hv => by obtain ⟨x, _, rfl⟩ := List.mem_map.1 hv; rfl) (by omega) (by simp) ?_; intro v' w1 hown hg; obtain ⟨sp', cap', rfl, hlen, hby⟩ := own_byt (l := 0 :: l) hown; have HY := Lib.hid hby; have HG := Lib.hid hg; clear hown hg hby hlen)
  go_ret
  exact ⟨sp', cap', rfl, HY.out, ((Below.refl _ w).alloc (Nat.le_refl _) _).trans (Below.ofGrown HG.out (by simp) (fun k e => by simp [Value.ownBlock] at e; omega))⟩
set_option maxRecDepth 100000 in
set_option maxHeartbeats 4000000 in
theorem refLeaf_any (hblk : BlockSpec) (w : World) (sp : Option Addr) (n cap : Nat) (l : List Int) (hn : l.length = n) (hb : Byt w sp cap l) (hs : n ≤ 100) (hr : rng l) :
    Calls Tryd.prog 12 #[.slice sp n cap] w fun e w' => e = .returned (.agg (rowB (leafD l))) ∧ Below w.heap.size w w' := by
  have HBk := Lib.hid hblk
  have HL := Lib.hid (fun W (hB : Below w.heap.size w W) => leafBytes_any W sp n cap l hn (hb.below hB) (by omega))
  have HR : Hid (rng (0 :: l)) := fun x hx => by
    rcases List.mem_cons.1 hx with rfl | hx
    · omega
    · exact hr x hx
  have HN := Lib.hid hn
  clear hb hr hn hblk
  go_enter Tryd.func12, Tryd.ntmps12
  go_upto_region 1 with fail
  refine gen_world (Q := fun w => Code.wp _ _ _ _ w) _ (Res w) (Res.new w _ (by kernel_rfl)) ?_
  intro w1 hr1
  have HR1 := Lib.hid hr1
  clear hr1
  go_wp2_with fail
  refine (HL.out w1 HR1.out.below).mono ?_
  rintro e w2 ⟨sp', cap', rfl, hb2, hw2⟩
  have HR2 := Lib.hid (HR1.out.later hw2)
  have HB2 := Lib.hid hb2
  clear hw2 hb2
  go_wp2_with fail
  refine (ref_sum HBk.out w2 sp' (1 + n) cap' (0 :: l) (by rw [List.length_cons, HN.out]; omega) HB2.out.by_ HB2.out.nul HR.out (by omega)).mono ?_
  rintro e w3 ⟨rfl, hw3⟩
  have HR3 := Lib.hid (HR2.out.later hw3)
  clear hw3
  have h32 := leafD_length l
  obtain ⟨F, hF⟩ : ∃ F, leafD l = F := ⟨_, rfl⟩
  rw [show sum (0 :: l) = F from hF]
  rw [hF] at h32
  have HZ := Lib.hid (row_dig h32)
  have HY := Lib.hid (row_dig0 h32)
  have HX := Lib.hid (rowB_one F)
  have HF := Lib.hid hF
  clear hF h32
  go_wp2_with (refine wpList_store_row rfl 24 (.tmp 2) (.tmp 5) rfl w.heap.size (rowB F) rfl rfl 24 _ HR3.out.res HZ.out HY.out HX.out ?_)
  exact bodyPost_ret (v := .agg (rowB F)) (results_cell_row Tryd.results12 _ _ w.heap.size 24 (rowB F) (0, 0) _ rfl (setRow_heap _ _ _ _ _ _ HR3.out.res) Tryd.underlying24 rfl HZ.out) rfl ⟨by rw [HF.out], below_setRow HR3.out.below (Nat.le_refl _) _⟩
theorem rng_set {l : List Int} (h : rng l) (i : Nat) (x : Int) (h0 : 0 ≤ x) (h1 : x < 256) : rng (l.set i x) := fun y hy => by
  rcases List.mem_or_eq_of_mem_set hy with hy | rfl
  · exact h y hy
  · exact ⟨h0, h1⟩
theorem rng_dig (s : List Int) : ∀ n, rng (dig s n)
  | 0 => fun x hx => by
    have := List.eq_of_mem_replicate hx
    omega
  | n + 1 => by
    rw [dig]
    exact rng_set (rng_set (rng_set (rng_set (rng_dig s n) _ _ (by omega) (by omega)) _ _ (by omega) (by omega)) _ _ (by omega) (by omega)) _ _ (by omega) (by omega)
theorem rng_sum (l : List Int) : rng (sum l) := rng_dig _ _
/-- what stands in NodeBytes -/
structure NdS (w : World) (a b : List Int) (v : Value) (m : Nat) (xs : List Int) (W : World) : Prop where
  below : Below w.heap.size w W
  ra : W.heap[w.heap.size]? = some (.cells (rowB a) 24 (0, 0))
  rb : W.heap[w.heap.size + 1]? = some (.cells (rowB b) 24 (0, 0))
  own : W.ownsRow (w.heap.size + 2) 5 1 v m (xs.map (Value.int .u8))
theorem NdS.made (w : World) (a b : List Int) : NdS w a b (.slice (some ⟨w.heap.size + 2, 0, none⟩) 1 1) 1 [1] (((w.alloc (.cells (rowB a) 24)).alloc (.cells (rowB b) 24)).alloc (.cells #[.int .u8 1] 5)) := by
  refine ⟨(((Below.refl _ _).alloc (Nat.le_refl _) _).alloc (by simp) _).alloc (by simp; omega) _, ?_, ?_, ?_⟩
  · rw [Below.heap_alloc _ _ _ (by simp; omega), Below.heap_alloc _ _ _ (by simp)]
    exact heap_alloc_new _ _
  · have := heap_alloc_new (w.alloc (.cells (rowB a) 24)) (.cells (rowB b) 24)
    simp only [World.size_alloc] at this
    rw [Below.heap_alloc _ _ _ (by simp)]
    exact this
  · have := World.ownsRow_lit (base := w.heap.size + 2) (e := 5) (size := 1) ((w.alloc (.cells (rowB a) 24)).alloc (.cells (rowB b) 24)) #[.int .u8 1] 1 (by simp) (by unfold maxLen; omega) rfl
    simp only [World.size_alloc] at this
    exact this
theorem NdS.grown {w : World} {a b : List Int} {v v' : Value} {m m' : Nat} {xs xs' : List Int} {W W' : World} (h : NdS w a b v m xs W) (hg : W.grownBy W' v.ownBlock) (ho : W'.ownsRow (w.heap.size + 2) 5 1 v' m' (xs'.map (Value.int .u8))) : NdS w a b v' m' xs' W' := by
  have hlt := fun k (hk : v.ownBlock = some k) => (h.own.lt k hk).1
  refine ⟨h.below.trans (Below.ofGrown hg h.below.size (fun k hk => by have := hlt k hk; omega)), ?_, ?_, ho⟩
  · rw [hg.block _ (Array.getElem?_eq_some_iff.1 h.ra).1 (fun e => by have := hlt _ e.symm; omega)]
    exact h.ra
  · rw [hg.block _ (Array.getElem?_eq_some_iff.1 h.rb).1 (fun e => by have := hlt _ e.symm; omega)]
    exact h.rb
theorem sl_row {W : World} {g : Nat} {d : List Int} (hg : W.heap[g]? = some (.cells (rowB d) 24 (0, 0))) (hd : d.length = 32) : Sl W (some ⟨g, 0, none⟩) 32 (d.map (Value.int .u8)) := by
  refine byt_iff.1 ⟨⟨by omega, by unfold maxLen; omega, fun _ => ⟨g, 0, rfl, fun i hi => ?_⟩⟩, fun h => by cases h⟩
  rw [cell_of_row _ _ _ _ _ _ hg, Nat.zero_add, rowB_get _ _ hi]
set_option maxRecDepth 100000 in
set_option maxHeartbeats 4000000 in
theorem nodeBytes_any (w : World) (a b : List Int) (ha : a.length = 32) (hb : b.length = 32) :
    Calls Tryd.prog 36 #[.agg (rowB a), .agg (rowB b)] w fun e w' => ∃ sp' cap', e = .returned (.slice sp' 65 cap') ∧ Byt w' sp' cap' (1 :: (a ++ b)) ∧ Below w.heap.size w w' := by
  have HA := Lib.hid ha
  have HB := Lib.hid hb
  clear ha hb
  go_enter Tryd.func36, Tryd.ntmps36
  go_upto_region 2 with fail
  simp only [Nat.add_assoc, Nat.reduceAdd]
  refine gen_world (Q := fun w => Code.wp _ _ _ _ w) _ (NdS w a b (.slice (some ⟨w.heap.size + 2, 0, none⟩) 1 1) 1 [1]) (NdS.made w a b) ?_
  intro w1 h1
  have H1 := Lib.hid h1
  clear h1
  have r1 := run_digest w.heap.size
  have r2 := run_digest (w.heap.size + 1)
  have T0 : w.heap.size + 2 ≤ w1.heap.size := by have h1 := (Array.getElem?_eq_some_iff.1 H1.out.rb).1; omega
  have T1 := Lib.hid (sl_row H1.out.ra HA.out)
  have T2 : Hid (∀ v ∈ a.map (Value.int .u8), v.oneCell' = true) := fun v hv => by obtain ⟨x, _, rfl⟩ := List.mem_map.1 hv; rfl
  have T3 : Hid ((a.map (Value.int .u8)).length = 32) := by rw [Hid, List.length_map]; exact HA.out
  have T4 : Hid (w1.ownsRow (w.heap.size + 2) 5 1 (.slice (some ⟨w.heap.size + 2, 0, none⟩) 1 1) 1 [.int .u8 1]) := H1.out.own
  go_upto_region 3 with (refine wpList_append_sl 28 5 1 (.int .u8 0) Tryd.underlying28 info5 rfl (by decide) rfl (.tmp 7) (.tmp 8) rfl (w.heap.size + 2) (.slice (some ⟨w.heap.size + 2, 0, none⟩) 1 1) 1 32 [.int .u8 1] (a.map (Value.int .u8)) rfl T4.out (some ⟨w.heap.size, 0, none⟩) 32 rfl T3.out T1.out T2.out (by omega) T0 ?_; intro v2 w2 hown hg; have H2 : Hid (NdS w a b v2 (1 + 32) (1 :: a) w2) := H1.out.grown hg hown; clear hown hg)
  go_wp2_with (refine wpList_append_sl 28 5 1 (.int .u8 0) Tryd.underlying28 info5 rfl (by decide) rfl (.tmp 10) (.tmp 11) rfl (w.heap.size + 2) v2 (1 + 32) 32 ((1 :: a).map (Value.int .u8)) (b.map (Value.int .u8)) rfl H2.out.own (some ⟨w.heap.size + 1, 0, none⟩) 32 rfl (by simpa using HB.out) (sl_row H2.out.rb HB.out) (fun v hv => by obtain ⟨x, _, rfl⟩ := List.mem_map.1 hv; rfl) (by omega) (by have h1 := (Array.getElem?_eq_some_iff.1 H2.out.rb).1; omega) ?_; intro v3 w3 hown hg; have H3 : Hid (NdS w a b v3 (1 + 32 + 32) (1 :: (a ++ b)) w3) := H2.out.grown hg (by rw [← List.map_append] at hown; exact hown); clear hown hg)
  obtain ⟨sp', cap', rfl, hlen, hby⟩ := own_byt H3.out.own
  have HY := Lib.hid hby
  clear hby hlen
  go_ret
  exact ⟨sp', cap', rfl, HY.out, H3.out.below⟩
end Go.Proofs.YtighmhoekbnagaaDoor
