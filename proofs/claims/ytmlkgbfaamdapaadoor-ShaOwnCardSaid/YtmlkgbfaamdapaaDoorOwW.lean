import Derived.Test.YtmlkgbfaamdapaaDoorQv
import Derived.BigQuiet
namespace Go.Proofs.YtmlkgbfaamdapaaDoor
open Go.ChangeShapes Go.WideShapes Go.ChangeAt Go.RowKit

theorem guard25 (x y : Operand) (A B : Array Value) (W : World) : (eqGuard .eql 25 x y (.agg A) (.agg B)).run Tryd.prog W = .ok () W := by
  simp [eqGuard, run_program]
theorem own_apart {w : World} {base n : Nat} {v : Value} {xs cs : List Int} {g : Nat} (h : w.ownsRow base 5 1 v n (xs.map (Value.int .u8))) (hg : w.heap[g]? = some (.cells (rowB cs) 25 (0, 0))) : some g ≠ v.ownBlock := by
  rcases h.2 with ⟨rfl, _⟩ | ⟨g', cap, cur, rfl, _, hh, _⟩
  · intro e; cases e
  · intro e
    simp only [Value.ownBlock, Option.some.injEq] at e
    subst e
    rw [hh] at hg
    simp at hg

set_option maxRecDepth 100000 in
set_option maxHeartbeats 4000000 in
theorem own_walk (w : World) (a b : List Int) (sa sb : Option Addr) (na nb ca cb : Nat) (hna : a.length = na) (hnb : b.length = nb) (hba : Bytes w sa ca a) (hbb : Bytes w sb cb b) (hza : sa = none → ca = 0) (hzb : sb = none → cb = 0) (he : Env w) :
    Calls Tryd.prog 6 #[.slice sa na ca, .slice sb nb cb] w fun e w' => e = .returned (.bool true) ∧ Below w.heap.size w w' := by
  have HE := Lib.hid he
  have HA := Lib.hid hba
  have HB := Lib.hid hbb
  have HNa := Lib.hid hna
  have HNb := Lib.hid hnb
  have hw2 := he.two
  have hma : na ≤ 9223372036854775807 := by have h1 := hba.le; have h2 := hba.max; unfold maxLen at h2; omega
  have hmb : nb ≤ 9223372036854775807 := by have h1 := hbb.le; have h2 := hbb.max; unfold maxLen at h2; omega
  clear he hba hbb hna hnb
  by_cases h1 : 200 < na
  · have hd : decide ((200 : Int) < (na : Int)) = true := by simp; omega
    go_enter Tryd.func6, Tryd.ntmps6
    go_wp2_with fail
    refine (awake_any w HE.out).mono ?_
    rintro e w1 ⟨rfl, hb1⟩
    go_wp2
    go_ret
    exact ⟨rfl, hb1⟩
  have hd : decide ((200 : Int) < (na : Int)) = false := by simp; omega
  by_cases h2 : 200 < nb
  · have hd2 : decide ((200 : Int) < (nb : Int)) = true := by simp; omega
    go_enter Tryd.func6, Tryd.ntmps6
    go_wp2_with fail
    refine (awake_any w HE.out).mono ?_
    rintro e w1 ⟨rfl, hb1⟩
    go_wp2
    go_ret
    exact ⟨rfl, hb1⟩
  have hd2 : decide ((200 : Int) < (nb : Int)) = false := by simp; omega
  go_enter Tryd.func6, Tryd.ntmps6
  go_wp2_with fail
  refine (new_any w HE.out).mono ?_
  rintro e w1 ⟨rfl, hw1⟩
  have hb1 : Below w.heap.size w w1 := by rw [hw1]; exact (Below.refl _ _).alloc (Nat.le_refl _) _
  have hh1 : HashAt w1 w.heap.size [] := by rw [hw1]; exact HashAt.new w
  have hs1 : w1.heap.size = w.heap.size + 1 := by rw [hw1]; simp
  have HH1 := Lib.hid hh1
  have HB1 := Lib.hid hb1
  have HS1 := Lib.hid hs1
  have HE1 := Lib.hid (HE.out.below hb1)
  clear hw1 hb1 hh1 hs1
  go_wp2_with fail
  refine (new_any w1 HE1.out).mono ?_
  rintro e w2 ⟨rfl, hw2'⟩
  have hb2 : Below w1.heap.size w1 w2 := by rw [hw2']; exact (Below.refl _ _).alloc (Nat.le_refl _) _
  have hh2 : HashAt w2 w1.heap.size [] := by rw [hw2']; exact HashAt.new w1
  have hs2 : w2.heap.size = w1.heap.size + 1 := by rw [hw2']; simp
  rw [HS1.out] at hh2 ⊢
  have HG2 := Lib.hid hh2
  have HH2 := Lib.hid (HH1.out.later hb2)
  have HB2 := Lib.hid (HB1.out.trans (hb2.mono HB1.out.size))
  have HS2 := Lib.hid (hs2.trans (by rw [HS1.out]))
  have HE2 := Lib.hid (HE1.out.below hb2)
  clear hw2' hb2 hh2 hs2 HH1 HB1 HE1 HS1
  have HBa := Lib.hid (HA.out.below HB2.out)
  have hsz : w.heap.size + 2 ≤ w2.heap.size := by rw [HS2.out]; omega
  go_wp2_with (refine wpList_append_bytes rfl (.tmp 29) (.tmp 30) rfl (w.heap.size + 2) (.slice none 0 0) 0 na [] a rfl (World.ownsRow_nil _ _ _ _) sa ca rfl HNa.out HBa.out hza (by omega) hsz ?_; intro v3 w3 hown3 hg3)
  simp only [Nat.zero_add, List.nil_append] at hown3
  obtain ⟨s3, c3, rfl, _, hb3, hz3, hbase3⟩ := own_bytes hown3
  have hgn : ∀ (k : Nat), (Value.slice none 0 0).ownBlock = some k → 2 ≤ k := fun k e => by cases e
  have HE3 := Lib.hid (HE2.out.grown hg3 hgn)
  have HH3 := Lib.hid (HH2.out.grown hg3 (fun e => by cases e))
  have HG3 := Lib.hid (HG2.out.grown hg3 (fun e => by cases e))
  have HW3 := Lib.hid (HB2.out.trans (Below.ofGrown hg3 (by omega) (fun k e => by cases e)))
  have HO3 := Lib.hid hown3
  have HB3 := Lib.hid hb3
  have hz3' : w2.heap.size ≤ w3.heap.size := hg3.size
  clear hgn hg3 hown3 hb3 HE2 HH2 HG2 HB2 HBa
  rw [← HNa.out]
  refine (write_any w.heap.size w3 [] a s3 c3 HH3.out HB3.out (fun c o e _ => by have := hbase3 c o e; omega) HE3.out (by omega) (by simp [HNa.out]; omega)).mono ?_
  rintro e w4 ⟨rfl, hg4, hh4⟩
  rw [List.nil_append] at hh4
  rw [HNa.out]
  have hpk : ∀ (k : Nat), some w.heap.size = some k → 2 ≤ k := fun k e => by cases e; omega
  have HE4 := Lib.hid (HE3.out.grown hg4 hpk)
  have HH4 := Lib.hid hh4
  have HG4 := Lib.hid (HG3.out.grown hg4 (by simp))
  have HW4 := Lib.hid (HW3.out.trans (Below.ofGrown hg4 (by omega) (fun k e => by cases e; exact Nat.le_refl _)))
  have HO4 := Lib.hid (HO3.out.kept hg4 (Or.inr (fun e => by have := HO3.out.lt _ e; omega)))
  have hz4 : w2.heap.size ≤ w4.heap.size := Nat.le_trans hz3' hg4.size
  clear hpk hg4 hh4 HE3 HH3 HG3 HW3 HO3 HB3 hz3'
  go_wp2
  go_loopw [8] (fun i wr => ∃ (k : Nat) (l : List Int), k ≤ na ∧ i = .int .i64 k ∧ l.length = na ∧ wr.ownsRow (w.heap.size + 2) 5 1 (.slice s3 na c3) na (l.map (Value.int .u8)) ∧ w4.grownBy wr (Value.slice s3 na c3).ownBlock) (fun i _ => na - (intOf i).toNat)
  case atStart => exact ⟨0, a, Nat.zero_le _, rfl, HNa.out, HO4.out, grown_refl _ _⟩
  case round =>
    obtain ⟨k, l, hk, rfl, hl, ho, hg⟩ := hrel
    by_cases hlt : k < na
    · have hdt : decide (k < na) = true := by simp; omega
      rcases ho.2 with ⟨e, h0⟩ | ⟨g, cap, cur, e, hbg, _⟩
      · exfalso; omega
      · simp only [Value.slice.injEq, true_and] at e
        obtain ⟨rfl, rfl⟩ := e
        have hck := ho.cells (g := g) rfl k (.int .u8 (l.getD k 0)) (by simp [hl, hlt])
        have hadd : (⟨g, 0, none⟩ : Addr).add k = ⟨g, k, none⟩ := by unfold Addr.add; split <;> simp_all
        rw [hadd] at hck
        obtain ⟨x, hx⟩ : ∃ x, l.getD k 0 = x := ⟨_, rfl⟩
        rw [hx] at hck
        have hfk : wr.frozen? ⟨g, k, none⟩ = false := ho.frozenAt k
        have HST := Lib.hid (ho.stored k (.int .u8 ((x + 1) % 256)))
        have HGr := Lib.hid hg
        have HL := Lib.hid hl
        clear ho hg hl hx hadd
        go_wp2
        clear hck hfk
        go_roundw
        case rel =>
          refine ⟨k + 1, l.set k ((x + 1) % 256), by omega, by go_num, by rw [List.length_set]; exact HL.out, ?_, grown_trans HGr.out HST.out.2⟩
          rw [List.map_set]
          exact HST.out.1
        case measure => simp [intOf]; omega
    · have hdf : decide (k < na) = false := by simp; omega
      have hbk : ∀ g, (Value.slice s3 na c3).ownBlock = some g → w.heap.size + 2 ≤ g := fun g e => (ho.lt g e).1
      have HE5 := Lib.hid (HE4.out.grown hg (fun g e => by have := hbk g e; omega))
      have HH5 := Lib.hid (HH4.out.grown hg (fun e => by have := hbk _ e.symm; omega))
      have HG5 := Lib.hid (HG4.out.grown hg (fun e => by have := hbk _ e.symm; omega))
      have HW5 := Lib.hid (HW4.out.trans (Below.ofGrown hg (by omega) (fun g e => by have := hbk g e; omega)))
      clear hbk hg ho hl
      obtain ⟨F, hF⟩ : ∃ F, sum a = F := ⟨_, rfl⟩
      have HF := Lib.hid hF
      have HFl := Lib.hid (sum_length a)
      have HZ := Lib.hid (row_sum a)
      have HY := Lib.hid (row_zero a)
      have HX := Lib.hid (rowB_one (sum a))
      rw [hF] at HZ HY HX HFl
      clear hF
      go_wp2_with fail
      refine (hash_sum w.heap.size wr a HH5.out HE5.out (by rw [HNa.out]; omega)).mono ?_
      rintro e w6 ⟨rfl, hb6⟩
      rw [HF.out]
      have HE6 := Lib.hid (HE5.out.below hb6)
      have HH6 := Lib.hid (HH5.out.later hb6)
      have HG6 := Lib.hid (HG5.out.later hb6)
      have HW6 := Lib.hid (HW5.out.trans (hb6.mono HW5.out.size))
      clear hb6 HE5 HH5 HG5 HW5
      go_upto_region 15 with (refine wpList_store_row rfl 25 (.tmp 9) (.tmp 50) rfl w6.heap.size (rowB F) rfl rfl 25 _ (heap_alloc_new _ _) HZ.out HY.out HX.out ?_)
      simp only [Act.put]
      refine gen_world (Q := fun w => Code.wp _ _ _ _ w) _ (fun W => Below w6.heap.size w6 W ∧ W.heap[w6.heap.size]? = some (.cells (rowB F) 25 (0, 0))) ⟨below_setRow ((Below.refl _ _).alloc (Nat.le_refl _) _) (Nat.le_refl _) _, setRow_heap _ _ _ _ _ _ (heap_alloc_new _ _)⟩ ?_
      rintro w7 ⟨hb7, hr7⟩
      have HE7 := Lib.hid (HE6.out.below hb7)
      have HH7 := Lib.hid (HH6.out.later hb7)
      have HG7 := Lib.hid (HG6.out.later hb7)
      have HW7 := Lib.hid (HW6.out.trans (hb7.mono HW6.out.size))
      have hg1 : w.heap.size + 2 ≤ w6.heap.size := by have := HG6.out.lt; omega
      have HR7 := Lib.hid hr7
      clear hb7 hr7 HE6 HH6 HG6
      generalize w6.heap.size = g1 at HR7 hg1 ⊢
      have HBb := Lib.hid (HB.out.below HW7.out)
      go_wp2_with fail
      rw [← HNb.out]
      have hgl := HG7.out.lt
      have hbsep : ∀ c o, sb = some ⟨c, o, none⟩ → 0 < b.length → c < w.heap.size := fun c o e hp => by
        obtain ⟨c1, o1, e1, h1⟩ := HB.out.lies hp
        rw [e] at e1
        cases e1
        exact block_lt_of_cell (h1 0 hp)
      refine (write_any (w.heap.size + 1) w7 [] b sb cb HG7.out HBb.out (fun c o e hp => by have := hbsep c o e hp; omega) HE7.out (by omega) (by simp [HNb.out]; omega)).mono ?_
      rintro e w8 ⟨rfl, hg8, hh8⟩
      rw [List.nil_append] at hh8
      rw [HNb.out]
      have hpk : ∀ (k : Nat), some (w.heap.size + 1) = some k → w.heap.size + 1 ≤ k := fun k e => by cases e; exact Nat.le_refl _
      have HE8 := Lib.hid (HE7.out.grown hg8 (fun k e => by have := hpk k e; omega))
      have HH8 := Lib.hid (HH7.out.grown hg8 (by simp))
      have HG8 := Lib.hid hh8
      have HW8 := Lib.hid (HW7.out.trans (Below.ofGrown hg8 (by omega) (fun k e => by have := hpk k e; omega)))
      have HR8 := Lib.hid ((hg8.block g1 (Array.getElem?_eq_some_iff.1 HR7.out).1 (by simp; omega)).trans HR7.out)
      clear hg8 hh8 hpk HE7 HH7 HG7 HW7 HR7 HBb
      go_wp2_with fail
      refine (hash_sum w.heap.size w8 a HH8.out HE8.out (by rw [HNa.out]; omega)).mono ?_
      rintro e w9 ⟨rfl, hb9⟩
      rw [HF.out]
      have HE9 := Lib.hid (HE8.out.below hb9)
      have HH9 := Lib.hid (HH8.out.later hb9)
      have HG9 := Lib.hid (HG8.out.later hb9)
      have HW9 := Lib.hid (HW8.out.trans (hb9.mono HW8.out.size))
      have HR9 := Lib.hid ((hb9.block g1 (Array.getElem?_eq_some_iff.1 HR8.out).1).trans HR8.out)
      clear hb9 HE8 HH8 HG8 HW8 HR8
      go_upto_region 17 with (refine wpList_store_row rfl 25 (.tmp 10) (.tmp 55) rfl w9.heap.size (rowB F) rfl rfl 25 _ (heap_alloc_new _ _) HZ.out HY.out HX.out ?_)
      simp only [Act.put]
      refine gen_world (Q := fun w => Code.wp _ _ _ _ w) _ (fun W => Below w9.heap.size w9 W ∧ W.heap[w9.heap.size]? = some (.cells (rowB F) 25 (0, 0))) ⟨below_setRow ((Below.refl _ _).alloc (Nat.le_refl _) _) (Nat.le_refl _) _, setRow_heap _ _ _ _ _ _ (heap_alloc_new _ _)⟩ ?_
      rintro w10 ⟨hb10, hr10⟩
      have HE10 := Lib.hid (HE9.out.below hb10)
      have HH10 := Lib.hid (HH9.out.later hb10)
      have HG10 := Lib.hid (HG9.out.later hb10)
      have HW10 := Lib.hid (HW9.out.trans (hb10.mono HW9.out.size))
      have HR10 := Lib.hid ((hb10.block g1 (Array.getElem?_eq_some_iff.1 HR9.out).1).trans HR9.out)
      have hg2 : w.heap.size + 2 ≤ w9.heap.size := by have := HG9.out.lt; omega
      have HQ10 := Lib.hid hr10
      clear hb10 hr10 HE9 HH9 HG9 HW9 HR9
      generalize w9.heap.size = g2 at HQ10 hg2 ⊢
      have HBb := Lib.hid (HB.out.below HW10.out)
      go_wp2_with fail
      rw [← HNb.out]
      refine (write_any w.heap.size w10 a b sb cb HH10.out HBb.out (fun c o e hp => by have := hbsep c o e hp; omega) HE10.out (by omega) (by rw [HNa.out, HNb.out]; omega)).mono ?_
      rintro e w11 ⟨rfl, hg11, hh11⟩
      rw [HNb.out]
      have hpk : ∀ (k : Nat), some w.heap.size = some k → w.heap.size ≤ k := fun k e => by cases e; exact Nat.le_refl _
      have HE11 := Lib.hid (HE10.out.grown hg11 (fun k e => by have := hpk k e; omega))
      have HH11 := Lib.hid hh11
      have HG11 := Lib.hid (HG10.out.grown hg11 (by simp))
      have HW11 := Lib.hid (HW10.out.trans (Below.ofGrown hg11 (by have := HH10.out.lt; omega) hpk))
      have HR11 := Lib.hid ((hg11.block g1 (Array.getElem?_eq_some_iff.1 HR10.out).1 (by simp; omega)).trans HR10.out)
      have HQ11 := Lib.hid ((hg11.block g2 (Array.getElem?_eq_some_iff.1 HQ10.out).1 (by simp; omega)).trans HQ10.out)
      have hz11 : w.heap.size + 2 ≤ w11.heap.size := by have := HG11.out.lt; omega
      clear hpk hg11 hh11 HE10 HH10 HG10 HW10 HR10 HQ10 HBb
      have HBa := Lib.hid (HA.out.below HW11.out)
      go_upto_region 20 with (refine wpList_append_bytes rfl (.tmp 59) (.tmp 60) rfl (w.heap.size + 2) (.slice none 0 0) 0 na [] a rfl (World.ownsRow_nil _ _ _ _) sa ca rfl HNa.out HBa.out hza (by omega) hz11 ?_; intro v12 w12 hown12 hg12)
      simp only [Nat.zero_add, List.nil_append] at hown12
      obtain ⟨s12, c12, rfl, _, _, _, _⟩ := own_bytes hown12
      have HE12 := Lib.hid (HE11.out.grown hg12 (fun k e => by cases e))
      have HH12 := Lib.hid (HH11.out.grown hg12 (fun e => by cases e))
      have HG12 := Lib.hid (HG11.out.grown hg12 (fun e => by cases e))
      have HW12 := Lib.hid (HW11.out.trans (Below.ofGrown hg12 (by omega) (fun k e => by cases e)))
      have HR12 := Lib.hid ((hg12.block g1 (Array.getElem?_eq_some_iff.1 HR11.out).1 (fun e => by cases e)).trans HR11.out)
      have HQ12 := Lib.hid ((hg12.block g2 (Array.getElem?_eq_some_iff.1 HQ11.out).1 (fun e => by cases e)).trans HQ11.out)
      have hz12 : w.heap.size + 2 ≤ w12.heap.size := Nat.le_trans hz11 hg12.size
      have HO12 := Lib.hid hown12
      clear hg12 hown12 HE11 HH11 HG11 HW11 HR11 HQ11 HBa
      have HBb := Lib.hid (HB.out.below HW12.out)
      go_upto_region 21 with (refine wpList_append_bytes rfl (.tmp 62) (.tmp 63) rfl (w.heap.size + 2) (.slice s12 na c12) na nb a b rfl HO12.out sb cb rfl HNb.out HBb.out hzb (by omega) hz12 ?_; intro v13 w13 hown13 hg13)
      obtain ⟨s13, c13, rfl, hl13, hb13, _, _⟩ := own_bytes hown13
      have hbk : ∀ g, (Value.slice s12 na c12).ownBlock = some g → w.heap.size + 2 ≤ g := fun g e => (HO12.out.lt g e).1
      have HE13 := Lib.hid (HE12.out.grown hg13 (fun g e => by have := hbk g e; omega))
      have HH13 := Lib.hid (HH12.out.grown hg13 (fun e => by have := hbk _ e.symm; omega))
      have HG13 := Lib.hid (HG12.out.grown hg13 (fun e => by have := hbk _ e.symm; omega))
      have HW13 := Lib.hid (HW12.out.trans (Below.ofGrown hg13 (by omega) (fun g e => by have := hbk g e; omega)))
      have HR13 := Lib.hid ((hg13.block g1 (Array.getElem?_eq_some_iff.1 HR12.out).1 (own_apart HO12.out HR12.out)).trans HR12.out)
      have HQ13 := Lib.hid ((hg13.block g2 (Array.getElem?_eq_some_iff.1 HQ12.out).1 (own_apart HO12.out HQ12.out)).trans HQ12.out)
      have HB13 := Lib.hid hb13
      have HL13 := Lib.hid hl13
      clear hbk hg13 hown13 hb13 hl13 HE12 HH12 HG12 HW12 HR12 HQ12 HO12 HBb hz11 hz12
      obtain ⟨G, hG⟩ : ∃ G, sum (a ++ b) = G := ⟨_, rfl⟩
      have HGs := Lib.hid hG
      obtain ⟨B, hBs⟩ : ∃ G, sum b = G := ⟨_, rfl⟩
      have HBs := Lib.hid hBs
      have eF : ∀ w, (binOp .eql 25 (.agg (rowB F)) (.agg (rowB F))).run Tryd.prog w = .ok (.bool true) w := by rw [← HF.out]; exact eq_sum a
      have eG : ∀ w, (binOp .eql 25 (.agg (rowB G)) (.agg (rowB G))).run Tryd.prog w = .ok (.bool true) w := by rw [← hG]; exact eq_sum (a ++ b)
      have eB : ∀ w, (binOp .eql 25 (.agg (rowB B)) (.agg (rowB B))).run Tryd.prog w = .ok (.bool true) w := by rw [← hBs]; exact eq_sum b
      clear hG hBs
      have kR : ∀ W, Below w13.heap.size w13 W → W.heap[g1]? = some (.cells (rowB F) 25 (0, 0)) := fun W hW => (hW.block g1 (Array.getElem?_eq_some_iff.1 HR13.out).1).trans HR13.out
      have kQ : ∀ W, Below w13.heap.size w13 W → W.heap[g2]? = some (.cells (rowB F) 25 (0, 0)) := fun W hW => (hW.block g2 (Array.getElem?_eq_some_iff.1 HQ13.out).1).trans HQ13.out
      have kE : ∀ W, Below w13.heap.size w13 W → Env W := fun W hW => HE13.out.below hW
      have kN : ∀ {W W' : World}, Below w13.heap.size w13 W → Below W.heap.size W W' → Below w13.heap.size w13 W' := fun hW h => hW.trans (h.mono hW.size)
      have kS : ∀ (sp : Option Addr) (m cap : Nat) (l : List Int), l.length = m → m ≤ 400 → Bytes w13 sp cap l → ∀ W, Below w13.heap.size w13 W → Calls Tryd.prog 9 #[.slice sp m cap] W fun e W' => e = .returned (.agg (rowB (sum l))) ∧ Below w13.heap.size w13 W' :=
        fun sp m cap l hm hn hb W hW => (sum_any W sp m cap l hm (hb.below hW) (kE W hW) (by omega)).mono fun e W' ⟨h1, h2⟩ => ⟨h1, kN hW h2⟩
      have kH : ∀ (p : Nat) (l : List Int), l.length ≤ 400 → HashAt w13 p l → ∀ W, Below w13.heap.size w13 W → Calls Tryd.prog 14 #[.pointer (some ⟨p, 0, none⟩)] W fun e W' => e = .returned (.agg (rowB (sum l))) ∧ Below w13.heap.size w13 W' :=
        fun p l hn hh W hW => (hash_sum p W l (hh.later hW) (kE W hW) (by omega)).mono fun e W' ⟨h1, h2⟩ => ⟨h1, kN hW h2⟩
      have KA := Lib.hid (kS sa na ca a HNa.out (by omega) (HA.out.below HW13.out))
      have KB := Lib.hid (kS sb nb cb b HNb.out (by omega) (HB.out.below HW13.out))
      have KAB := Lib.hid (kS s13 (na + nb) c13 (a ++ b) HL13.out (by omega) HB13.out)
      have KH := Lib.hid (kH w.heap.size (a ++ b) (by rw [HL13.out]; omega) HH13.out)
      have KG := Lib.hid (kH (w.heap.size + 1) b (by rw [HNb.out]; omega) HG13.out)
      have KL : Hid (∀ W, Below w13.heap.size w13 W → Calls Tryd.prog 13 #[.pointer (some ⟨w.heap.size + 1, 0, none⟩)] W fun e W' => e = .returned (.int .i64 nb) ∧ Below w13.heap.size w13 W') := fun W hW =>
        (len_any (w.heap.size + 1) W b (HG13.out.later hW)).mono fun e W' ⟨h1, h2⟩ => ⟨by rw [h1, HNb.out], h2 ▸ hW⟩
      have KW : Hid (∀ W, Below w13.heap.size w13 W → Calls Tryd.prog 8 #[] W fun e W' => e = .returned (.bool true) ∧ Below w13.heap.size w13 W') := fun W hW =>
        (awake_any W (kE W hW)).mono fun e W' ⟨h1, h2⟩ => ⟨h1, kN hW h2⟩
      rw [HF.out] at KA
      rw [HGs.out] at KAB KH
      rw [HBs.out] at KB KG
      clear kS kH kE kN
      refine wp_region_quiet (C := fun W => Below w13.heap.size w13 W) (by kernel_rfl) (by kernel_rfl) ⟨rfl, rfl, rfl, Nat.le_refl _, fun _ _ => rfl⟩ ?_
      refine q_val (.agg (rowB F)) rfl (fun W hW => exec_load_row 25 (.tmp 9) rfl g1 rfl 25 (rowB F) (0, 0) _ (kR W hW) Tryd.underlying25 rfl HZ.out) ?_
      simp only [Act.put, List.setIfInBounds_toArray, List.set_cons_succ, List.set_cons_zero]
      go_big_quiet_step (fail)
      refine q_call 9 #[.slice sa na ca] (.agg (rowB F)) rfl (fun _ _ => exec_call1 9 (.tmp 66) #[22] (.slice sa na ca) rfl rfl (cf9 _ _)) (fun W hW => KA.out W hW) ?_
      simp only [Act.put, List.setIfInBounds_toArray, List.set_cons_succ, List.set_cons_zero]
      refine q_val (.bool true) rfl (fun W _ => exec_binOp .eql 25 25 (.tmp 65) (.tmp 67) rfl (.agg (rowB F)) (.agg (rowB F)) _ rfl rfl (guard25 _ _ _ _ _) (eF W)) ?_
      simp only [Act.put, List.setIfInBounds_toArray, List.set_cons_succ, List.set_cons_zero]
      go_big_quiet_step (fail)
      refine q_val (.agg (rowB F)) rfl (fun W hW => exec_load_row 25 (.tmp 10) rfl g2 rfl 25 (rowB F) (0, 0) _ (kQ W hW) Tryd.underlying25 rfl HZ.out) ?_
      simp only [Act.put, List.setIfInBounds_toArray, List.set_cons_succ, List.set_cons_zero]
      refine q_val (.agg (rowB F)) rfl (fun W hW => exec_load_row 25 (.tmp 9) rfl g1 rfl 25 (rowB F) (0, 0) _ (kR W hW) Tryd.underlying25 rfl HZ.out) ?_
      simp only [Act.put, List.setIfInBounds_toArray, List.set_cons_succ, List.set_cons_zero]
      refine q_val (.bool true) rfl (fun W _ => exec_binOp .eql 25 25 (.tmp 70) (.tmp 71) rfl (.agg (rowB F)) (.agg (rowB F)) _ rfl rfl (guard25 _ _ _ _ _) (eF W)) ?_
      simp only [Act.put, List.setIfInBounds_toArray, List.set_cons_succ, List.set_cons_zero]
      refine q_val (.bool true) rfl (fun _ _ => rfl) ?_
      simp only [Act.put, List.setIfInBounds_toArray, List.set_cons_succ, List.set_cons_zero]
      go_big_quiet_step (fail)
      go_big_quiet_step (fail)
      refine q_call 14 #[.pointer (some ⟨w.heap.size, 0, none⟩)] (.agg (rowB G)) rfl (fun _ _ => exec_call1 14 (.tmp 75) #[29] (.pointer (some ⟨w.heap.size, 0, none⟩)) rfl rfl (cf14 _ _)) (fun W hW => KH.out W hW) ?_
      simp only [Act.put, List.setIfInBounds_toArray, List.set_cons_succ, List.set_cons_zero]
      go_big_quiet_step (fail)
      refine q_call 9 #[.slice s13 (na + nb) c13] (.agg (rowB G)) rfl (fun _ _ => exec_call1 9 (.tmp 77) #[22] (.slice s13 (na + nb) c13) rfl rfl (cf9 _ _)) (fun W hW => KAB.out W hW) ?_
      simp only [Act.put, List.setIfInBounds_toArray, List.set_cons_succ, List.set_cons_zero]
      refine q_val (.bool true) rfl (fun W _ => exec_binOp .eql 25 25 (.tmp 76) (.tmp 78) rfl (.agg (rowB G)) (.agg (rowB G)) _ rfl rfl (guard25 _ _ _ _ _) (eG W)) ?_
      simp only [Act.put, List.setIfInBounds_toArray, List.set_cons_succ, List.set_cons_zero]
      refine q_val (.bool true) rfl (fun _ _ => rfl) ?_
      simp only [Act.put, List.setIfInBounds_toArray, List.set_cons_succ, List.set_cons_zero]
      go_big_quiet_step (fail)
      go_big_quiet_step (fail)
      refine q_call 14 #[.pointer (some ⟨w.heap.size + 1, 0, none⟩)] (.agg (rowB B)) rfl (fun _ _ => exec_call1 14 (.tmp 82) #[29] (.pointer (some ⟨w.heap.size + 1, 0, none⟩)) rfl rfl (cf14 _ _)) (fun W hW => KG.out W hW) ?_
      simp only [Act.put, List.setIfInBounds_toArray, List.set_cons_succ, List.set_cons_zero]
      go_big_quiet_step (fail)
      refine q_call 9 #[.slice sb nb cb] (.agg (rowB B)) rfl (fun _ _ => exec_call1 9 (.tmp 84) #[22] (.slice sb nb cb) rfl rfl (cf9 _ _)) (fun W hW => KB.out W hW) ?_
      simp only [Act.put, List.setIfInBounds_toArray, List.set_cons_succ, List.set_cons_zero]
      refine q_val (.bool true) rfl (fun W _ => exec_binOp .eql 25 25 (.tmp 83) (.tmp 85) rfl (.agg (rowB B)) (.agg (rowB B)) _ rfl rfl (guard25 _ _ _ _ _) (eB W)) ?_
      simp only [Act.put, List.setIfInBounds_toArray, List.set_cons_succ, List.set_cons_zero]
      refine q_val (.bool true) rfl (fun _ _ => rfl) ?_
      simp only [Act.put, List.setIfInBounds_toArray, List.set_cons_succ, List.set_cons_zero]
      go_big_quiet_step (fail)
      go_big_quiet_step (fail)
      refine q_call 13 #[.pointer (some ⟨w.heap.size + 1, 0, none⟩)] (.int .i64 nb) rfl (fun _ _ => exec_call1 13 (.tmp 89) #[29] (.pointer (some ⟨w.heap.size + 1, 0, none⟩)) rfl rfl (cf13 _ _)) (fun W hW => KL.out W hW) ?_
      simp only [Act.put, List.setIfInBounds_toArray, List.set_cons_succ, List.set_cons_zero]
      go_big_quiet_step (fail)
      refine q_val (.int .i64 nb) rfl (fun W _ => exec_len (.tmp 91) rfl sb nb cb rfl) ?_
      simp only [Act.put, List.setIfInBounds_toArray, List.set_cons_succ, List.set_cons_zero]
      refine q_val (.bool true) rfl (fun W _ => exec_binOp .eql 3 3 (.tmp 90) (.tmp 92) rfl (.int .i64 nb) (.int .i64 nb) _ rfl rfl rfl (eq_int nb W)) ?_
      simp only [Act.put, List.setIfInBounds_toArray, List.set_cons_succ, List.set_cons_zero]
      refine q_val (.bool true) rfl (fun _ _ => rfl) ?_
      simp only [Act.put, List.setIfInBounds_toArray, List.set_cons_succ, List.set_cons_zero]
      go_big_quiet_step (fail)
      refine q_call 8 #[] (.bool true) rfl (fun _ _ => exec_call0 8 #[] rfl (cf8 _ _)) (fun W hW => KW.out W hW) ?_
      simp only [Act.put, List.setIfInBounds_toArray, List.set_cons_succ, List.set_cons_zero]
      refine q_val (.bool true) rfl (fun _ _ => rfl) ?_
      simp only [Act.put, List.setIfInBounds_toArray, List.set_cons_succ, List.set_cons_zero]
      go_big_quiet_step (fail)
      refine wpQuiet_nil ?_
      intro W hW
      have HWW := Lib.hid (HW13.out.trans (hW.mono HW13.out.size))
      clear hW
      go_wp2
      go_ret
      exact ⟨rfl, HWW.out⟩
end Go.Proofs.YtmlkgbfaamdapaaDoor
