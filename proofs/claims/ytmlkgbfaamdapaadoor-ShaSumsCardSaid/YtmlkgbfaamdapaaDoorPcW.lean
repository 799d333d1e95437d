import Derived.Test.YtmlkgbfaamdapaaDoorPa
namespace Go.Proofs.YtmlkgbfaamdapaaDoor
open Go.ChangeShapes Go.WideShapes Go.ChangeAt Go.RowKit

/-- the pieces that came in -/
def Pieces (w : World) (A : Option Addr) (ls : List (List Int)) : Prop :=
  ∀ i, i < ls.length → ∃ c o sp cap, A = some ⟨c, o, none⟩ ∧ w.cell? ⟨c, o + i, none⟩ = some (.slice sp (ls.getD i []).length cap) ∧ Bytes w sp cap (ls.getD i []) ∧ (sp = none → cap = 0)

/-- how the loop stands: k pieces were taken -/
structure Pc (w : World) (ls : List (List Int)) (k : Nat) (all : List Int) (v : Value) (wr : World) : Prop where
  le : k ≤ ls.length
  flat : all = (ls.take k).flatten
  few : all.length ≤ 200 * k
  hash : HashAt wr w.heap.size all
  own : wr.ownsRow (w.heap.size + 1) 5 1 v all.length (all.map (Value.int .u8))
  below : Below w.heap.size w wr

theorem flat_snoc (ls : List (List Int)) (k : Nat) (h : k < ls.length) : (ls.take (k + 1)).flatten = (ls.take k).flatten ++ ls.getD k [] := by
  have e : ls.getD k [] = ls[k] := by simp [h]
  rw [e, List.take_succ_eq_append_getElem h, List.flatten_append, List.flatten_singleton]

set_option maxRecDepth 100000 in
set_option maxHeartbeats 4000000 in
theorem pieces_walk (w : World) (A : Option Addr) (ls : List (List Int)) (N C : Nat) (hN : ls.length = N) (hNm : N ≤ 9223372036854775807) (hP : Pieces w A ls) (he : Env w) :
    Calls Tryd.prog 4 #[.slice A N C] w fun e w' => e = .returned (.bool true) ∧ Below w.heap.size w w' := by
  have HE := Lib.hid he
  have HP : Hid (Pieces w A ls) := hP
  have HN := Lib.hid hN
  have hw2 := he.two
  clear he hP hN
  by_cases h20 : 20 < N
  · have hd : decide ((20 : Int) < (N : Int)) = true := by simp; omega
    go_enter Tryd.func4, Tryd.ntmps4
    go_wp2_with fail
    refine (awake_any w HE.out).mono ?_
    rintro e w1 ⟨rfl, hb1⟩
    go_wp2
    go_ret
    exact ⟨rfl, hb1⟩
  · have hd : decide ((20 : Int) < (N : Int)) = false := by simp; omega
    go_enter Tryd.func4, Tryd.ntmps4
    go_wp2_with fail
    refine (new_any w HE.out).mono ?_
    rintro e w1 ⟨rfl, rfl⟩
    have hpc : Pc w ls 0 [] (.slice none 0 0) (w.alloc (.cells newRow 53)) := ⟨Nat.zero_le _, rfl, Nat.le_refl _, HashAt.new w, World.ownsRow_nil _ _ _ _, (Below.refl _ _).alloc (Nat.le_refl _) _⟩
    go_wp2
    go_loopw [5, 4] (fun i v wr => ∃ (k : Nat) (all : List Int), i = .int .i64 k ∧ Pc w ls k all v wr) (fun i _ _ => N - (intOf i).toNat)
    case atStart => exact ⟨0, [], rfl, hpc⟩
    case round =>
      clear hpc
      obtain ⟨k, all, rfl, hpc⟩ := hrel
      have hkN : k ≤ N := by rw [← HN.out]; exact hpc.le
      obtain ⟨sv, cv, rfl, hal, hbv, hzv, hbase⟩ := own_bytes hpc.own
      have HPc := Lib.hid hpc
      have HBv := Lib.hid hbv
      have HAl := Lib.hid hal
      clear hpc hbv hal
      have hfew : all.length ≤ 4000 := by have := HPc.out.few; omega
      obtain ⟨n, hn⟩ : ∃ n, all.length = n := ⟨_, rfl⟩
      rw [hn] at hfew ⊢
      have HAn := Lib.hid hn
      clear hn
      by_cases hlt : k < N
      · have hdt : decide (k < N) = true := by simp; omega
        obtain ⟨c, o, sp, cap, rfl, hcell, hbp, hzp⟩ := HP.out k (by rw [HN.out]; exact hlt)
        obtain ⟨pc, hpcd⟩ : ∃ x, ls.getD k [] = x := ⟨_, rfl⟩
        rw [hpcd] at hcell hbp
        have HPd := Lib.hid hpcd
        clear hpcd
        obtain ⟨m, hm⟩ : ∃ m, pc.length = m := ⟨_, rfl⟩
        rw [hm] at hcell
        have HM := Lib.hid hm
        clear hm
        have hcl : c < w.heap.size := block_lt_of_cell hcell
        have hcr : wr.cell? ⟨c, o + k, none⟩ = some (.slice sp m cap) := (HPc.out.below.cell hcl).trans hcell
        have HCell := Lib.hid hcell
        have HBp := Lib.hid hbp
        clear hcell hbp
        have hEr := HE.out.below HPc.out.below
        have HEr := Lib.hid hEr
        clear hEr
        have hmm : m ≤ 9223372036854775807 := by have h1 := HBp.out.le; have h2 := HBp.out.max; rw [HM.out] at h1; unfold maxLen at h2; omega
        by_cases h200 : 200 < m
        · have hd2 : decide ((200 : Int) < (m : Int)) = true := by simp; omega
          go_wp2_with fail
          refine (awake_any wr HEr.out).mono ?_
          rintro e w1 ⟨rfl, hb1⟩
          go_wp2
          go_ret
          exact ⟨rfl, HPc.out.below.trans (hb1.mono HPc.out.below.size)⟩
        · have hd2 : decide ((200 : Int) < (m : Int)) = false := by simp; omega
          go_wp2_with fail
          have hlt0 := HPc.out.hash.lt
          have HBr := Lib.hid (HBp.out.below HPc.out.below)
          rw [← HM.out]
          refine (write_any w.heap.size wr all pc sp cap HPc.out.hash HBr.out (fun c' o' e hp => ?_) HEr.out (by omega) (by rw [HAn.out, HM.out]; omega)).mono ?_
          · obtain ⟨c1, o1, e1, h1⟩ := HBp.out.lies hp
            rw [e] at e1
            cases e1
            have := block_lt_of_cell (h1 0 hp)
            simp only at this
            omega
          rintro e w1 ⟨rfl, hg1, hh1⟩
          rw [HM.out]
          have hb1 : Below w.heap.size wr w1 := Below.ofGrown hg1 (by omega) (fun k e => by cases e; exact Nat.le_refl _)
          have HB1 := Lib.hid (HPc.out.below.trans hb1)
          have HE1 := Lib.hid (HEr.out.grown hg1 (fun k e => by cases e; omega))
          have HO1 := Lib.hid (HPc.out.own.kept hg1 (Or.inr (fun e => by
            rcases sv with _ | a
            · cases e
            · have := HPc.out.own.lt _ rfl
              simp only [Value.ownBlock, Option.some.injEq] at e
              omega)))
          have HH1 := Lib.hid hh1
          rw [HAn.out] at HO1
          have HBp1 := Lib.hid (HBp.out.below HB1.out)
          clear hcr
          have hcr1 : w1.cell? ⟨c, o + k, none⟩ = some (.slice sp m cap) := (HB1.out.cell hcl).trans HCell.out
          have hs1 : w.heap.size + 1 ≤ w1.heap.size := hh1.lt
          clear hb1 hg1 hh1
          go_wp2_with (refine wpList_append_bytes rfl (.tmp 32) (.tmp 36) rfl (w.heap.size + 1) (.slice sv n cv) n m all pc rfl HO1.out sp cap rfl HM.out HBp1.out hzp (by omega) hs1 ?_; intro v2 w2 hown2 hg2)
          obtain ⟨s2, cp2, rfl, hal2, hb2, hz2, hbase2⟩ := own_bytes hown2
          have hne : ∀ g, (Value.slice sv n cv).ownBlock = some g → w.heap.size + 1 ≤ g := fun g e => (HO1.out.lt g e).1
          have HH2 := Lib.hid (HH1.out.grown hg2 (fun e => by have := hne _ e.symm; omega))
          have hbl2 : Below (w.heap.size + 1) w1 w2 := Below.ofGrown hg2 hs1 hne
          have HBl2 := Lib.hid (HB1.out.trans (hbl2.mono (by omega)))
          have HE2 := Lib.hid (HE1.out.grown hg2 (fun g e => by have := hne g e; omega))
          have HO2 := Lib.hid hown2
          have HB2 := Lib.hid hb2
          have HA2 := Lib.hid hal2
          clear hg2 hown2 hb2 hal2 hbl2 hne hcr1 hs1 HB1 HE1 HO1 HH1
          obtain ⟨all2, ha2⟩ : ∃ x, all ++ pc = x := ⟨_, rfl⟩
          rw [ha2] at HO2 HB2 HA2 HH2
          have HA3 := Lib.hid ha2
          clear ha2
          obtain ⟨n2, hn2⟩ : ∃ x, n + m = x := ⟨_, rfl⟩
          rw [hn2] at HO2 HA2 ⊢
          have hn2b : n2 ≤ 5000 := by omega
          have hn2c : n2 ≤ n + 200 := by omega
          clear hn2
          refine (len_any w.heap.size w2 all2 HH2.out).mono ?_
          rintro e w3 ⟨rfl, rfl⟩
          rw [HA2.out]
          obtain ⟨F, hF⟩ : ∃ F, sum all2 = F := ⟨_, rfl⟩
          have hneq : ∀ w, (binOp .neq 25 (.agg (rowB F)) (.agg (rowB F))).run Tryd.prog w = .ok (.bool false) w := by rw [← hF]; exact neq_sum all2
          have HF := Lib.hid hF
          clear hF
          go_wp2_with fail
          refine (hash_sum w.heap.size w2 all2 HH2.out HE2.out (by rw [HA2.out]; omega)).mono ?_
          rintro e w3 ⟨rfl, hb3⟩
          rw [HF.out]
          have HE3 := Lib.hid (HE2.out.below hb3)
          have HH3 := Lib.hid (HH2.out.later hb3)
          have HB3 := Lib.hid (HB2.out.below hb3)
          have HO3 := Lib.hid (HO2.out.kept (row := none) ⟨hb3.os, hb3.tape, hb3.output, hb3.size, fun k hk _ => hb3.block k hk⟩ (by cases (Value.slice s2 n2 cp2).ownBlock <;> simp))
          have HW3 := Lib.hid (HBl2.out.trans (hb3.mono HBl2.out.size))
          clear hb3 HE2 HH2 HB2 HO2 HBl2
          go_wp2_with fail
          refine (sum_any w3 s2 n2 cp2 all2 HA2.out HB3.out HE3.out (by omega)).mono ?_
          rintro e w4 ⟨rfl, hb4⟩
          rw [HF.out]
          have HE4 := Lib.hid (HE3.out.below hb4)
          have HH4 := Lib.hid (HH3.out.later hb4)
          have HO4 := Lib.hid (HO3.out.kept (row := none) ⟨hb4.os, hb4.tape, hb4.output, hb4.size, fun k hk _ => hb4.block k hk⟩ (by cases (Value.slice s2 n2 cp2).ownBlock <;> simp))
          have HW4 := Lib.hid (HW3.out.trans (hb4.mono HW3.out.size))
          clear hb4 HE3 HH3 HB3 HO3 HW3
          go_wp2_with fail
          refine (hash_sum w.heap.size w4 all2 HH4.out HE4.out (by rw [HA2.out]; omega)).mono ?_
          rintro e w5 ⟨rfl, hb5⟩
          rw [HF.out]
          have HE5 := Lib.hid (HE4.out.below hb5)
          have HH5 := Lib.hid (HH4.out.later hb5)
          have HO5 := Lib.hid (HO4.out.kept (row := none) ⟨hb5.os, hb5.tape, hb5.output, hb5.size, fun k hk _ => hb5.block k hk⟩ (by cases (Value.slice s2 n2 cp2).ownBlock <;> simp))
          have HW5 := Lib.hid (HW4.out.trans (hb5.mono HW4.out.size))
          clear hb5 HE4 HH4 HO4 HW4
          go_wp2_with fail
          refine (hash_sum w.heap.size w5 all2 HH5.out HE5.out (by rw [HA2.out]; omega)).mono ?_
          rintro e w6 ⟨rfl, hb6⟩
          rw [HF.out]
          have HH6 := Lib.hid (HH5.out.later hb6)
          have HO6 := Lib.hid (HO5.out.kept (row := none) ⟨hb6.os, hb6.tape, hb6.output, hb6.size, fun k hk _ => hb6.block k hk⟩ (by cases (Value.slice s2 n2 cp2).ownBlock <;> simp))
          have HW6 := Lib.hid (HW5.out.trans (hb6.mono HW5.out.size))
          clear hb6 HE5 HH5 HO5 HW5
          go_wp2
          go_roundw
          case rel =>
            refine ⟨k + 1, all2, by go_num, ?_, ?_, ?_, HH6.out, ?_, HW6.out⟩
            · rw [HN.out]; omega
            · rw [flat_snoc ls k (by rw [HN.out]; exact hlt), ← HPc.out.flat, HPd.out, HA3.out]
            · rw [HA2.out]; have := HPc.out.few; rw [HAn.out] at this; omega
            · rw [HA2.out]; exact HO6.out
          case measure => simp [intOf]; omega
      · have hdf : decide (k < N) = false := by simp; omega
        obtain ⟨F, hF⟩ : ∃ F, sum all = F := ⟨_, rfl⟩
        have heq : ∀ w, (binOp .eql 25 (.agg (rowB F)) (.agg (rowB F))).run Tryd.prog w = .ok (.bool true) w := by rw [← hF]; exact eq_sum all
        have HF := Lib.hid hF
        clear hF
        have HEr := Lib.hid (HE.out.below HPc.out.below)
        go_wp2_with fail
        refine (hash_sum w.heap.size wr all HPc.out.hash HEr.out (by rw [HAn.out]; omega)).mono ?_
        rintro e w1 ⟨rfl, hb1⟩
        rw [HF.out]
        have HE1 := Lib.hid (HEr.out.below hb1)
        have HB1 := Lib.hid (HBv.out.below hb1)
        have HW1 := Lib.hid (HPc.out.below.trans (hb1.mono HPc.out.below.size))
        clear hb1
        go_wp2_with fail
        refine (sum_any w1 sv n cv all HAn.out HB1.out HE1.out (by omega)).mono ?_
        rintro e w2 ⟨rfl, hb2⟩
        rw [HF.out]
        have HE2 := Lib.hid (HE1.out.below hb2)
        have HW2 := Lib.hid (HW1.out.trans (hb2.mono HW1.out.size))
        clear hb2
        go_wp2_with fail
        refine (awake_any w2 HE2.out).mono ?_
        rintro e w3 ⟨rfl, hb3⟩
        have HW3 := Lib.hid (HW2.out.trans (hb3.mono HW2.out.size))
        clear hb3
        go_wp2
        go_ret
        exact ⟨rfl, HW3.out⟩
end Go.Proofs.YtmlkgbfaamdapaaDoor
