import Derived.Test.YthjcjjppjjpjfaaSp
import Derived.Test.YthjcjjppjjpjfaaAx
namespace Go.Proofs.Ythjcjjppjjpjfaa
open Go.ChangeShapes Go.WideShapes Go.ChangeAt Go.RowKit

/-- s[:k] -/
theorem run_head (t e : TypeId) (hu : Try.prog.underlying t = some (.slice e)) (he : (Try.prog.info? e).map (·.size) = some 1) (sp : Option Addr) (m cap k : Nat) (hk : k ≤ cap) (w : World) : (Instr.slice t (.slice sp m cap) none (some (.int .i64 (k : Int))) none).run Try.prog w = .ok (.slice sp k cap) w := by
  cases hq : Try.prog.info? e with
  | none => simp [hq] at he
  | some i =>
    have hi : i.size = 1 := by simpa [hq] using he
    have hadd : sp.map (fun x => x.add 0) = sp := by
      rcases sp with _ | ⟨b, o, s⟩
      · rfl
      · simp [Addr.add]
    simp only [Instr.slice, run_underlying hu, Instr.sliceBounds, Instr.sliceBound, asIntOf, sizeOf, typeInfo, Sem.run_bind, Result.andThen_ok, Sem.run_pure, Sem.run_ite]
    simp [hq, hi, hk, hadd]
theorem Pieces.first {w : World} {sp : Option Addr} {cap : Nat} {ls : List (List Int)} (h : Pieces w sp cap ls) (k : Nat) : Pieces w sp cap (ls.take k) := by
  obtain ⟨vs, h1, h2, h3⟩ := h.ex
  refine ⟨vs.take k, by simp [h1], h2.first k, fun i v hv => ?_⟩
  have hi : i < k := by
    have := (List.getElem?_eq_some_iff.1 hv).1
    simp at this
    omega
  have e : (ls.take k).getD i [] = ls.getD i [] := by simp [hi]
  rw [e]
  rw [List.getElem?_take_of_lt hi] at hv
  exact h3 i v hv
theorem Bytes.first {w : World} {sp : Option Addr} {cap : Nat} {l : List Int} (h : Bytes w sp cap l) (k : Nat) : Bytes w sp cap (l.take k) :=
  ⟨by have := h.sl.first k; rwa [← List.map_take] at this, rng_take h.rng k⟩
theorem join_cut (ls : List (List Int)) (k : Nat) : join (ls.take k) = (join ls).take (jl ls k) := by
  have h : join ls = join (ls.take k) ++ join (ls.drop k) := by rw [← join_append, List.take_append_drop]
  unfold jl
  rw [h, List.take_left']
  rfl
theorem small_take {ls : List (List Int)} (h : small ls) (k : Nat) : small (ls.take k) := fun x hx => h x (List.mem_of_mem_take hx)
theorem cut_none {ls ps : List (List Int)} {t : Nat} (hl : small ls) (hp : small ps) (h : join ps = (join ls).take t) (ht : t ≤ (join ls).length) : ∃ k, k ≤ ls.length ∧ jl ls k = t := by
  obtain ⟨qs, e, _⟩ := join_cancel ps ls ((join ls).drop t) hp hl (by rw [h, List.take_append_drop])
  refine ⟨ps.length, by rw [e]; simp, ?_⟩
  have : ls.take ps.length = ps := by rw [e]; simp
  unfold jl
  rw [this, h, List.length_take]
  exact Nat.min_eq_left ht
theorem size23 : (Try.prog.info? 23).map (·.size) = some 1 := by kernel_rfl
/-- how the loop stands -/
def CutRel (ls : List (List Int)) (N t : Nat) (e i : Value) : Prop := ∃ k : Nat, k ≤ N + 1 ∧ i = .int .i64 k ∧ e = .int .i64 (jl ls k) ∧ Hid (∀ j, j < k → jl ls j ≠ t)
theorem jl_end (ls : List (List Int)) : jl ls (ls.length + 1) = jl ls ls.length := by
  unfold jl
  rw [List.take_of_length_le (by omega), List.take_of_length_le (by omega)]
set_option maxRecDepth 100000 in
set_option maxHeartbeats 4000000 in
theorem cut_walk (w : World) (A : Option Addr) (N C : Nat) (n : Int) (ls : List (List Int)) (hN : ls.length = N) (hl : Pieces w A C ls) (hn1 : -9223372036854775808 ≤ n) (hn2 : n ≤ 9223372036854775807) :
    Calls Try.prog 7 #[.slice A N C, .int .i64 n] w fun e w' => e = .returned (.bool true) ∧ Below w.heap.size w w' := by
  have hNm : N ≤ 9223372036854775807 := by rw [← hN]; exact hl.len
  have HN := Lib.hid hN
  have HL := Lib.hid hl
  clear hN hl
  by_cases hf1 : Few ls
  · have hn20 : N ≤ 20 := by rw [← HN.out]; exact hf1.2
    have hj1 := few_len hf1
    have HF1 := Lib.hid (decide_eq_true hf1)
    have HSm : Hid (small ls) := Lib.hid (few_small hf1)
    clear hf1
    obtain ⟨J, hJ⟩ : ∃ J, (join ls).length = J := ⟨_, rfl⟩
    rw [hJ] at hj1
    have HJ := Lib.hid hJ
    clear hJ
    go_enter Try.func7, Try.ntmps7
    go_wp2_with fail
    refine (few_any w A N C ls HN.out HL.out).mono ?_
    rintro e w' ⟨rfl, rfl⟩
    rw [HF1.out]
    go_wp2_with fail
    refine (join_any w A C N ls HN.out HL.out (by rw [HJ.out]; omega)).mono ?_
    rintro e w1 ⟨s1, c1, rfl, hb1, hw1⟩
    rw [HJ.out]
    have HW1 := Lib.hid hw1
    have HB1 := Lib.hid hb1
    have hJc : J ≤ c1 := by have := hb1.le; rw [HJ.out] at this; exact this
    clear hb1 hw1
    by_cases hneg : n < 0
    · have hd : decide (n < 0) = true := by simp; omega
      go_wp2_with fail
      refine (awake_any w1).mono ?_
      rintro e w2 ⟨rfl, hb2⟩
      have HW2 := Lib.hid (HW1.out.trans (hb2.mono HW1.out.size))
      clear hb2
      go_wp2
      go_ret
      exact ⟨rfl, HW2.out⟩
    · obtain ⟨t, rfl⟩ := Int.eq_ofNat_of_zero_le (show 0 ≤ n by omega)
      have hd : decide ((t : Int) < 0) = false := by simp
      by_cases hbig : J < t
      · have hd2 : decide (J < t) = true := by simp; omega
        go_wp2_with fail
        refine (awake_any w1).mono ?_
        rintro e w2 ⟨rfl, hb2⟩
        have HW2 := Lib.hid (HW1.out.trans (hb2.mono HW1.out.size))
        clear hb2
        go_wp2
        go_ret
        exact ⟨rfl, HW2.out⟩
      · have hd2 : decide (J < t) = false := by simp; omega
        have hh := run_head 23 5 Try.underlying23 size5 s1 J c1 t (by omega)
        go_wp2_with fail
        clear hh
        have HT := Lib.hid (show ((join ls).take t).length = t by rw [List.length_take, HJ.out]; exact Nat.min_eq_left (by omega))
        refine (split_any w1 s1 t c1 ((join ls).take t) HT.out (HB1.out.first t) (by omega)).mono ?_
        rintro e w2 ⟨hb2, hs⟩
        have HW2 := Lib.hid (HW1.out.trans (hb2.mono HW1.out.size))
        clear hb2
        rcases hs with ⟨A2, c2, ps, rfl, hP2, hjp, hsp⟩ | ⟨rfl, hno⟩
        · skip
          have hfst : CutRel ls N t (.int .i64 0) (.int .i64 0) := ⟨0, by omega, rfl, rfl, Lib.hid (fun j hj => absurd hj (by omega))⟩
          have HP2 := Lib.hid hP2
          have HJp := Lib.hid hjp
          have HSp : Hid (small ps) := Lib.hid hsp
          have HL2 := Lib.hid (HL.out.below HW2.out)
          obtain ⟨q, hq⟩ : ∃ q, ps.length = q := ⟨_, rfl⟩
          rw [hq]
          have HQ := Lib.hid hq
          clear hP2 hjp hsp hq
          go_wp2
          go_loop [8, 9] (fun e i => CutRel ls N t e i) (fun _ i => N + 1 - (intOf i).toNat)
          case atStart => exact hfst
          case round =>
            clear hfst
            obtain ⟨k, hk, rfl, rfl, HAll⟩ := hrel
            have hjle := jl_le ls k
            rw [HJ.out] at hjle
            have HNx : Hid (k < N → jl ls (k + 1) = jl ls k + (4 + (ls.getD k []).length)) := Lib.hid (fun h => jl_succ ls k (by rw [HN.out]; exact h))
            have HNx2 : Hid (k < N → jl ls k + (4 + (ls.getD k []).length) ≤ J) := Lib.hid (fun h => by rw [← HNx.out h, ← HJ.out]; exact jl_le ls (k + 1))
            have HEnd : Hid (k = N → jl ls (k + 1) = jl ls k) := Lib.hid (fun h => by subst h; rw [← HN.out]; exact jl_end ls)
            have HCut := Lib.hid (join_cut ls k)
            obtain ⟨x, hx⟩ : ∃ x, jl ls k = x := ⟨_, rfl⟩
            rw [hx] at hjle HNx HNx2 HEnd HCut ⊢
            have HX := Lib.hid hx
            clear hx
            by_cases hkN : k ≤ N
            · have hdt : decide (k ≤ N) = true := by simp; omega
              by_cases he : x = t
              · have HE := Lib.hid he
                have heq : ((x : Int) == (t : Int)) = true := by rw [he]; simp
                clear he
                have hps : ps = ls.take k := join_inj HSp.out (small_take HSm.out k) (by rw [HJp.out, HCut.out, HE.out])
                have hkC : k ≤ C := by
                  obtain ⟨vs, h1, h2, _⟩ := HL.out.ex
                  have := h2.le
                  rw [h1, HN.out] at this
                  omega
                have HPs := Lib.hid hps
                clear hps
                have hh := run_head 22 23 Try.underlying22 size23 A N C k hkC
                go_wp2_with fail
                clear hh
                refine (pieces_any w2 A2 A q k c2 C ps (ls.take k) HQ.out (by rw [List.length_take, HN.out]; exact Nat.min_eq_left hkN) HP2.out (HL2.out.first k)).mono ?_
                rintro e w3 ht
                obtain ⟨rfl, hb3⟩ := ht.below
                rw [decide_eq_true HPs.out]
                have HW3 := Lib.hid (HW2.out.trans (hb3.mono HW2.out.size))
                clear ht hb3
                go_wp2_with fail
                refine (awake_any w3).mono ?_
                rintro e w4 ⟨rfl, hb4⟩
                have HW4 := Lib.hid (HW3.out.trans (hb4.mono HW3.out.size))
                clear hb4
                go_wp2
                go_ret
                exact ⟨rfl, HW4.out⟩
              · have HNe := Lib.hid he
                have heq : ((x : Int) == (t : Int)) = false := by rw [beq_eq_false_iff_ne]; omega
                have HAll2 : Hid (∀ j, j < k + 1 → jl ls j ≠ t) := Lib.hid (fun j hj => by
                  by_cases h : j < k
                  · exact HAll.out j h
                  · obtain rfl : j = k := by omega
                    rw [HX.out]
                    exact HNe.out)
                clear he
                by_cases hlt : k < N
                · have hdl : decide (k < N) = true := by simp; omega
                  obtain ⟨c, o, s2, cc, rfl, hcell, hbb⟩ := HL2.out.at_ k (by rw [HN.out]; exact hlt)
                  have hsu := HNx.out hlt
                  have hsb := HNx2.out hlt
                  have hbl := hbb.len
                  obtain ⟨m, hm⟩ : ∃ m, (ls.getD k []).length = m := ⟨_, rfl⟩
                  rw [hm] at hcell hsu hsb hbl
                  have HSu := Lib.hid hsu
                  clear hm hsu hbb
                  go_wp2
                  go_round
                  case rel => exact ⟨k + 1, by omega, by go_num, by rw [HSu.out]; go_num, HAll2⟩
                  case measure => simp [intOf]; omega
                · obtain rfl : k = N := by omega
                  have hdl : decide (k < k) = false := by simp
                  have HE := Lib.hid (HEnd.out rfl)
                  go_wp2
                  go_round
                  case rel => exact ⟨k + 1, by omega, by go_num, by rw [HE.out], HAll2⟩
                  case measure => simp [intOf]
            · exfalso
              obtain ⟨i, hi1, hi2⟩ := cut_none HSm.out HSp.out HJp.out (by rw [HJ.out]; omega)
              exact HAll.out i (by rw [HN.out] at hi1; omega) hi2
        · skip
          have hfst : CutRel ls N t (.int .i64 0) (.int .i64 0) := ⟨0, by omega, rfl, rfl, Lib.hid (fun j hj => absurd hj (by omega))⟩
          have HNo := Lib.hid hno
          have HL2 := Lib.hid (HL.out.below HW2.out)
          clear hno
          go_wp2
          go_loop [8, 9] (fun e i => CutRel ls N t e i) (fun _ i => N + 1 - (intOf i).toNat)
          case atStart => exact hfst
          case round =>
            clear hfst
            obtain ⟨k, hk, rfl, rfl, HAll⟩ := hrel
            have hjle := jl_le ls k
            rw [HJ.out] at hjle
            have HNx : Hid (k < N → jl ls (k + 1) = jl ls k + (4 + (ls.getD k []).length)) := Lib.hid (fun h => jl_succ ls k (by rw [HN.out]; exact h))
            have HNx2 : Hid (k < N → jl ls k + (4 + (ls.getD k []).length) ≤ J) := Lib.hid (fun h => by rw [← HNx.out h, ← HJ.out]; exact jl_le ls (k + 1))
            have HEnd : Hid (k = N → jl ls (k + 1) = jl ls k) := Lib.hid (fun h => by subst h; rw [← HN.out]; exact jl_end ls)
            have HCut := Lib.hid (join_cut ls k)
            obtain ⟨x, hx⟩ : ∃ x, jl ls k = x := ⟨_, rfl⟩
            rw [hx] at hjle HNx HNx2 HEnd HCut ⊢
            have HX := Lib.hid hx
            clear hx
            by_cases hkN : k ≤ N
            · have hdt : decide (k ≤ N) = true := by simp; omega
              by_cases he : x = t
              · exfalso
                exact HNo.out (ls.take k) (small_take HSm.out k) (by rw [HCut.out, he])
              · have HNe := Lib.hid he
                have heq : ((x : Int) == (t : Int)) = false := by rw [beq_eq_false_iff_ne]; omega
                have HAll2 : Hid (∀ j, j < k + 1 → jl ls j ≠ t) := Lib.hid (fun j hj => by
                  by_cases h : j < k
                  · exact HAll.out j h
                  · obtain rfl : j = k := by omega
                    rw [HX.out]
                    exact HNe.out)
                clear he
                by_cases hlt : k < N
                · have hdl : decide (k < N) = true := by simp; omega
                  obtain ⟨c, o, s2, cc, rfl, hcell, hbb⟩ := HL2.out.at_ k (by rw [HN.out]; exact hlt)
                  have hsu := HNx.out hlt
                  have hsb := HNx2.out hlt
                  have hbl := hbb.len
                  obtain ⟨m, hm⟩ : ∃ m, (ls.getD k []).length = m := ⟨_, rfl⟩
                  rw [hm] at hcell hsu hsb hbl
                  have HSu := Lib.hid hsu
                  clear hm hsu hbb
                  go_wp2
                  go_round
                  case rel => exact ⟨k + 1, by omega, by go_num, by rw [HSu.out]; go_num, HAll2⟩
                  case measure => simp [intOf]; omega
                · obtain rfl : k = N := by omega
                  have hdl : decide (k < k) = false := by simp
                  have HE := Lib.hid (HEnd.out rfl)
                  go_wp2
                  go_round
                  case rel => exact ⟨k + 1, by omega, by go_num, by rw [HE.out], HAll2⟩
                  case measure => simp [intOf]
            · have hdf : decide (k ≤ N) = false := by simp; omega
              go_wp2_with fail
              refine (awake_any w2).mono ?_
              rintro e w4 ⟨rfl, hb4⟩
              have HW4 := Lib.hid (HW2.out.trans (hb4.mono HW2.out.size))
              clear hb4
              go_wp2
              go_ret
              exact ⟨rfl, HW4.out⟩
  · have HF1 := Lib.hid (decide_eq_false hf1)
    clear hf1
    go_enter Try.func7, Try.ntmps7
    go_wp2_with fail
    refine (few_any w A N C ls HN.out HL.out).mono ?_
    rintro e w' ⟨rfl, rfl⟩
    rw [HF1.out]
    go_wp2_with fail
    refine (awake_any w).mono ?_
    rintro e w1 ⟨rfl, hb1⟩
    go_wp2
    go_ret
    exact ⟨rfl, hb1⟩
end Go.Proofs.Ythjcjjppjjpjfaa
