import Derived.Test.YtllaecliaojmjaaBn
namespace Go.Proofs.Ytllaecliaojmjaa.Bp
set_option maxRecDepth 100000
open Go.ChangeShapes Go.WideShapes Go.ChangeAt Go.RowKit Go.Proofs.Ytllaecliaojmjaa.Tn

/-- what the block of two numbers is told of when a row of the call's own grows: the row lies elsewhere -/
theorem Pb.push {w W W' : World} {a b : Int} (h : Pb w a b W) (hb : Below (w.heap.size + 1) W W') : Pb w a b W' := ⟨h.below.trans (hb.mono (Nat.le_succ _)), (hb.block _ (by omega)).trans h.row⟩
theorem Pb.lt {w W : World} {a b : Int} (h : Pb w a b W) : w.heap.size + 1 ≤ W.heap.size := (Array.getElem?_eq_some_iff.1 h.row).1
set_option maxHeartbeats 4000000 in
theorem merged_any (w : World) (sp : Option Addr) (cap N : Nat) (l : List Int) (a b t : Int) (hN : l.length = N) (hl : Nums w sp cap l) (hs : N ≤ 10000) :
    Calls Try.prog 23 #[.slice sp N cap, .agg #[.int .i64 a, .int .i64 b], .int .i64 t] w (AnsN w (merg (a, b) t l)) := by
  have HN := Lib.hid hN
  have HP := Lib.hid (Pb.made w a b)
  have HLw := Lib.hid hl
  have HM0 : Hid (Mg w l (a, b) t 0 0 (.slice none 0 0) [] (w.alloc (.cells #[.int .i64 a, .int .i64 b] 55))) := Lib.hid ⟨HP.out.below, World.ownsRow_nil _ _ _ _, rfl, Nat.le_refl _, rfl⟩
  clear hN hl
  go_enter Try.func23, Try.ntmps23
  go_upto_region 1 with fail
  refine gen_w (Q := fun w => Code.wp _ _ _ _ w) _ (fun W => Pb w a b W ∧ Mg w l (a, b) t 0 0 (.slice none 0 0) [] W) ⟨HP.out, HM0.out⟩ ?_
  rintro w1 ⟨hp1, hm1⟩
  have HP1 := Lib.hid hp1
  have HM1 := Lib.hid hm1
  clear hp1 hm1 HP HM0
  go_wp2
  go_loopw [7, 8] (fun v i wr => ∃ (k n : Nat) (d : List Int), k ≤ N ∧ i = .int .i64 k ∧ Pb w a b wr ∧ Mg w l (a, b) t n k v d wr) (fun _ i _ => N - (intOf i).toNat)
  case atStart => exact ⟨0, 0, [], by omega, rfl, HP1.out, HM1.out⟩
  case round =>
    clear HM1 HP1
    obtain ⟨k, n, d, hk, rfl, hp, hm⟩ := hrel
    obtain ⟨sv, cv, rfl, _, _, _⟩ := Tn.Sl.all1 hm.own
    have HP := Lib.hid hp
    have HM := Lib.hid hm
    obtain ⟨q1, q2⟩ := hp.cells
    have hnk := hm.le
    have HL2 := Lib.hid (HLw.out.below hm.below)
    clear hp hm
    by_cases hlt : k < N
    · have hdt : decide (k < N) = true := by simpa using hlt
      obtain ⟨c, o, e, h9⟩ := HL2.out.at_ k (by rw [HN.out]; omega)
      clear h9
      subst e
      have c1 := Nums.cell HL2.out k (by rw [HN.out]; omega)
      have HX : Hid (l.getD k 0 = l.getD k 0) := Lib.hid rfl
      by_cases hk1 : k + 1 < N
      · have hdt1 : decide (k + 1 < N) = true := by simpa using hk1
        have hdt2 : decide ((k : Int) + 1 < (N : Int)) = true := by simp; omega
        have c2 := Nums.cell HL2.out (k + 1) (by rw [HN.out]; exact hk1)
        obtain ⟨x, hx⟩ : ∃ x, l.getD k 0 = x := ⟨_, rfl⟩
        obtain ⟨y, hy⟩ : ∃ y, l.getD (k + 1) 0 = y := ⟨_, rfl⟩
        rw [hx] at c1
        rw [hy] at c2
        have HXx := Lib.hid hx
        have HYy := Lib.hid hy
        clear hx hy HX
        by_cases hxa : x = a
        · by_cases hyb : y = b
          · subst hxa hyb
            have e1 := same_beq x
            have e2 := same_beq y
            go_wp2
            go_quiet (fail)
            have HM2 : Hid (Mg w l (x, y) t n k (.slice sv n cv) d (wr.drewN nq)) := Lib.hid ⟨below_drewN HM.out.below _, owns_drewN HM.out.own _, HM.out.len, HM.out.le, HM.out.rest⟩
            have HP2 : Hid (Pb w x y (wr.drewN nq)) := Lib.hid (HP.out.later (below_drewN (Below.refl wr.heap.size wr) _))
            generalize wr.drewN nq = w2 at HM2 HP2 ⊢
            clear q1 q2 c1 c2
            go_wp2_with (refine Tn.wpList_push rfl (.tmp 37) (.tmp 39) rfl (w.heap.size + 1) _ n d t rfl HM2.out.own rfl (by omega) HP2.out.lt ?_; intro v2 w3 hown hb3; have HO3 := Lib.hid hown; have HB3 := Lib.hid hb3; clear hown hb3)
            go_roundw
            case rel => exact ⟨k + 2, n + 1, d ++ [t], by omega, by go_num, HP2.out.push HB3.out, HM2.out.yes (by rw [HN.out]; exact hk1) HXx.out HYy.out HO3.out HB3.out⟩
            case measure => simp [intOf]; omega
          · subst hxa
            have e1 := same_beq x
            have e2 : (y == b) = false := by simpa using hyb

            have HNo : Hid (¬ (k + 1 < l.length ∧ l.getD k 0 = (x, b).1 ∧ l.getD (k + 1) 0 = (x, b).2)) := Lib.hid (by rintro ⟨_, _, h⟩; rw [HYy.out] at h; exact hyb h)
            go_wp2
            go_quiet (fail)
            have HM2 : Hid (Mg w l (x, b) t n k (.slice sv n cv) d (wr.drewN nq)) := Lib.hid ⟨below_drewN HM.out.below _, owns_drewN HM.out.own _, HM.out.len, HM.out.le, HM.out.rest⟩
            have HP2 : Hid (Pb w x b (wr.drewN nq)) := Lib.hid (HP.out.later (below_drewN (Below.refl wr.heap.size wr) _))
            have HL3 := Lib.hid (HL2.out.below (below_drewN (Below.refl wr.heap.size wr) nq))
            have c3 := Nums.cell HL3.out k (by rw [HN.out]; omega)
            rw [HXx.out] at c3
            generalize wr.drewN nq = w2 at HM2 HP2 HL3 c3 ⊢
            clear q1 q2 c1
            go_wp2_with (refine Tn.wpList_push rfl (.tmp 43) (.tmp 48) rfl (w.heap.size + 1) _ n d x rfl HM2.out.own rfl (by omega) HP2.out.lt ?_; intro v2 w3 hown hb3; have HO3 := Lib.hid hown; have HB3 := Lib.hid hb3; clear hown hb3)
            go_roundw
            case rel => exact ⟨k + 1, n + 1, d ++ [x], by omega, by go_num, HP2.out.push HB3.out, by have h9 := HM2.out.no (by rw [HN.out]; exact hlt) HNo.out (by rw [HXx.out]; exact HO3.out) HB3.out; rwa [HXx.out] at h9⟩
            case measure => simp [intOf]; omega
        · have e1 : (x == a) = false := by simpa using hxa

          have HNo : Hid (¬ (k + 1 < l.length ∧ l.getD k 0 = (a, b).1 ∧ l.getD (k + 1) 0 = (a, b).2)) := Lib.hid (by rintro ⟨_, h, _⟩; rw [HXx.out] at h; exact hxa h)
          go_wp2
          go_quiet (fail)
          have HM2 : Hid (Mg w l (a, b) t n k (.slice sv n cv) d (wr.drewN nq)) := Lib.hid ⟨below_drewN HM.out.below _, owns_drewN HM.out.own _, HM.out.len, HM.out.le, HM.out.rest⟩
          have HP2 : Hid (Pb w a b (wr.drewN nq)) := Lib.hid (HP.out.later (below_drewN (Below.refl wr.heap.size wr) _))
          have HL3 := Lib.hid (HL2.out.below (below_drewN (Below.refl wr.heap.size wr) nq))
          have c3 := Nums.cell HL3.out k (by rw [HN.out]; omega)
          rw [HXx.out] at c3
          generalize wr.drewN nq = w2 at HM2 HP2 HL3 c3 ⊢
          clear q1 q2 c1
          go_wp2_with (refine Tn.wpList_push rfl (.tmp 43) (.tmp 48) rfl (w.heap.size + 1) _ n d x rfl HM2.out.own rfl (by omega) HP2.out.lt ?_; intro v2 w3 hown hb3; have HO3 := Lib.hid hown; have HB3 := Lib.hid hb3; clear hown hb3)
          go_roundw
          case rel => exact ⟨k + 1, n + 1, d ++ [x], by omega, by go_num, HP2.out.push HB3.out, by have h9 := HM2.out.no (by rw [HN.out]; exact hlt) HNo.out (by rw [HXx.out]; exact HO3.out) HB3.out; rwa [HXx.out] at h9⟩
          case measure => simp [intOf]; omega
      · have hdf1 : decide (k + 1 < N) = false := by simpa using hk1
        have hdf2 : decide ((k : Int) + 1 < (N : Int)) = false := by simp; omega
        obtain ⟨x, hx⟩ : ∃ x, l.getD k 0 = x := ⟨_, rfl⟩
        rw [hx] at c1
        have HXx := Lib.hid hx
        clear hx HX

        have HNo : Hid (¬ (k + 1 < l.length ∧ l.getD k 0 = (a, b).1 ∧ l.getD (k + 1) 0 = (a, b).2)) := Lib.hid (by rintro ⟨h, _⟩; rw [HN.out] at h; exact hk1 h)
        go_wp2
        go_quiet (fail)
        have HM2 : Hid (Mg w l (a, b) t n k (.slice sv n cv) d (wr.drewN nq)) := Lib.hid ⟨below_drewN HM.out.below _, owns_drewN HM.out.own _, HM.out.len, HM.out.le, HM.out.rest⟩
        have HP2 : Hid (Pb w a b (wr.drewN nq)) := Lib.hid (HP.out.later (below_drewN (Below.refl wr.heap.size wr) _))
        have HL3 := Lib.hid (HL2.out.below (below_drewN (Below.refl wr.heap.size wr) nq))
        have c3 := Nums.cell HL3.out k (by rw [HN.out]; omega)
        rw [HXx.out] at c3
        generalize wr.drewN nq = w2 at HM2 HP2 HL3 c3 ⊢
        clear q1 q2 c1
        go_wp2_with (refine Tn.wpList_push rfl (.tmp 43) (.tmp 48) rfl (w.heap.size + 1) _ n d x rfl HM2.out.own rfl (by omega) HP2.out.lt ?_; intro v2 w3 hown hb3; have HO3 := Lib.hid hown; have HB3 := Lib.hid hb3; clear hown hb3)
        go_roundw
        case rel => exact ⟨k + 1, n + 1, d ++ [x], by omega, by go_num, HP2.out.push HB3.out, by have h9 := HM2.out.no (by rw [HN.out]; exact hlt) HNo.out (by rw [HXx.out]; exact HO3.out) HB3.out; rwa [HXx.out] at h9⟩
        case measure => simp [intOf]; omega
    · obtain rfl : k = N := by omega
      have hdf : decide (k < k) = false := by simp
      have hrest := HM.out.rest
      rw [List.drop_of_length_le (by rw [HN.out]; exact Nat.le_refl _)] at hrest
      have hd : d = merg (a, b) t l := by rw [← hrest]; simp [merg]
      obtain ⟨so, co, e2, hln, hno⟩ := Tn.own_nums HM.out.own
      cases e2
      rw [hd] at hno hln
      have HNo := Lib.hid hno
      have HLn := Lib.hid hln
      clear hrest hd hno hln hlt hk
      go_wp2
      go_ret
      exact ⟨sv, cv, by rw [HLn.out]; rfl, HNo.out, HM.out.below⟩
end Go.Proofs.Ytllaecliaojmjaa.Bp
