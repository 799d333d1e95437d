import Derived.Test.YtllaecliaojmjaaDoorDb
namespace Go.Proofs.YtllaecliaojmjaaDoor.Bp
set_option maxRecDepth 100000
open Go.ChangeShapes Go.WideShapes Go.ChangeAt Go.RowKit Go.Proofs.YtllaecliaojmjaaDoor.Tn

/-! ### merge, its walk -/
/-- nothing but the row's two blocks is turned -/
structure Fr (lo rb c : Nat) (w w' : World) : Prop where
  below : Below lo w w'
  others : ∀ k, k ≠ rb → k ≠ c → w'.heap[k]? = w.heap[k]?
theorem Fr.same {lo rb c : Nat} {w W W' : World} (h : Fr lo rb c w W) (hb : Below lo W W') (hh : W'.heap = W.heap) : Fr lo rb c w W' := ⟨h.below.trans hb, fun k h1 h2 => by rw [hh]; exact h.others k h1 h2⟩
theorem Fr.store {lo rb c k : Nat} {v : Value} {w W : World} (h : Fr lo rb c w W) (hc : lo ≤ c) : Fr lo rb c w (W.setCell ⟨c, k, none⟩ v) := ⟨below_store h.below hc, fun j h1 h2 => by rw [heap_setCell_other _ _ _ _ (by simpa using h2)]; exact h.others j h1 h2⟩
theorem Fr.cut {lo rb c : Nat} {v : Value} {w W : World} (h : Fr lo rb c w W) (hc : lo ≤ rb) : Fr lo rb c w (W.setCell ⟨rb, 0, none⟩ v) := ⟨below_store h.below hc, fun j h1 h2 => by rw [heap_setCell_other _ _ _ _ (by simpa using h1)]; exact h.others j h1 h2⟩
set_option maxHeartbeats 8000000 in
theorem merge_any (w : World) (lo rb c L cap : Nat) (K : List Int) (x y t : Int) (h : Mb rb c L cap K w) (h1 : lo ≤ rb) (h2 : lo ≤ c) (hc : cap ≤ 4096) :
    Calls Tryd.prog 25 #[.pointer (some ⟨rb, 0, none⟩), .int .i64 x, .int .i64 y, .int .i64 t] w fun e w' => e = .returned (.tuple #[]) ∧ Fr lo rb c w w' ∧ ∃ L' K', Mb rb c L' cap K' w' ∧ K'.take L' = merg (x, y) t (K.take L) ∧ L' = (merg (x, y) t (K.take L)).length := by
  have HM := Lib.hid h
  have Hrb := Lib.hid h1
  have Hc := Lib.hid h2
  have hLc : L ≤ 4096 := Nat.le_trans h.le hc
  have HCp := Lib.hid hc
  have HLK : Hid (L ≤ K.length) := Lib.hid (by rw [h.len]; exact h.le)
  clear h h1 h2 hc
  go_enter Tryd.func25, Tryd.ntmps25
  go_wp2
  go_step3
  go_wp2
  go_step3
  go_wp2
  go_loopw [8, 9] (fun wv rv wr => ∃ (n k : Nat) (K' : List Int), wv = .int .i64 n ∧ rv = .int .i64 k ∧ Mb rb c L cap K' wr ∧ Mi (x, y) t L K n k K' ∧ Fr lo rb c w wr) (fun _ rv _ => L - (intOf rv).toNat)
  case atStart => exact ⟨0, 0, K, rfl, rfl, HM.out, Mi.start, Below.refl _ _, fun _ _ _ => rfl⟩
  case round =>
    clear HM
    obtain ⟨n, k, K', rfl, rfl, hm, hi, hb⟩ := hrel
    have HM := Lib.hid hm
    have HI := Lib.hid hi
    have HB := Lib.hid hb
    have hnk : n ≤ k := hi.nk
    have hkL : k ≤ L := hi.kL
    have q0 := hm.c0
    obtain ⟨sp, hcut, hsp⟩ := run_cut1 c L cap k hkL hm.le wr
    clear hm hi hb
    by_cases hlt : k < L
    · obtain rfl := hsp hlt
      clear hsp
      obtain ⟨m, hr⟩ : ∃ m, L - k = m := ⟨_, rfl⟩
      obtain ⟨q, hq⟩ : ∃ q, cap - k = q := ⟨_, rfl⟩
      rw [hr, hq] at hcut
      have HR : Hid (L = k + m) := Lib.hid (by omega)
      have hm0 : 0 < m := by omega
      clear hr hq
      have hr0 : ((m : Int) == 0) = false := by simp; omega
      have hr2 : (m == 0) = false := by simp; omega
      have r1 : wr.cell? ⟨c, k, none⟩ = some (.int .i64 (K.getD k 0)) := by
        rw [← HI.out.back k (Nat.le_refl _)]
        exact HM.out.row.cell (by rw [HI.out.len]; have := HLK.out; omega)
      have q3 : wr.frozen? ⟨c, n, none⟩ = false := HM.out.row.free n
      obtain ⟨old, hold⟩ : ∃ old : Int, wr.cell? ⟨c, n, none⟩ = some (.int .i64 old) := ⟨_, HM.out.row.cell (by rw [HI.out.len]; have := HLK.out; omega)⟩
      have hnL : n < L := by omega
      obtain ⟨u, hu⟩ : ∃ u, K.getD k 0 = u := ⟨_, rfl⟩
      rw [hu] at r1
      have HU := Lib.hid hu
      clear hu
      have HLo : Hid (lo ≤ wr.heap.size) := Lib.hid (by have := (Array.getElem?_eq_some_iff.1 HM.out.row).1; have := Hc.out; omega)
      by_cases hr1 : m = 1
      · subst hr1
        go_upto_region 2 with fail
        go_still_tail 9, (by kernel_rfl)
        have hb1 : Below wr.heap.size wr { wr with drawn := wr.drawn + 1 } := ⟨rfl, rfl, rfl, Nat.le_refl _, fun _ _ => rfl⟩
        refine gen_w (Q := fun w => wpList _ _ _ _ _ w) _ (fun W => Mb rb c L cap K' W ∧ Fr lo rb c w W) ⟨HM.out.later hb1, HB.out.same (hb1.mono HLo.out) rfl⟩ ?_
        clear q0 q3 hold r1 hb1 hcut
        rintro w2 ⟨hm2, hb2⟩
        have HM2 := Lib.hid hm2
        have HB2 := Lib.hid hb2
        have q3 : w2.frozen? ⟨c, n, none⟩ = false := hm2.row.free n
        obtain ⟨old, hold⟩ : ∃ old : Int, w2.cell? ⟨c, n, none⟩ = some (.int .i64 old) := ⟨_, hm2.row.cell (by rw [HI.out.len]; have := HLK.out; omega)⟩
        clear hm2 hb2
        go_wp2
        go_roundw
        case rel => exact ⟨n + 1, k + 1, K'.set n u, by go_num, by go_num, HM2.out.store n u, by have h9 := HI.out.no HLK.out hlt (by have := HR.out; omega); rw [HU.out] at h9; exact h9, HB2.out.store Hc.out⟩
        case measure => simp [intOf]; omega
      · have d1 : decide ((1 : Int) < (m : Int)) = true := by simp; omega
        have d2 : decide (1 < m) = true := by simp; omega
        have hm1 : 1 < m := by omega
        clear hr1
        have r2 : wr.cell? ⟨c, k + 1, none⟩ = some (.int .i64 (K.getD (k + 1) 0)) := by
          rw [← HI.out.back (k + 1) (by omega)]
          exact HM.out.row.cell (by rw [HI.out.len]; have := HLK.out; have := HR.out; omega)
        obtain ⟨v, hv⟩ : ∃ v, K.getD (k + 1) 0 = v := ⟨_, rfl⟩
        rw [hv] at r2
        have HV := Lib.hid hv
        clear hv
        by_cases hux : u = x
        · subst hux
          have e1 := same_beq u
          by_cases hvy : v = y
          · subst hvy
            have e2 := same_beq v
            go_wp2
            go_roundw
            case rel => exact ⟨n + 1, k + 2, K'.set n t, by go_num, by go_num, HM.out.store n t, HI.out.yes HLK.out (by have := HR.out; omega) HU.out HV.out, HB.out.store Hc.out⟩
            case measure => simp [intOf]; omega
          · have e2 : (v == y) = false := by simpa using hvy
            have HNe := Lib.hid hvy
            clear hvy
            go_upto_region 2 with fail
            go_still_tail 9, (by kernel_rfl)
            have hb1 : Below wr.heap.size wr { wr with drawn := wr.drawn + 1 } := ⟨rfl, rfl, rfl, Nat.le_refl _, fun _ _ => rfl⟩
            refine gen_w (Q := fun w => wpList _ _ _ _ _ w) _ (fun W => Mb rb c L cap K' W ∧ Fr lo rb c w W) ⟨HM.out.later hb1, HB.out.same (hb1.mono HLo.out) rfl⟩ ?_
            clear q0 q3 hold r1 hb1 hcut
            rintro w2 ⟨hm2, hb2⟩
            have HM2 := Lib.hid hm2
            have HB2 := Lib.hid hb2
            have q3 : w2.frozen? ⟨c, n, none⟩ = false := hm2.row.free n
            obtain ⟨old, hold⟩ : ∃ old : Int, w2.cell? ⟨c, n, none⟩ = some (.int .i64 old) := ⟨_, hm2.row.cell (by rw [HI.out.len]; have := HLK.out; omega)⟩
            clear hm2 hb2
            go_wp2
            go_roundw
            case rel => exact ⟨n + 1, k + 1, K'.set n u, by go_num, by go_num, HM2.out.store n u, by have h9 := HI.out.no HLK.out hlt (by intro h9; exact HNe.out (by rw [← HV.out]; exact h9.2.2)); rw [HU.out] at h9; exact h9, HB2.out.store Hc.out⟩
            case measure => simp [intOf]; omega
        · have e1 : (u == x) = false := by simpa using hux
          have HNe := Lib.hid hux
          clear hux
          go_upto_region 2 with fail
          go_still_tail 9, (by kernel_rfl)
          have hb1 : Below wr.heap.size wr { wr with drawn := wr.drawn + 1 } := ⟨rfl, rfl, rfl, Nat.le_refl _, fun _ _ => rfl⟩
          refine gen_w (Q := fun w => wpList _ _ _ _ _ w) _ (fun W => Mb rb c L cap K' W ∧ Fr lo rb c w W) ⟨HM.out.later hb1, HB.out.same (hb1.mono HLo.out) rfl⟩ ?_
          clear q0 q3 hold r1 hb1 hcut
          rintro w2 ⟨hm2, hb2⟩
          have HM2 := Lib.hid hm2
          have HB2 := Lib.hid hb2
          have q3 : w2.frozen? ⟨c, n, none⟩ = false := hm2.row.free n
          obtain ⟨old, hold⟩ : ∃ old : Int, w2.cell? ⟨c, n, none⟩ = some (.int .i64 old) := ⟨_, hm2.row.cell (by rw [HI.out.len]; have := HLK.out; omega)⟩
          clear hm2 hb2
          go_wp2
          go_roundw
          case rel => exact ⟨n + 1, k + 1, K'.set n u, by go_num, by go_num, HM2.out.store n u, by have h9 := HI.out.no HLK.out hlt (by intro h9; exact HNe.out (by rw [← HU.out]; exact h9.2.1)); rw [HU.out] at h9; exact h9, HB2.out.store Hc.out⟩
          case measure => simp [intOf]; omega
    · obtain rfl : k = L := by omega
      obtain ⟨q, hq⟩ : ∃ q, cap - k = q := ⟨_, rfl⟩
      rw [Nat.sub_self, hq] at hcut
      clear hsp hq hlt
      have hhd := run_head1 (some ⟨c, 0, none⟩) k cap n (by have := HM.out.le; omega) wr
      have q3 : wr.frozen? ⟨rb, 0, none⟩ = false := frozen_of_row _ _ _ _ _ HM.out.box
      go_wp2
      rw [Exit.noGoto_normal]
      go_end0
      exact ⟨rfl, HB.out.cut Hrb.out, n, K', HM.out.cut hnk, HI.out.stop HLK.out, HI.out.count HLK.out⟩
end Go.Proofs.YtllaecliaojmjaaDoor.Bp
