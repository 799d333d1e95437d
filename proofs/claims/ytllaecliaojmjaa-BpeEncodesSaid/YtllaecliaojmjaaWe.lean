import Derived.Test.YtllaecliaojmjaaWt
import Derived.Test.YtllaecliaojmjaaBf
namespace Go.Proofs.Ytllaecliaojmjaa.Bp
set_option maxRecDepth 100000
open Go.ChangeShapes Go.WideShapes Go.ChangeAt Go.RowKit Go.Proofs.Ytllaecliaojmjaa.Tn

/-! ### the walk of BpeEncodes -/
set_option maxHeartbeats 8000000 in
theorem encodes_walk (w : World) (s1 s2 : Option Addr) (n P c1 cq : Nat) (al : List Int) (ps : List (Int × Int)) (bp : Option Addr) (cb N : Nat) (b : List Int) (ha : Byts w s1 c1 al) (hn : al.length = n) (hps : Prs w s2 cq ps) (hP : ps.length = P) (hb : Byts w bp cb b) (hN : b.length = N) :
    Calls Try.prog 4 #[.agg #[.slice s1 n c1, .slice s2 P cq], .slice bp N cb] w fun e w' => e = .returned (.bool true) ∧ Below w.heap.size w w' := by
  have HA := Lib.hid ha
  have HPs := Lib.hid hps
  have HBy := Lib.hid hb
  have Hn := Lib.hid hn
  have HP := Lib.hid hP
  have HN := Lib.hid hN
  have hnm : n ≤ maxLen := by have h1 := ha.sl.le; have h2 := ha.sl.max; rw [List.length_map] at h1; omega
  have hPm : P ≤ maxLen := by have h1 := hps.le; have h2 := hps.max; omega
  have hNm : N ≤ 9223372036854775807 := by rw [← hN]; have := Tn.Sl.len hb.sl; simpa using this
  have Hnm := Lib.hid hnm
  have HPm := Lib.hid hPm
  have HX0 := Lib.hid (Bx.made (s1 := s1) (n := n) (c1 := c1) (s2 := s2) (P := P) (cq := cq) w)
  clear ha hps hn hP hnm hPm hb hN
  go_enter Try.func4, Try.ntmps4
  go_upto_region 1 with fail
  refine gen_w (Q := fun w => Code.wp _ _ _ _ w) _ (Bx w.heap.size s1 n c1 s2 P cq w) HX0.out ?_
  clear HX0
  intro w1 hx1
  have HX1 := Lib.hid hx1
  obtain ⟨q0, q1⟩ := hx1.cells
  clear hx1
  go_wp2_with fail
  refine (few_any w1 s1 s2 n P c1 cq Hnm.out HPm.out).mono ?_
  rintro e w2 ⟨rfl, hb2⟩
  have HX2 := Lib.hid (HX1.out.later hb2)
  clear hb2 q0 q1 HX1
  by_cases hfew : (n ≤ 600 ∧ P ≤ 60) ∧ ¬ (60 < N ∧ N ≤ 4096) ∧ N ≤ 5000
  · have hf : (decide (n ≤ 600) && decide (P ≤ 60)) = true := by simp [hfew.1.1, hfew.1.2]
    rw [hf]
    have HFew := Lib.hid hfew
    obtain ⟨q0, q1⟩ := HX2.out.cells
    have hab := HX2.out.below
    have HA2 := Lib.hid (HA.out.below hab)
    have HPs2 := Lib.hid (HPs.out.below hab)
    have d5 : decide (5000 < N) = false := by have := hfew.2.2; simp; omega
    have d6 : decide ((5000 : Int) < (N : Int)) = false := by have := hfew.2.2; simp; omega
    have hcase : (decide (60 < N) = false ∧ decide ((60 : Int) < (N : Int)) = false) ∨ (decide (60 < N) = true ∧ decide ((60 : Int) < (N : Int)) = true ∧ decide (N ≤ 4096) = false ∧ decide ((N : Int) ≤ 4096) = false) := by
      by_cases h : 60 < N
      · right
        have h2 : ¬ N ≤ 4096 := fun h3 => hfew.2.1 ⟨h, h3⟩
        refine ⟨by simpa using h, by simp; omega, by simpa using h2, by simp; omega⟩
      · left
        exact ⟨by simpa using h, by simp; omega⟩
    clear hf hfew hab
    have HNs : Hid (N ≤ 5000) := Lib.hid HFew.out.2.2
    rcases hcase with ⟨k1, k2⟩ | ⟨k1, k2, k3, k4⟩
    · have HNo := Lib.hid k1
      go_wp2_with fail
      refine (new_any w2 s1 s2 c1 cq n P al ps HA2.out Hn.out HPs2.out HP.out (by have := HFew.out; omega) (by have := HFew.out; omega)).mono ?_
      rintro e w3 ⟨hb3, ⟨hE, rfl⟩ | ⟨hE, g, rfl, hg, hc⟩⟩
      · have HX3 := Lib.hid (HX2.out.later hb3)
        have HE := Lib.hid hE
        have HA3 := Lib.hid (HA.out.below HX3.out.below)
        have HPs3 := Lib.hid (HPs.out.below HX3.out.below)
        obtain ⟨r0, r1⟩ := HX3.out.cells
        clear hb3 q0 q1 hE
        go_wp2_with fail
        refine (plain_any w3 s1 s2 n P c1 cq al ps HA3.out Hn.out HPs3.out HP.out (by have := HFew.out; omega) (by have := HFew.out; omega)).mono ?_
        rintro e w4 ⟨cv, rfl, hb4, ⟨_, rfl⟩ | ⟨h0, _⟩⟩
        · have HX4 := Lib.hid (HX3.out.later hb4)
          obtain ⟨E, hE⟩ : ∃ E, (newD al ps).1 = E := ⟨_, rfl⟩
          rw [hE] at HE ⊢
          have hE0 : (E == 0) = false := by have := HE.out; simpa using this
          have hEE := same_beq E
          have hba : Below w4.heap.size w4 (w4.alloc (.cells #[.slice none 0 0, .slice none 0 0, .int .i64 0] 35)) := (Below.refl _ _).alloc (Nat.le_refl _) _
          have HX5 := Lib.hid (HX4.out.later hba)
          unfold noC
          clear hb4 hE hba r0 r1
          go_wp2_with fail
          refine (awake_any _).mono ?_
          rintro e w6 ⟨rfl, hb6⟩
          have HX6 := Lib.hid (HX5.out.later hb6)
          clear hb6
          go_wp2
          go_ret
          exact ⟨rfl, HX6.out.below⟩
        · exact absurd h0 HE.out
      · have HX3 := Lib.hid (HX2.out.later hb3)
        have HA3 := Lib.hid (HA.out.below HX3.out.below)
        have HPs3 := Lib.hid (HPs.out.below HX3.out.below)
        have HE := Lib.hid hE
        obtain ⟨hy1, hy2, hy3, hy4, V, hy5⟩ := newD_yes hE
        have hG := good_newD ps (fun x hx => HA.out.rng x hx)
        obtain ⟨T, hT⟩ : ∃ T, (newD al ps).2 = T := ⟨_, rfl⟩
        rw [hT] at hy4 hc hG hy5
        have HT := Lib.hid hT
        have HTx := Lib.hid hy4
        have HC3 := Lib.hid hc
        have HNd := Lib.hid hy3
        have HV := Lib.hid hy5
        have HMl : Hid (T.length = n + P) := Lib.hid (by rw [hy4.len, Hn.out, HP.out])
        have HnP : Hid (n + P ≤ 512) := Lib.hid (by rw [← Hn.out, ← HP.out]; exact hy2)
        obtain ⟨r0, r1⟩ := HX3.out.cells
        clear hb3 q0 q1 hE hg hc hy1 hy2 hy3 hy4 hy5 hG hT
        go_wp2_with fail
        refine (plain_any w3 s1 s2 n P c1 cq al ps HA3.out Hn.out HPs3.out HP.out (by have := HFew.out; omega) (by have := HFew.out; omega)).mono ?_
        rintro e w4 ⟨cv, rfl, hb4, ⟨h0, _⟩ | ⟨_, st, ct, sq, cq2, rfl, hst, hpr⟩⟩
        · exact absurd HE.out h0
        · have HX4 := Lib.hid (HX3.out.later hb4)
          have HC4 := Lib.hid (HC3.out.later hb4)
          rw [HE.out]
          rw [HT.out] at hst ⊢
          rw [Hn.out, HP.out]
          have hba : Below w4.heap.size w4 (w4.alloc (.cells #[.slice st T.length ct, .slice sq P cq2, .int .i64 (n : Int)] 35)) := (Below.refl _ _).alloc (Nat.le_refl _) _
          have HW5 : Hid (Bx w.heap.size s1 n c1 s2 P cq w (w4.alloc (.cells #[.slice st T.length ct, .slice sq P cq2, .int .i64 (n : Int)] 35)) ∧ Cd g al ps T (w4.alloc (.cells #[.slice st T.length ct, .slice sq P cq2, .int .i64 (n : Int)] 35)) ∧ Strs (w4.alloc (.cells #[.slice st T.length ct, .slice sq P cq2, .int .i64 (n : Int)] 35)) st ct T ∧ Prs (w4.alloc (.cells #[.slice st T.length ct, .slice sq P cq2, .int .i64 (n : Int)] 35)) sq cq2 ps ∧ (w4.alloc (.cells #[.slice st T.length ct, .slice sq P cq2, .int .i64 (n : Int)] 35)).heap[w4.heap.size]? = some (.cells #[.slice st T.length ct, .slice sq P cq2, .int .i64 (n : Int)] 35 (0, 0))) := Lib.hid ⟨HX4.out.later hba, HC4.out.later hba, hst.below hba, hpr.below hba, heap_alloc_new _ _⟩
          clear hb4 hst hpr r0 r1 hba
          go_upto_region 5 with fail
          refine gen_w (Q := fun w => Code.wp _ _ _ _ w) _ (fun W => Bx w.heap.size s1 n c1 s2 P cq w W ∧ Cd g al ps T W ∧ Strs W st ct T ∧ Prs W sq cq2 ps ∧ W.heap[w4.heap.size]? = some (.cells #[.slice st T.length ct, .slice sq P cq2, .int .i64 (n : Int)] 35 (0, 0))) HW5.out ?_
          obtain ⟨R, hR⟩ : ∃ R, w4.heap.size = R := ⟨_, rfl⟩
          rw [hR]
          clear hR HX4 HC4 HW5
          rintro w5 ⟨hx5, hc5, hs5, hp5, hr5⟩
          have HX5 := Lib.hid hx5
          have HC5 := Lib.hid hc5
          have HS5 := Lib.hid hs5
          have HP5 := Lib.hid hp5
          have HR5 := Lib.hid hr5
          have HB5 := Lib.hid (HBy.out.below hx5.below)
          clear hx5 hc5 hs5 hp5 hr5
          go_wp2_with fail
          refine (encode_any w5 g bp cb N n P al ps T b HC5.out HTx.out HB5.out HN.out Hn.out HP.out HnP.out).mono ?_
          obtain ⟨⟨r, at_, er⟩, hr⟩ : ∃ r, encD al ps b = r := ⟨_, rfl⟩
          rw [hr]
          have HR := Lib.hid hr
          rintro e w6 ⟨sp6, cap6, rfl, hn6, hb6⟩
          dsimp only at hn6 ⊢
          have HX6 := Lib.hid (HX5.out.later hb6)
          have HS6 := Lib.hid (HS5.out.below hb6)
          have HP6 := Lib.hid (HP5.out.below hb6)
          have HB6 := Lib.hid (HB5.out.below hb6)
          have HN6 := Lib.hid hn6
          have hr6 := (hb6.block _ (Array.getElem?_eq_some_iff.1 HR5.out).1).trans HR5.out
          clear hr hn6 hb6
          go_wp2_with (refine wpList_load_row rfl 35 (.tmp 7) rfl R rfl 35 #[.slice st T.length ct, .slice sq P cq2, .int .i64 (n : Int)] (0, 0) _ hr6 Try.underlying35 rfl (size_coder3 _ _ _) ?_)
          refine (refEncode_any w6 st sq bp ct cq2 cb n T.length P N al b V ps (by rw [← HV.out]; exact HS6.out) (by rw [← HV.out]) HP.out HP6.out HB6.out HN.out Hn.out HNd.out HA.out.rng HnP.out).mono ?_
          rw [HR.out]
          rintro e w7 ⟨sp7, cap7, rfl, hn7, hb7⟩
          dsimp only at hn7 ⊢
          have HX7 := Lib.hid (HX6.out.later hb7)
          have HN67 := Lib.hid (Tn.Nums.below HN6.out hb7)
          have HN7 := Lib.hid hn7
          obtain ⟨Nr, hNr⟩ : ∃ Nr, r.length = Nr := ⟨_, rfl⟩
          rw [hNr]
          have HNr := Lib.hid hNr
          have e1 := same_beq (at_ : Int)
          have e2 : (at_ == at_) = true := by simp
          have e3 := same_beq er
          clear hn7 hb7 hNr hr6
          go_wp2_with fail
          refine (ints_same w7 sp6 sp7 cap6 cap7 Nr r HNr.out HN67.out HN7.out).mono ?_
          rintro e w8 ⟨rfl, hb8⟩
          have HX8 := Lib.hid (HX7.out.later hb8)
          clear hb8
          go_wp2_with fail
          refine (awake_any _).mono ?_
          rintro e w9 ⟨rfl, hb9⟩
          have HX9 := Lib.hid (HX8.out.later hb9)
          clear hb9
          go_wp2
          go_ret
          exact ⟨rfl, HX9.out.below⟩
    · have HNo := Lib.hid k1
      go_wp2_with fail
      refine (new_any w2 s1 s2 c1 cq n P al ps HA2.out Hn.out HPs2.out HP.out (by have := HFew.out; omega) (by have := HFew.out; omega)).mono ?_
      rintro e w3 ⟨hb3, ⟨hE, rfl⟩ | ⟨hE, g, rfl, hg, hc⟩⟩
      · have HX3 := Lib.hid (HX2.out.later hb3)
        have HE := Lib.hid hE
        have HA3 := Lib.hid (HA.out.below HX3.out.below)
        have HPs3 := Lib.hid (HPs.out.below HX3.out.below)
        obtain ⟨r0, r1⟩ := HX3.out.cells
        clear hb3 q0 q1 hE
        go_wp2_with fail
        refine (plain_any w3 s1 s2 n P c1 cq al ps HA3.out Hn.out HPs3.out HP.out (by have := HFew.out; omega) (by have := HFew.out; omega)).mono ?_
        rintro e w4 ⟨cv, rfl, hb4, ⟨_, rfl⟩ | ⟨h0, _⟩⟩
        · have HX4 := Lib.hid (HX3.out.later hb4)
          obtain ⟨E, hE⟩ : ∃ E, (newD al ps).1 = E := ⟨_, rfl⟩
          rw [hE] at HE ⊢
          have hE0 : (E == 0) = false := by have := HE.out; simpa using this
          have hEE := same_beq E
          have hba : Below w4.heap.size w4 (w4.alloc (.cells #[.slice none 0 0, .slice none 0 0, .int .i64 0] 35)) := (Below.refl _ _).alloc (Nat.le_refl _) _
          have HX5 := Lib.hid (HX4.out.later hba)
          unfold noC
          clear hb4 hE hba r0 r1
          go_wp2_with fail
          refine (awake_any _).mono ?_
          rintro e w6 ⟨rfl, hb6⟩
          have HX6 := Lib.hid (HX5.out.later hb6)
          clear hb6
          go_wp2
          go_ret
          exact ⟨rfl, HX6.out.below⟩
        · exact absurd h0 HE.out
      · have HX3 := Lib.hid (HX2.out.later hb3)
        have HA3 := Lib.hid (HA.out.below HX3.out.below)
        have HPs3 := Lib.hid (HPs.out.below HX3.out.below)
        have HE := Lib.hid hE
        obtain ⟨hy1, hy2, hy3, hy4, V, hy5⟩ := newD_yes hE
        have hG := good_newD ps (fun x hx => HA.out.rng x hx)
        obtain ⟨T, hT⟩ : ∃ T, (newD al ps).2 = T := ⟨_, rfl⟩
        rw [hT] at hy4 hc hG hy5
        have HT := Lib.hid hT
        have HTx := Lib.hid hy4
        have HC3 := Lib.hid hc
        have HNd := Lib.hid hy3
        have HV := Lib.hid hy5
        have HMl : Hid (T.length = n + P) := Lib.hid (by rw [hy4.len, Hn.out, HP.out])
        have HnP : Hid (n + P ≤ 512) := Lib.hid (by rw [← Hn.out, ← HP.out]; exact hy2)
        obtain ⟨r0, r1⟩ := HX3.out.cells
        clear hb3 q0 q1 hE hg hc hy1 hy2 hy3 hy4 hy5 hG hT
        go_wp2_with fail
        refine (plain_any w3 s1 s2 n P c1 cq al ps HA3.out Hn.out HPs3.out HP.out (by have := HFew.out; omega) (by have := HFew.out; omega)).mono ?_
        rintro e w4 ⟨cv, rfl, hb4, ⟨h0, _⟩ | ⟨_, st, ct, sq, cq2, rfl, hst, hpr⟩⟩
        · exact absurd HE.out h0
        · have HX4 := Lib.hid (HX3.out.later hb4)
          have HC4 := Lib.hid (HC3.out.later hb4)
          rw [HE.out]
          rw [HT.out] at hst ⊢
          rw [Hn.out, HP.out]
          have hba : Below w4.heap.size w4 (w4.alloc (.cells #[.slice st T.length ct, .slice sq P cq2, .int .i64 (n : Int)] 35)) := (Below.refl _ _).alloc (Nat.le_refl _) _
          have HW5 : Hid (Bx w.heap.size s1 n c1 s2 P cq w (w4.alloc (.cells #[.slice st T.length ct, .slice sq P cq2, .int .i64 (n : Int)] 35)) ∧ Cd g al ps T (w4.alloc (.cells #[.slice st T.length ct, .slice sq P cq2, .int .i64 (n : Int)] 35)) ∧ Strs (w4.alloc (.cells #[.slice st T.length ct, .slice sq P cq2, .int .i64 (n : Int)] 35)) st ct T ∧ Prs (w4.alloc (.cells #[.slice st T.length ct, .slice sq P cq2, .int .i64 (n : Int)] 35)) sq cq2 ps ∧ (w4.alloc (.cells #[.slice st T.length ct, .slice sq P cq2, .int .i64 (n : Int)] 35)).heap[w4.heap.size]? = some (.cells #[.slice st T.length ct, .slice sq P cq2, .int .i64 (n : Int)] 35 (0, 0))) := Lib.hid ⟨HX4.out.later hba, HC4.out.later hba, hst.below hba, hpr.below hba, heap_alloc_new _ _⟩
          clear hb4 hst hpr r0 r1 hba
          go_upto_region 5 with fail
          refine gen_w (Q := fun w => Code.wp _ _ _ _ w) _ (fun W => Bx w.heap.size s1 n c1 s2 P cq w W ∧ Cd g al ps T W ∧ Strs W st ct T ∧ Prs W sq cq2 ps ∧ W.heap[w4.heap.size]? = some (.cells #[.slice st T.length ct, .slice sq P cq2, .int .i64 (n : Int)] 35 (0, 0))) HW5.out ?_
          obtain ⟨R, hR⟩ : ∃ R, w4.heap.size = R := ⟨_, rfl⟩
          rw [hR]
          clear hR HX4 HC4 HW5
          rintro w5 ⟨hx5, hc5, hs5, hp5, hr5⟩
          have HX5 := Lib.hid hx5
          have HC5 := Lib.hid hc5
          have HS5 := Lib.hid hs5
          have HP5 := Lib.hid hp5
          have HR5 := Lib.hid hr5
          have HB5 := Lib.hid (HBy.out.below hx5.below)
          clear hx5 hc5 hs5 hp5 hr5
          go_wp2_with fail
          refine (encode_any w5 g bp cb N n P al ps T b HC5.out HTx.out HB5.out HN.out Hn.out HP.out HnP.out).mono ?_
          obtain ⟨⟨r, at_, er⟩, hr⟩ : ∃ r, encD al ps b = r := ⟨_, rfl⟩
          rw [hr]
          have HR := Lib.hid hr
          rintro e w6 ⟨sp6, cap6, rfl, hn6, hb6⟩
          dsimp only at hn6 ⊢
          have HX6 := Lib.hid (HX5.out.later hb6)
          have HS6 := Lib.hid (HS5.out.below hb6)
          have HP6 := Lib.hid (HP5.out.below hb6)
          have HB6 := Lib.hid (HB5.out.below hb6)
          have HN6 := Lib.hid hn6
          have hr6 := (hb6.block _ (Array.getElem?_eq_some_iff.1 HR5.out).1).trans HR5.out
          clear hr hn6 hb6
          go_wp2_with (refine wpList_load_row rfl 35 (.tmp 7) rfl R rfl 35 #[.slice st T.length ct, .slice sq P cq2, .int .i64 (n : Int)] (0, 0) _ hr6 Try.underlying35 rfl (size_coder3 _ _ _) ?_)
          refine (refEncode_any w6 st sq bp ct cq2 cb n T.length P N al b V ps (by rw [← HV.out]; exact HS6.out) (by rw [← HV.out]) HP.out HP6.out HB6.out HN.out Hn.out HNd.out HA.out.rng HnP.out).mono ?_
          rw [HR.out]
          rintro e w7 ⟨sp7, cap7, rfl, hn7, hb7⟩
          dsimp only at hn7 ⊢
          have HX7 := Lib.hid (HX6.out.later hb7)
          have HN67 := Lib.hid (Tn.Nums.below HN6.out hb7)
          have HN7 := Lib.hid hn7
          obtain ⟨Nr, hNr⟩ : ∃ Nr, r.length = Nr := ⟨_, rfl⟩
          rw [hNr]
          have HNr := Lib.hid hNr
          have e1 := same_beq (at_ : Int)
          have e2 : (at_ == at_) = true := by simp
          have e3 := same_beq er
          clear hn7 hb7 hNr hr6
          go_wp2_with fail
          refine (ints_same w7 sp6 sp7 cap6 cap7 Nr r HNr.out HN67.out HN7.out).mono ?_
          rintro e w8 ⟨rfl, hb8⟩
          have HX8 := Lib.hid (HX7.out.later hb8)
          clear hb8
          go_wp2_with fail
          refine (awake_any _).mono ?_
          rintro e w9 ⟨rfl, hb9⟩
          have HX9 := Lib.hid (HX8.out.later hb9)
          clear hb9
          go_wp2
          go_ret
          exact ⟨rfl, HX9.out.below⟩
  · have HFew := Lib.hid hfew
    by_cases hf1 : n ≤ 600 ∧ P ≤ 60
    · have hf : (decide (n ≤ 600) && decide (P ≤ 60)) = true := by simp [hf1.1, hf1.2]
      rw [hf]
      clear hf
      by_cases h6 : 60 < N ∧ N ≤ 4096
      · have k1 : decide (60 < N) = true := by simpa using h6.1
        have k2 : decide ((60 : Int) < (N : Int)) = true := by have := h6.1; simp; omega
        have k3 : decide (N ≤ 4096) = true := by simpa using h6.2
        have k4 : decide ((N : Int) ≤ 4096) = true := by have := h6.2; simp; omega
        clear h6 hf1 hfew
        go_wp2_with fail
        refine (awake_any w2).mono ?_
        rintro e w3 ⟨rfl, hb3⟩
        have HX3 := Lib.hid (HX2.out.later hb3)
        clear hb3
        go_wp2
        go_ret
        exact ⟨rfl, HX3.out.below⟩
      · have h5 : 5000 < N := by
          have h9 : ¬ (¬ (60 < N ∧ N ≤ 4096) ∧ N ≤ 5000) := fun h => hfew ⟨hf1, h⟩
          omega
        have k1 : decide (60 < N) = true := by simp; omega
        have k2 : decide ((60 : Int) < (N : Int)) = true := by simp; omega
        have k3 : decide (N ≤ 4096) = false := by simp; omega
        have k4 : decide ((N : Int) ≤ 4096) = false := by simp; omega
        have k5 : decide (5000 < N) = true := by simpa using h5
        have k6 : decide ((5000 : Int) < (N : Int)) = true := by simp; omega
        clear h6 hf1 hfew h5
        go_wp2_with fail
        refine (awake_any w2).mono ?_
        rintro e w3 ⟨rfl, hb3⟩
        have HX3 := Lib.hid (HX2.out.later hb3)
        clear hb3
        go_wp2
        go_ret
        exact ⟨rfl, HX3.out.below⟩
    · have hf : (decide (n ≤ 600) && decide (P ≤ 60)) = false := by
        rw [← Bool.not_eq_true]
        intro h
        simp at h
        exact hf1 h
      rw [hf]
      clear hf hf1 hfew
      go_wp2_with fail
      refine (awake_any w2).mono ?_
      rintro e w3 ⟨rfl, hb3⟩
      have HX3 := Lib.hid (HX2.out.later hb3)
      clear hb3
      go_wp2
      go_ret
      exact ⟨rfl, HX3.out.below⟩
end Go.Proofs.Ytllaecliaojmjaa.Bp
