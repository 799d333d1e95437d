import Derived.Test.YtllaecliaojmjaaDh
import Derived.Test.YtllaecliaojmjaaDi
namespace Go.Proofs.Ytllaecliaojmjaa.Bp
set_option maxRecDepth 100000
open Go.ChangeShapes Go.WideShapes Go.ChangeAt Go.RowKit Go.Proofs.Ytllaecliaojmjaa.Tn

/-! ### the walk of BpeTokens -/
/-- the law's box: the book -/
structure Bx (B : Nat) (s1 : Option Addr) (n c1 : Nat) (s2 : Option Addr) (P cq : Nat) (w W : World) : Prop where
  below : Below B w W
  box : W.heap[B]? = some (.cells #[.slice s1 n c1, .slice s2 P cq] 25 (0, 0))
section
variable {B n c1 P cq : Nat} {s1 s2 : Option Addr} {w W W' : World}
theorem Bx.lt (h : Bx B s1 n c1 s2 P cq w W) : B < W.heap.size := (Array.getElem?_eq_some_iff.1 h.box).1
theorem Bx.later (h : Bx B s1 n c1 s2 P cq w W) (hb : Below W.heap.size W W') : Bx B s1 n c1 s2 P cq w W' := ⟨h.below.trans (hb.mono (Nat.le_of_lt h.lt)), (hb.block _ h.lt).trans h.box⟩
theorem Bx.cells (h : Bx B s1 n c1 s2 P cq w W) : W.cell? ⟨B, 0, none⟩ = some (.slice s1 n c1) ∧ W.cell? ⟨B, 1, none⟩ = some (.slice s2 P cq) := by
  constructor
  · rw [cell_of_row _ _ _ _ _ _ h.box]; rfl
  · rw [cell_of_row _ _ _ _ _ _ h.box]; rfl
theorem Bx.made (w : World) : Bx w.heap.size s1 n c1 s2 P cq w (w.alloc (.cells #[.slice s1 n c1, .slice s2 P cq] 25)) := ⟨(Below.refl _ _).alloc (Nat.le_refl _) _, heap_alloc_new _ _⟩
end
/-- bytes as a text -/
theorem conv_text {W : World} {b cap : Nat} {u : List Int} (h : Byts W (some ⟨b, 0, none⟩) cap u) : (convert 22 9 (.slice (some ⟨b, 0, none⟩) u.length cap)).run Try.prog W = .ok (.string (strOfNums u)) W :=
  run_convert_bytes_arg (P := Try.prog) W 22 5 Try.underlying22 Try.underlying5 b 0 u.length cap u rfl (fun i hi => h.cell i hi) 9 Try.underlying9
/-- what stands while texts are gone through -/
structure Wk (w : World) (s1 : Option Addr) (n c1 : Nat) (s2 : Option Addr) (P cq g : Nat) (al : List Int) (ps : List (Int × Int)) (T : List (List Int)) (st : Option Addr) (ct R : Nat) (sq : Option Addr) (cq2 : Nat) (W : World) : Prop where
  bx : Bx w.heap.size s1 n c1 s2 P cq w W
  cd : Cd g al ps T W
  strs : Strs W st ct T
  row : W.heap[R]? = some (.cells #[.slice st T.length ct, .slice sq P cq2, .int .i64 (n : Int)] 35 (0, 0))
section
variable {w W W' : World} {s1 s2 st sq : Option Addr} {n c1 P cq g ct R cq2 : Nat} {al : List Int} {ps : List (Int × Int)} {T : List (List Int)}
theorem Wk.later (h : Wk w s1 n c1 s2 P cq g al ps T st ct R sq cq2 W) (hb : Below W.heap.size W W') : Wk w s1 n c1 s2 P cq g al ps T st ct R sq cq2 W' := ⟨h.bx.later hb, h.cd.later hb, h.strs.below hb, (hb.block _ (Array.getElem?_eq_some_iff.1 h.row).1).trans h.row⟩
theorem Wk.t0 (h : Wk w s1 n c1 s2 P cq g al ps T st ct R sq cq2 W) : W.cell? ⟨R, 0, none⟩ = some (.slice st T.length ct) := by rw [cell_of_row _ _ _ _ _ _ h.row]; rfl
end
set_option maxHeartbeats 8000000 in
theorem tokens_walk (w : World) (s1 s2 : Option Addr) (n P c1 cq : Nat) (al : List Int) (ps : List (Int × Int)) (tok : Int) (ha : Byts w s1 c1 al) (hn : al.length = n) (hps : Prs w s2 cq ps) (hP : ps.length = P) :
    Calls Try.prog 3 #[.agg #[.slice s1 n c1, .slice s2 P cq], .int .i64 tok] w fun e w' => e = .returned (.bool true) ∧ Below w.heap.size w w' := by
  have HA := Lib.hid ha
  have HPs := Lib.hid hps
  have Hn := Lib.hid hn
  have HP := Lib.hid hP
  have hnm : n ≤ maxLen := by have h1 := ha.sl.le; have h2 := ha.sl.max; rw [List.length_map] at h1; omega
  have hPm : P ≤ maxLen := by have h1 := hps.le; have h2 := hps.max; omega
  have Hnm := Lib.hid hnm
  have HPm := Lib.hid hPm
  have HX0 := Lib.hid (Bx.made (s1 := s1) (n := n) (c1 := c1) (s2 := s2) (P := P) (cq := cq) w)
  clear ha hps hn hP hnm hPm
  go_enter Try.func3, Try.ntmps3
  go_upto_region 1 with fail
  refine gen_w (Q := fun w => Code.wp _ _ _ _ w) _ (Bx w.heap.size s1 n c1 s2 P cq w) HX0.out ?_
  clear HX0
  intro w1 hx1
  have HX1 := Lib.hid hx1
  obtain ⟨q0, q1⟩ := hx1.cells
  clear hx1
  go_wp2_with fail
  refine (few_any w1 s1 s2 n P c1 cq Hnm.out HPm.out).mono ?_
  rintro e w2 ⟨rfl, hb2⟩
  have HX2 := Lib.hid (HX1.out.later hb2)
  clear hb2 q0 q1 HX1
  by_cases hfew : n ≤ 600 ∧ P ≤ 60
  · have hf : (decide (n ≤ 600) && decide (P ≤ 60)) = true := by simp [hfew.1, hfew.2]
    rw [hf]
    have HFew := Lib.hid hfew
    obtain ⟨q0, q1⟩ := HX2.out.cells
    have hab := HX2.out.below
    have HA2 := Lib.hid (HA.out.below hab)
    have HPs2 := Lib.hid (HPs.out.below hab)
    clear hf hfew hab
    go_wp2_with fail
    refine (new_any w2 s1 s2 c1 cq n P al ps HA2.out Hn.out HPs2.out HP.out (by have := HFew.out; omega) (by have := HFew.out; omega)).mono ?_
    rintro e w3 ⟨hb3, ⟨hE, rfl⟩ | ⟨hE, g, rfl, hg, hc⟩⟩
    · have HX3 := Lib.hid (HX2.out.later hb3)
      have HE := Lib.hid hE
      have HA3 := Lib.hid (HA.out.below HX3.out.below)
      have HPs3 := Lib.hid (HPs.out.below HX3.out.below)
      obtain ⟨r0, r1⟩ := HX3.out.cells
      clear hb3 q0 q1 hE
      go_wp2_with fail
      refine (plain_any w3 s1 s2 n P c1 cq al ps HA3.out Hn.out HPs3.out HP.out (by have := HFew.out; omega) (by have := HFew.out; omega)).mono ?_
      rintro e w4 ⟨cv, rfl, hb4, ⟨_, rfl⟩ | ⟨h0, _⟩⟩
      · have HX4 := Lib.hid (HX3.out.later hb4)
        obtain ⟨E, hE⟩ : ∃ E, (newD al ps).1 = E := ⟨_, rfl⟩
        rw [hE] at HE ⊢
        have hE0 : (E == 0) = false := by have := HE.out; simpa using this
        have hEE := same_beq E
        have hba : Below w4.heap.size w4 (w4.alloc (.cells #[.slice none 0 0, .slice none 0 0, .int .i64 0] 35)) := (Below.refl _ _).alloc (Nat.le_refl _) _
        have HX5 := Lib.hid (HX4.out.later hba)
        unfold noC
        clear hb4 hE hba r0 r1
        go_wp2_with fail
        refine (awake_any _).mono ?_
        rintro e w6 ⟨rfl, hb6⟩
        have HX6 := Lib.hid (HX5.out.later hb6)
        clear hb6
        go_wp2
        go_ret
        exact ⟨rfl, HX6.out.below⟩
      · exact absurd h0 HE.out
    · have HX3 := Lib.hid (HX2.out.later hb3)
      have HA3 := Lib.hid (HA.out.below HX3.out.below)
      have HPs3 := Lib.hid (HPs.out.below HX3.out.below)
      have HE := Lib.hid hE
      obtain ⟨hy1, hy2, _, hy4, _⟩ := newD_yes hE
      have hG := good_newD ps (fun x hx => HA.out.rng x hx)
      obtain ⟨T, hT⟩ : ∃ T, (newD al ps).2 = T := ⟨_, rfl⟩
      rw [hT] at hy4 hc hG
      have HT := Lib.hid hT
      have HTx := Lib.hid hy4
      have HG := Lib.hid hG
      have HC3 := Lib.hid hc
      have HMl : Hid (T.length ≤ 512) := Lib.hid (by have := hy4.len; omega)
      obtain ⟨r0, r1⟩ := HX3.out.cells
      clear hb3 q0 q1 hE hg hc hy1 hy2 hy4 hG hT
      go_wp2_with fail
      refine (plain_any w3 s1 s2 n P c1 cq al ps HA3.out Hn.out HPs3.out HP.out (by have := HFew.out; omega) (by have := HFew.out; omega)).mono ?_
      rintro e w4 ⟨cv, rfl, hb4, ⟨h0, _⟩ | ⟨_, st, ct, sq, cq2, rfl, hst, _⟩⟩
      · exact absurd HE.out h0
      · have HX4 := Lib.hid (HX3.out.later hb4)
        have HC4 := Lib.hid (HC3.out.later hb4)
        rw [HE.out]
        rw [HT.out] at hst ⊢
        have HS4 := Lib.hid hst
        rw [Hn.out, HP.out]
        clear hb4 hst r0 r1
        go_upto_region 5 with fail
        have hba : Below w4.heap.size w4 (w4.alloc (.cells #[.slice st T.length ct, .slice sq P cq2, .int .i64 (n : Int)] 35)) := (Below.refl _ _).alloc (Nat.le_refl _) _
        refine gen_w (Q := fun w => Code.wp _ _ _ _ w) _ (fun W => Bx w.heap.size s1 n c1 s2 P cq w W ∧ Cd g al ps T W ∧ Strs W st ct T ∧ W.heap[w4.heap.size]? = some (.cells #[.slice st T.length ct, .slice sq P cq2, .int .i64 (n : Int)] 35 (0, 0))) ⟨HX4.out.later hba, HC4.out.later hba, HS4.out.below hba, heap_alloc_new _ _⟩ ?_
        obtain ⟨R, hR⟩ : ∃ R, w4.heap.size = R := ⟨_, rfl⟩
        rw [hR]
        clear hba hR HX4 HC4 HS4
        rintro w5 ⟨hx5, hc5, hs5, hr5⟩
        have HX5 := Lib.hid hx5
        have HC5 := Lib.hid hc5
        have HS5 := Lib.hid hs5
        have HR5 := Lib.hid hr5
        have t0 : w5.cell? ⟨R, 0, none⟩ = some (.slice st T.length ct) := by rw [cell_of_row _ _ _ _ _ _ hr5]; rfl
        obtain ⟨m5, sp5, ct5, hcr5, _⟩ := hc5
        have HCr5 := Lib.hid hcr5
        have hne : (T.length != T.length) = false := by simp
        clear hx5 hs5 hr5 hcr5
        go_wp2
        go_quiet (exact (many_any _ g m5 al ps sp5 T.length ct5 (HCr5.out.later (drawn_below _)) (by have := HMl.out; unfold maxLen; omega)).mono fun e w' h => ⟨h.1, _, h.2⟩)
        have HW6 : Hid (Wk w s1 n c1 s2 P cq g al ps T st ct R sq cq2 (w5.drewN nq)) := Lib.hid ⟨HX5.out.later (drawn_below nq), HC5.out.later (drawn_below nq), HS5.out.below (drawn_below nq), HR5.out⟩
        generalize w5.drewN nq = w6 at HW6
        clear t0 HX5 HC5 HS5 HR5 HCr5 hne
        go_wp2
        go_loopw [9] (fun iv wr => ∃ i : Nat, i ≤ T.length ∧ iv = .int .i64 i ∧ Wk w s1 n c1 s2 P cq g al ps T st ct R sq cq2 wr) (fun iv _ => T.length - (intOf iv).toNat)
        case atStart => exact ⟨0, by omega, rfl, HW6.out⟩
        case round =>
          clear HW6
          obtain ⟨i, hi, rfl, hw⟩ := hrel
          have HW := Lib.hid hw
          have t0 := hw.t0
          have hTm : T.length ≤ 512 := HMl.out
          clear hw
          by_cases hil : i < T.length
          · have hd1 : decide (i < T.length) = true := by simpa using hil
            have hd2 : decide ((i : Int) < (T.length : Int)) = true := by simp; omega
            go_wp2_with fail
            refine (text_any wr g al ps T (i : Int) HW.out.cd HG.out HMl.out).mono ?_
            rintro e w7 ⟨hb7, ⟨_, _, b, cap, rfl, hbl, hby, _⟩ | ⟨hno, _⟩⟩
            · rw [Int.toNat_natCast] at hby ⊢
              have HW7 := Lib.hid (HW.out.later hb7)
              obtain ⟨u, hu⟩ : ∃ u, T.getD i [] = u := ⟨_, rfl⟩
              rw [hu] at hby ⊢
              have HU := Lib.hid hu
              have HBy := Lib.hid hby
              obtain ⟨d2, o2, e, t1⟩ := HW7.out.strs.at_ i hil
              rw [hu] at t1
              unfold strV at t1
              have t2 := HW7.out.t0
              subst e
              have hcv : ∀ q, (convert 22 9 (.slice (some ⟨b, 0, none⟩) u.length cap)).run Try.prog (w7.drewN q) = .ok (.string (strOfNums u)) (w7.drewN q) := fun q => conv_text (HBy.out.below (drawn_below q))
              obtain ⟨X, hX⟩ : ∃ X, strOfNums u = X := ⟨_, rfl⟩
              rw [hX] at t1 hcv
              have hne2 : (X.toList != X.toList) = false := by simp
              obtain ⟨L, hL⟩ : ∃ L, u.length = L := ⟨_, rfl⟩
              rw [hL] at hcv ⊢
              clear hb7 hbl hby hu hX hL t0
              go_wp2
              go_quiet (fail)
              have HW8 := Lib.hid (HW7.out.later (drawn_below nq))
              generalize w7.drewN nq = w8 at HW8
              clear t1 t2 hcv hne2
              go_wp2
              go_roundw
              case rel => exact ⟨i + 1, by omega, by go_num, HW8.out⟩
              case measure => simp [intOf]; omega
            · exact absurd ⟨by omega, by omega⟩ hno
          · obtain rfl : i = T.length := by omega
            have hdf : decide (T.length < T.length) = false := by simp
            have hdf2 : decide ((T.length : Int) < (T.length : Int)) = false := by simp
            clear hil
            go_wp2_with fail
            refine (text_any wr g al ps T tok HW.out.cd HG.out HMl.out).mono ?_
            rintro e w7 ⟨hb7, ⟨ht0, ht1, b, cap, rfl, hbl, hby, _⟩ | ⟨hno, rfl⟩⟩
            · have HW7 := Lib.hid (HW.out.later hb7)
              have t2 := HW7.out.t0
              have g1 : decide (0 ≤ tok) = true := by simpa using ht0
              have g2 : decide (tok < (T.length : Int)) = true := by simpa using ht1
              obtain ⟨L, hL⟩ : ∃ L, (T.getD tok.toNat []).length = L := ⟨_, rfl⟩
              rw [hL]
              clear hb7 hbl hby hL t0 ht0 ht1
              go_wp2_with fail
              refine (awake_any _).mono ?_
              rintro e w8 ⟨rfl, hb8⟩
              have HW8 := Lib.hid (HW7.out.later hb8)
              clear hb8 t2
              go_wp2
              go_ret
              exact ⟨rfl, HW8.out.bx.below⟩
            · have HW7 := Lib.hid (HW.out.later hb7)
              have t2 := HW7.out.t0
              clear hb7 t0
              by_cases ht0 : 0 ≤ tok
              · have g1 : decide (0 ≤ tok) = true := by simpa using ht0
                have g2 : decide (tok < (T.length : Int)) = false := by
                  have : ¬ tok < (T.length : Int) := fun h => hno ⟨ht0, h⟩
                  simpa using this
                clear hno ht0
                go_wp2_with fail
                refine (awake_any _).mono ?_
                rintro e w8 ⟨rfl, hb8⟩
                have HW8 := Lib.hid (HW7.out.later hb8)
                clear hb8 t2
                go_wp2
                go_ret
                exact ⟨rfl, HW8.out.bx.below⟩
              · have g1 : decide (0 ≤ tok) = false := by simpa using ht0
                clear hno ht0
                go_wp2_with fail
                refine (awake_any _).mono ?_
                rintro e w8 ⟨rfl, hb8⟩
                have HW8 := Lib.hid (HW7.out.later hb8)
                clear hb8 t2
                go_wp2
                go_ret
                exact ⟨rfl, HW8.out.bx.below⟩
  · have hf : (decide (n ≤ 600) && decide (P ≤ 60)) = false := by
      rw [← Bool.not_eq_true]
      intro h
      simp at h
      exact hfew h
    rw [hf]
    clear hf hfew
    go_wp2_with fail
    refine (awake_any w2).mono ?_
    rintro e w3 ⟨rfl, hb3⟩
    have HX3 := Lib.hid (HX2.out.later hb3)
    clear hb3
    go_wp2
    go_ret
    exact ⟨rfl, HX3.out.below⟩
end Go.Proofs.Ytllaecliaojmjaa.Bp
