import Derived.Test.YtllaecliaojmjaaDoorNk
namespace Go.Proofs.YtllaecliaojmjaaDoor.Bp
set_option maxRecDepth 100000
open Go.ChangeShapes Go.WideShapes Go.ChangeAt Go.RowKit Go.Proofs.YtllaecliaojmjaaDoor.Tn

/-! ### the walk of BpeNil -/
/-- what stands while rows are written over -/
structure Nl (w : World) (ga gb : Nat) (al : List Int) (ps : List (Int × Int)) (T : List (List Int)) (W : World) : Prop where
  below : Below w.heap.size w W
  ca : Cd ga al ps T W
  cb : Cd gb al ps T W
section
variable {w W W' : World} {ga gb : Nat} {al : List Int} {ps : List (Int × Int)} {T : List (List Int)}
theorem Nl.later (h : Nl w ga gb al ps T W) (hb : Below W.heap.size W W') : Nl w ga gb al ps T W' := ⟨h.below.trans (hb.mono h.below.size), h.ca.later hb, h.cb.later hb⟩
theorem Nl.stays {b n : Nat} {t : TypeId} {kd : IntKind} (h : Nl w ga gb al ps T W) (hk : Blk t kd b n W) (ht : t ≠ 57) (hb : w.heap.size ≤ b) {j : Nat} (hj : j < n) (v : Value) : Nl w ga gb al ps T (W.setCell ⟨b, j, none⟩ v) :=
  ⟨h.below.setCell hb v, h.ca.stays (hk.stays ht hj v), h.cb.stays (hk.stays ht hj v)⟩
/-- a row of pairs, or none -/
def Pr2 (w : World) (v2 : Option Addr) (P : Nat) (W : World) : Prop := P = 0 ∨ ∃ b2, v2 = some ⟨b2, 0, none⟩ ∧ w.heap.size ≤ b2 ∧ Blk 46 .i64 b2 (P * 2) W
theorem Pr2.later {v2 : Option Addr} {P : Nat} (h : Pr2 w v2 P W) (hb : Below W.heap.size W W') : Pr2 w v2 P W' := by
  rcases h with h | ⟨b2, h1, h2, h3⟩
  · exact Or.inl h
  · exact Or.inr ⟨b2, h1, h2, h3.later hb⟩
theorem Pr2.off {v2 : Option Addr} {P b n : Nat} (h : Pr2 w v2 P W) (hk : Blk 5 .u8 b n W) (j : Nat) (v : Value) : Pr2 w v2 P (W.setCell ⟨b, j, none⟩ v) := by
  rcases h with h | ⟨b2, h1, h2, h3⟩
  · exact Or.inl h
  · exact Or.inr ⟨b2, h1, h2, h3.off (h3.ne hk (by decide)) j v⟩
theorem zero_one : (#[Value.int .i64 0, Value.int .i64 0] : Array Value).all (·.oneCell') = true := by decide +kernel
theorem zero_size : (Tryd.prog.info? 46).map (·.size) = some (#[Value.int .i64 0, Value.int .i64 0] : Array Value).size := size_bpair
theorem Blk.there {t : TypeId} {kd : IntKind} {b n : Nat} (h : Blk t kd b n W) {o k : Nat} (ho : o + k ≤ n) : W.there b o k := fun j hj => by
  obtain ⟨⟨x, hx⟩, hf⟩ := h.at_ (j := o + j) (by omega)
  exact ⟨by rw [hx]; rfl, hf⟩
end
set_option maxHeartbeats 8000000 in
theorem nil_walk (w : World) (s1 s2 : Option Addr) (n P c1 cq : Nat) (al : List Int) (ps : List (Int × Int)) (bp : Option Addr) (cb N : Nat) (b : List Int) (tok : Int) (ha : Byts w s1 c1 al) (hn : al.length = n) (hps : Prs w s2 cq ps) (hP : ps.length = P) (hb : Byts w bp cb b) (hN : b.length = N) :
    Calls Tryd.prog 5 #[.agg #[.slice s1 n c1, .slice s2 P cq], .slice bp N cb, .int .i64 tok] w fun e w' => e = .returned (.bool true) ∧ Below w.heap.size w w' := by
  have HA := Lib.hid ha
  have HPs := Lib.hid hps
  have HBy := Lib.hid hb
  have Hn := Lib.hid hn
  have HP := Lib.hid hP
  have HN := Lib.hid hN
  have hnm : n ≤ maxLen := by have h1 := ha.sl.le; have h2 := ha.sl.max; rw [List.length_map] at h1; omega
  have hPm : P ≤ maxLen := by have h1 := hps.le; have h2 := hps.max; omega
  have hNm : N ≤ 9223372036854775807 := by rw [← hN]; have := Tn.Sl.len hb.sl; simpa using this
  have Hnm := Lib.hid hnm
  have HPm := Lib.hid hPm
  have HX0 := Lib.hid (Bx.made (s1 := s1) (n := n) (c1 := c1) (s2 := s2) (P := P) (cq := cq) w)
  clear ha hps hn hP hnm hPm hb hN
  go_enter Tryd.func5, Tryd.ntmps5
  go_upto_region 1 with fail
  refine gen_w (Q := fun w => Code.wp _ _ _ _ w) _ (Bx w.heap.size s1 n c1 s2 P cq w) HX0.out ?_
  clear HX0
  intro w1 hx1
  have HX1 := Lib.hid hx1
  obtain ⟨q0, q1⟩ := hx1.cells
  clear hx1
  go_wp2_with fail
  refine (few_any w1 s1 s2 n P c1 cq Hnm.out HPm.out).mono ?_
  rintro e w2 ⟨rfl, hb2⟩
  have HX2 := Lib.hid (HX1.out.later hb2)
  clear hb2 q0 q1 HX1
  by_cases hfew : (n ≤ 600 ∧ P ≤ 60) ∧ N ≤ 60
  · have hf : (decide (n ≤ 600) && decide (P ≤ 60)) = true := by simp [hfew.1.1, hfew.1.2]
    rw [hf]
    have HFew := Lib.hid hfew
    obtain ⟨q0, q1⟩ := HX2.out.cells
    have hab := HX2.out.below
    have HA2 := Lib.hid (HA.out.below hab)
    have HPs2 := Lib.hid (HPs.out.below hab)
    have d5 : decide (60 < N) = false := by have := hfew.2; simp; omega
    have d6 : decide ((60 : Int) < (N : Int)) = false := by have := hfew.2; simp; omega
    clear hf hfew hab
    go_wp2_with fail
    refine (nilText_any w2 tok).mono ?_
    rintro e w3 ⟨rfl, rfl⟩
    go_wp2_with fail
    refine (nilEncode_any w3 _).mono ?_
    rintro e w4 ⟨rfl, rfl⟩
    go_wp2_with fail
    refine (nilDecode_any _ _).mono ?_
    rintro e w5 ⟨rfl, h5⟩
    have HX3 := Lib.hid (HX2.out.later (h5 ▸ (Below.refl _ _).alloc (Nat.le_refl _) _ : Below w4.heap.size w4 w5))
    clear h5 q0 q1
    go_wp2_with fail
    refine (nilMany_any w5).mono ?_
    rintro e w6 ⟨rfl, rfl⟩
    obtain ⟨q0, q1⟩ := HX3.out.cells
    have HA3 := Lib.hid (HA.out.below HX3.out.below)
    go_upto_region 11 with fail
    go_upto_region 12 with (refine wpList_app_byts rfl (.tmp 89) (.tmp 91) rfl rfl s1 c1 n al rfl Hn.out HA3.out (by have := HFew.out; omega) ?_; intro v1 cv1 w7 hb7 hby7 hbk7; have HX4 := Lib.hid (HX3.out.later hb7); have HV4 := Lib.hid hby7; have HK4 := Lib.hid hbk7; clear hb7 hby7 hbk7 q0 q1)
    obtain ⟨q0, q1⟩ := HX4.out.cells
    have HPs4 := Lib.hid (HPs.out.below HX4.out.below)
    go_upto_region 13 with (refine wpList_app_prs rfl (.tmp 93) (.tmp 95) rfl rfl s2 cq P ps rfl HP.out HPs4.out (by have := HFew.out; omega) ?_; intro v2 cv2 w8 hb8 hpr8 hbk8; have HX5 := Lib.hid (HX4.out.later hb8); have HV5 := Lib.hid (HV4.out.below hb8); have HB8 := Lib.hid hb8; have HW5 := Lib.hid hpr8; have HL5 := Lib.hid hbk8; clear hb8 hpr8 hbk8 q0 q1)
    go_wp2_with fail
    refine (new_any w8 v1 v2 cv1 cv2 n P al ps HV5.out Hn.out HW5.out HP.out (by have := HFew.out; omega) (by have := HFew.out; omega)).mono ?_
    rintro e w9 ⟨hb9, ⟨hE, rfl⟩ | ⟨hE, ga, rfl, hga, hca⟩⟩
    · have HX9 := Lib.hid (HX5.out.later hb9)
      have HE := Lib.hid hE
      obtain ⟨E, hEe⟩ : ∃ E, (newD al ps).1 = E := ⟨_, rfl⟩
      have HEe := Lib.hid hEe
      rw [hEe] at HE ⊢
      have hE0 : (E == 0) = false := by have := HE.out; simpa using this
      have hE1 : (E != 0) = true := by have := HE.out; simpa using this
      have hEE : (E != E) = false := by simp
      have HA9 := Lib.hid (HA.out.below HX9.out.below)
      have HPs9 := Lib.hid (HPs.out.below HX9.out.below)
      obtain ⟨q0, q1⟩ := HX9.out.cells
      clear hb9 hE hEe
      go_wp2_with fail
      refine (new_any w9 s1 s2 c1 cq n P al ps HA9.out Hn.out HPs9.out HP.out (by have := HFew.out; omega) (by have := HFew.out; omega)).mono ?_
      rintro e w10 ⟨hb10, ⟨hno, rfl⟩ | ⟨h0, h9⟩⟩
      · have HX10 := Lib.hid (HX9.out.later hb10)
        rw [HEe.out]
        clear hb10 hno q0 q1
        go_wp2_with fail
        refine (awake_any _).mono ?_
        rintro e w11 ⟨rfl, hbw11⟩
        have HX11 := Lib.hid (HX10.out.later hbw11)
        clear hbw11
        go_wp2
        go_ret
        exact ⟨rfl, HX11.out.below⟩
      · exact absurd (HEe.out.symm.trans h0) HE.out
    · have HX9 := Lib.hid (HX5.out.later hb9)
      have HE := Lib.hid hE
      obtain ⟨hy1, hy2, _, hy4, _⟩ := newD_yes hE
      have hG := good_newD ps (fun x hx => HA.out.rng x hx)
      obtain ⟨T, hT⟩ : ∃ T, (newD al ps).2 = T := ⟨_, rfl⟩
      rw [hT] at hy4 hca hG
      have HT := Lib.hid hT
      have HTx := Lib.hid hy4
      have HG := Lib.hid hG
      have HC9 := Lib.hid hca
      have HMl : Hid (T.length ≤ 512) := Lib.hid (by have := hy4.len; omega)
      have HT1 : Hid (1 ≤ T.length) := Lib.hid (by have := hy4.len; omega)
      have HnP : Hid (n + P ≤ 512) := Lib.hid (by rw [← Hn.out, ← HP.out]; exact hy2)
      have HA9 := Lib.hid (HA.out.below HX9.out.below)
      have HPs9 := Lib.hid (HPs.out.below HX9.out.below)
      obtain ⟨b1, e1, hle1, hbk1⟩ := HK4.out.resolve_left (by have := Hn.out; omega)
      have HLe1 := Lib.hid (Nat.le_trans HX3.out.below.size hle1)
      subst e1
      have HBk9 := Lib.hid ((hbk1.later HB8.out).later hb9)
      have HPr8 : Hid (Pr2 w v2 P w8) := Lib.hid (by
        rcases HL5.out with h | ⟨b2, e, h2, h3⟩
        · exact Or.inl h
        · exact Or.inr ⟨b2, e, Nat.le_trans HX4.out.below.size h2, h3⟩)
      have HPr9 := Lib.hid (HPr8.out.later hb9)
      obtain ⟨q0, q1⟩ := HX9.out.cells
      clear hb9 hE hga hca hy1 hy2 hy4 hG hT hle1 hbk1
      go_wp2_with fail
      refine (new_any w9 s1 s2 c1 cq n P al ps HA9.out Hn.out HPs9.out HP.out (by have := HFew.out; omega) (by have := HFew.out; omega)).mono ?_
      rintro e w10 ⟨hb10, ⟨hno, h9⟩ | ⟨h9, gb, rfl, hgb, hcb⟩⟩
      · exact absurd HE.out hno
      · rw [HT.out] at hcb
        have HN7 : Hid (Nl w ga gb al ps T w10) := Lib.hid ⟨(HX9.out.later hb10).below, HC9.out.later hb10, hcb⟩
        have HBk7 := Lib.hid (HBk9.out.later hb10)
        have HPr7 := Lib.hid (HPr9.out.later hb10)
        clear hb10 h9 hgb hcb q0 q1 HX9 HA9 HPs9 HBk9 HPr8 HPr9 HC9 HX5 HX4 HX3 HX2 HA2 HPs2 HA3 HPs4 HV4 HV5 HW5 HK4 HL5 HB8
        go_wp2
        go_loopw [21] (fun i wr => ∃ k : Nat, k ≤ n ∧ i = .int .i64 k ∧ Nl w ga gb al ps T wr ∧ Blk 5 .u8 b1 n wr ∧ Pr2 w v2 P wr) (fun i _ => n - (intOf i).toNat)
        case atStart => exact ⟨0, by omega, rfl, HN7.out, HBk7.out, HPr7.out⟩
        case round =>
          clear HN7 HBk7 HPr7
          obtain ⟨k, hk, rfl, hnl, hbk, hpr⟩ := hrel
          have HNl := Lib.hid hnl
          have HBk := Lib.hid hbk
          have HPr := Lib.hid hpr
          have hn6 : n ≤ 600 := HFew.out.1.1
          clear hnl hbk hpr
          by_cases hlt : k < n
          · have hd1 : decide (k < n) = true := by simpa using hlt
            have hd2 : decide ((k : Int) < (n : Int)) = true := by simp; omega
            obtain ⟨⟨x, q1⟩, q2⟩ := HBk.out.at_ hlt
            go_wp2
            go_roundw
            case rel => exact ⟨k + 1, by omega, by go_num, HNl.out.stays HBk.out (by decide) HLe1.out hlt _, HBk.out.store k _, HPr.out.off HBk.out k _⟩
            case measure => simp [intOf]; omega
          · obtain rfl : n = k := by omega
            have hdf : decide (n < n) = false := by simp
            have hdf2 : decide ((n : Int) < (n : Int)) = false := by simp
            clear hlt hk
            have HN4 := HNl
            have HP4 := HPr
            clear HNl HPr HBk hn6
            go_wp2
            go_loopw [22] (fun i wr => ∃ k : Nat, k ≤ P ∧ i = .int .i64 k ∧ Nl w ga gb al ps T wr ∧ Pr2 w v2 P wr) (fun i _ => P - (intOf i).toNat)
            case atStart => exact ⟨0, by omega, rfl, HN4.out, HP4.out⟩
            case round =>
              clear HN4 HP4
              obtain ⟨k, hk, rfl, hnl, hpr⟩ := hrel
              have HNl := Lib.hid hnl
              have hP60 : P ≤ 60 := HFew.out.1.2
              by_cases hlt : k < P
              · have hd1 : decide (k < P) = true := by simpa using hlt
                have hd2 : decide ((k : Int) < (P : Int)) = true := by simp; omega
                obtain h0 | ⟨b2, e, hle2, hbk⟩ := hpr
                · omega
                · subst e
                  have HBk := Lib.hid hbk
                  have HLe2 := Lib.hid hle2
                  have HTh : Hid (wr.there b2 (k * 2) (#[Value.int .i64 0, Value.int .i64 0] : Array Value).size) := Lib.hid (hbk.there (o := k * 2) (k := 2) (by omega))
                  clear hnl hle2 hbk
                  go_wp2_with (refine wpList_store_mid rfl 46 (.tmp 155) (.tmp 154) rfl b2 (k * 2) #[.int .i64 0, .int .i64 0] rfl rfl HTh.out zero_size zero_one ?_)
                  have HN2 : Hid (Nl w ga gb al ps T (wr.setCells b2 (k * 2) [.int .i64 0, .int .i64 0])) := Lib.hid ((HNl.out.stays HBk.out (by decide) HLe2.out (j := k * 2) (by omega) _).stays (HBk.out.store (k * 2) 0) (by decide) HLe2.out (j := k * 2 + 1) (by omega) _)
                  have HB2 : Hid (Blk 46 .i64 b2 (P * 2) (wr.setCells b2 (k * 2) [.int .i64 0, .int .i64 0])) := Lib.hid ((HBk.out.store (k * 2) 0).store (k * 2 + 1) 0)
                  go_roundw
                  case rel => exact ⟨k + 1, by omega, by go_num, HN2.out, Or.inr ⟨b2, rfl, HLe2.out, HB2.out⟩⟩
                  case measure => simp [intOf]; omega
              · obtain rfl : P = k := by omega
                have hdf : decide (P < P) = false := by simp
                have hdf2 : decide ((P : Int) < (P : Int)) = false := by simp
                clear hlt hk hpr hnl hP60
                go_wp2_with fail
                refine (text_any wr ga al ps T 0 HNl.out.ca HG.out HMl.out).mono ?_
                rintro e w5 ⟨hb5, ⟨_, _, b3, cap3, rfl, hle3, _, hown⟩ | ⟨hno, _⟩⟩
                · have HN5 := Lib.hid (HNl.out.later hb5)
                  obtain ⟨L3, hL3⟩ : ∃ L3, (T.getD (0 : Int).toNat []).length = L3 := ⟨_, rfl⟩
                  rw [hL3] at hown ⊢
                  have HBk5 := Lib.hid hown.blk
                  have HLe3 := Lib.hid (Nat.le_trans HNl.out.below.size hle3)
                  have HL3 : Hid (L3 ≤ 16) := Lib.hid (by rw [← hL3]; exact (HG.out.at_ _).2)
                  clear hb5 hle3 hown hL3 HNl
                  go_wp2
                  go_loopw [25] (fun i wr => ∃ k : Nat, k ≤ L3 ∧ i = .int .i64 k ∧ Nl w ga gb al ps T wr ∧ Blk 5 .u8 b3 L3 wr) (fun i _ => L3 - (intOf i).toNat)
                  case atStart => exact ⟨0, by omega, rfl, HN5.out, HBk5.out⟩
                  case round =>
                    clear HN5 HBk5
                    obtain ⟨k, hk, rfl, hnl, hbk⟩ := hrel
                    have HNl := Lib.hid hnl
                    have HBk := Lib.hid hbk
                    have hL16 : L3 ≤ 16 := HL3.out
                    clear hnl hbk
                    by_cases hlt : k < L3
                    · have hd1 : decide (k < L3) = true := by simpa using hlt
                      have hd2 : decide ((k : Int) < (L3 : Int)) = true := by simp; omega
                      obtain ⟨⟨x, q1⟩, q2⟩ := HBk.out.at_ hlt
                      go_wp2
                      go_roundw
                      case rel => exact ⟨k + 1, by omega, by go_num, HNl.out.stays HBk.out (by decide) HLe3.out hlt _, HBk.out.store k _⟩
                      case measure => simp [intOf]; omega
                    · obtain rfl : L3 = k := by omega
                      have hdf : decide (L3 < L3) = false := by simp
                      have hdf2 : decide ((L3 : Int) < (L3 : Int)) = false := by simp
                      clear hlt hk
                      clear hL16
                      go_wp2_with fail
                      refine (encode_any wr ga bp cb N n P al ps T b HNl.out.ca HTx.out (HBy.out.below HNl.out.below) HN.out Hn.out HP.out HnP.out).mono ?_
                      obtain ⟨⟨r, at_, er⟩, hr⟩ : ∃ r, encD al ps b = r := ⟨_, rfl⟩
                      rw [hr]
                      have HR := Lib.hid hr
                      rintro e w8 ⟨sp8, cap8, rfl, hn8, hb8⟩
                      dsimp only at hn8 ⊢
                      have HN8 := Lib.hid (HNl.out.later hb8)
                      have HI8 := Lib.hid hn8
                      clear hr hn8 hb8
                      go_wp2_with fail
                      refine (encode_any w8 gb bp cb N n P al ps T b HN8.out.cb HTx.out (HBy.out.below HN8.out.below) HN.out Hn.out HP.out HnP.out).mono ?_
                      rw [HR.out]
                      rintro e w9 ⟨sp9, cap9, rfl, hn9, hb9⟩
                      dsimp only at hn9 ⊢
                      have HN9 := Lib.hid (HN8.out.later hb9)
                      have HI89 := Lib.hid (Tn.Nums.below HI8.out hb9)
                      have HI9 := Lib.hid hn9
                      obtain ⟨Nr, hNr⟩ : ∃ Nr, r.length = Nr := ⟨_, rfl⟩
                      rw [hNr]
                      have HNr := Lib.hid hNr
                      have e1 := same_beq (at_ : Int)
                      have e2 : (at_ == at_) = true := by simp
                      have e3 := same_beq er
                      clear hn9 hb9 hNr
                      go_wp2_with fail
                      refine (ints_same w9 sp8 sp9 cap8 cap9 Nr r HNr.out HI89.out HI9.out).mono ?_
                      rintro e w10 ⟨rfl, hb10⟩
                      have HX10 := Lib.hid (HN9.out.later hb10)
                      clear hb10
                      go_wp2_with fail
                      refine (awake_any _).mono ?_
                      rintro e w11 ⟨rfl, hbw11⟩
                      have HX11 := Lib.hid (HX10.out.later hbw11)
                      clear hbw11
                      go_wp2
                      go_ret
                      exact ⟨rfl, HX11.out.below⟩
                · exact absurd ⟨by omega, by have := HT1.out; omega⟩ hno
  · have hX : (decide (n ≤ 600) && decide (P ≤ 60)) = false ∨ ((decide (n ≤ 600) && decide (P ≤ 60)) = true ∧ decide (60 < N) = true ∧ decide ((60 : Int) < (N : Int)) = true) := by
      by_cases h1 : n ≤ 600 ∧ P ≤ 60
      · have h3 : 60 < N := by
          have h9 : ¬ N ≤ 60 := fun h => hfew ⟨h1, h⟩
          omega
        exact Or.inr ⟨by simp [h1.1, h1.2], by simpa using h3, by simp; omega⟩
      · left
        rw [← Bool.not_eq_true]
        intro h
        simp at h
        exact h1 h
    clear hfew
    rcases hX with hf | ⟨hf, k2, k3⟩
    · rw [hf]
      clear hf
      go_wp2_with fail
      refine (awake_any _).mono ?_
      rintro e w3 ⟨rfl, hbw3⟩
      have HX3 := Lib.hid (HX2.out.later hbw3)
      clear hbw3
      go_wp2
      go_ret
      exact ⟨rfl, HX3.out.below⟩
    · rw [hf]
      clear hf
      go_wp2_with fail
      refine (awake_any _).mono ?_
      rintro e w3 ⟨rfl, hbw3⟩
      have HX3 := Lib.hid (HX2.out.later hbw3)
      clear hbw3
      go_wp2
      go_ret
      exact ⟨rfl, HX3.out.below⟩
end Go.Proofs.YtllaecliaojmjaaDoor.Bp
