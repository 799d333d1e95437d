import Derived.Test.YtllaecliaojmjaaBe
import Derived.Test.YtllaecliaojmjaaBm
namespace Go.Proofs.Ytllaecliaojmjaa.Bp
set_option maxRecDepth 100000
open Go.ChangeShapes Go.WideShapes Go.ChangeAt Go.RowKit Go.Proofs.Ytllaecliaojmjaa.Tn

set_option maxHeartbeats 8000000 in
theorem refEncode_any (w : World) (st sq bp : Option Addr) (ct cq cb n M P N : Nat) (al b : List Int) (V : List (List Int)) (ps : List (Int × Int)) (hT : Strs w st ct (one al ++ V)) (hM : (one al ++ V).length = M) (hP : ps.length = P) (hps : Prs w sq cq ps) (hb : Byts w bp cb b) (hN : b.length = N) (hn : al.length = n) (hal : al.Nodup) (hr : ∀ x ∈ al, 0 ≤ x ∧ x < 256) (hnP : n + P ≤ 512) :
    Calls Try.prog 13 #[.agg #[.slice st M ct, .slice sq P cq, .int .i64 (n : Int)], .slice bp N cb] w (EncA w (encD al ps b)) := by
  have HM := Lib.hid hM
  have HP := Lib.hid hP
  have HN := Lib.hid hN
  have Hn := Lib.hid hn
  have HnP := Lib.hid hnP
  have Hal := Lib.hid hal
  have Hr := Lib.hid hr
  have HnM : Hid (n ≤ M) := Lib.hid (by rw [← hM, ← hn]; simp [one])
  have HCb0 : Hid (Cb w st M ct sq P cq n (w.alloc (.cells #[.slice st M ct, .slice sq P cq, .int .i64 (n : Int)] 35))) := Lib.hid ⟨(Below.refl _ _).alloc (Nat.le_refl _) _, heap_alloc_new _ _⟩
  have HTw := Lib.hid hT
  have HPw := Lib.hid hps
  have HBw := Lib.hid hb
  have hNm : N ≤ 9223372036854775807 := by rw [← hN]; have := Tn.Sl.len hb.sl; simpa using this
  by_cases hlong : 4096 < N
  · have hE : encD al ps b = ([], 0, 20) := by unfold encD; rw [if_pos (by omega)]
    rw [hE]
    have d1 : decide (4096 < N) = true := by simpa using hlong
    have d2 : decide ((4096 : Int) < (N : Int)) = true := by simp; omega
    clear hT hM hP hps hb hN hn hal hr hnP hE
    go_enter Try.func13, Try.ntmps13
    go_upto_region 1 with fail
    refine gen_w (Q := fun w => Code.wp _ _ _ _ w) _ (fun W => Below w.heap.size w W) HCb0.out.below ?_
    intro w1 hb1
    have HB1 := Lib.hid hb1
    clear hb1
    go_wp2
    go_ret3
    exact ⟨none, 0, rfl, Tn.Nums.nil _, HB1.out⟩
  have hE : encD al ps b = match badAt al b with | some i => ([], i, 14) | none => (enc ps al.length b.length (firsts al b), 0, 0) := by unfold encD; rw [if_neg (by omega)]; rfl
  obtain ⟨R, hR⟩ : ∃ R, encD al ps b = R := ⟨_, rfl⟩
  rw [hR] at hE ⊢
  have HE := Lib.hid hE
  have d1 : decide (4096 < N) = false := by simpa using hlong
  have d2 : decide ((4096 : Int) < (N : Int)) = false := by simp; omega
  have HNs : Hid (N ≤ 4096) := Lib.hid (by omega)
  clear hT hM hP hps hb hN hn hal hr hnP hE hR hlong
  go_enter Try.func13, Try.ntmps13
  go_upto_region 1 with fail
  refine gen_w (Q := fun w => Code.wp _ _ _ _ w) _ (fun W => Cb w st M ct sq P cq n W) HCb0.out ?_
  intro w1 hc1
  have HC1 := Lib.hid hc1
  clear hc1 HCb0
  go_wp2
  go_loopw [7, 8, 9, 10] (fun v iv _ _ wr => ∃ i : Nat, i ≤ N ∧ iv = .int .i64 i ∧ Cb w st M ct sq P cq n wr ∧ Fi w al b i v wr) (fun _ iv _ _ _ => N - (intOf iv).toNat)
  case atStart => exact ⟨0, by omega, rfl, HC1.out, Fi.nil _ _ _ _⟩
  case round =>
    obtain ⟨i, hi, rfl, hc, hf⟩ := hrel
    have HCi := Lib.hid hc
    have HFi := Lib.hid hf
    obtain ⟨sv, cv, rfl, _, _, _⟩ := Tn.Sl.all1 hf.own
    clear hc hf
    by_cases hil : i < N
    · have hd1 : decide (i < N) = true := by simpa using hil
      have hd2 : decide ((i : Int) < (N : Int)) = true := by simp; omega
      obtain ⟨d, p, e, h9⟩ := (HBw.out.below HCi.out.below).at_ i (by rw [HN.out]; exact hil)
      obtain ⟨x, hx⟩ : ∃ x, b.getD i 0 = x := ⟨_, rfl⟩
      rw [hx] at h9
      have HXx := Lib.hid hx
      have Hci := Lib.hid h9
      have HiN : Hid (i < N) := Lib.hid hil
      have HTi := Lib.hid (HTw.out.below HCi.out.below)
      clear hx h9
      subst e
      go_upto_region 8 with fail
      obtain ⟨w2, hw2⟩ : ∃ w2, w2 = wr := ⟨_, rfl⟩
      subst hw2
      go_wp2
      go_loopw [9, 10] (fun tk kv wr => ∃ (k : Nat) (z : Int), k ≤ n ∧ tk = .int .i64 z ∧ kv = .int .i64 k ∧ z = tokN al x k ∧ Below w2.heap.size w2 wr) (fun _ kv _ => n - (intOf kv).toNat)
      case atStart => exact ⟨0, -1, by omega, rfl, rfl, by rw [tokN_zero], Below.refl _ _⟩
      case round =>
        obtain ⟨k, z, hk, rfl, rfl, hz, hb⟩ := hrel
        have HZ := Lib.hid hz
        have hn5 : n ≤ 512 := by have := HnP.out; omega
        clear hz
        have HBr := Lib.hid hb
        have HCb := Lib.hid (HCi.out.later hb)
        obtain ⟨q1, q2, q3⟩ := HCb.out.cells
        clear hb
        by_cases hlt : k < n
        · have hdt : decide (k < n) = true := by simpa using hlt
          have hdt2 : decide ((k : Int) < (n : Int)) = true := by simp; omega
          obtain ⟨c, o, e, h9⟩ := (HTi.out.below HBr.out).at_ k (by rw [HM.out]; have := HnM.out; omega)
          rw [one_at (by rw [Hn.out]; exact hlt)] at h9
          obtain ⟨y, hy⟩ : ∃ y, al.getD k 0 = y := ⟨_, rfl⟩
          rw [hy] at h9
          have HYy := Lib.hid hy
          have HcT := Lib.hid h9
          have HkM : Hid (k < M) := Lib.hid (by have := HnM.out; omega)
          have HcB := Lib.hid ((HBr.out.cell (block_lt_of_cell Hci.out)).trans Hci.out)
          clear hy h9
          subst e
          go_upto_region 11 with fail
          refine Tn.wp_region_spec (C := fun W => Below wr.heap.size wr W) (Le := fun w w' => Below w.heap.size w w') 11 (fun _ ixx W yy => (ixx = 9 → OneB x W yy) ∧ ∀ z, teX w.heap.size (some ⟨c, o, none⟩) M ct c o k (some ⟨d, p, none⟩) N cb d p i y x ixx = some z → yy = z) (by kernel_rfl) (by kernel_rfl) ⟨rfl, rfl, rfl, Nat.le_refl _, fun _ _ => rfl⟩ (fun _ _ _ _ _ _ h => h) (fun _ _ _ _ _ hb h => ⟨fun e => (h.1 e).later hb, h.2⟩) (fun ixx yy => ∀ z, teX w.heap.size (some ⟨c, o, none⟩) M ct c o k (some ⟨d, p, none⟩) N cb d p i y x ixx = some z → yy = z) (fun _ _ _ _ h => h.2) (fun ixx => (teX w.heap.size (some ⟨c, o, none⟩) M ct c o k (some ⟨d, p, none⟩) N cb d p i y x ixx).getD undef) (fun ixx z h => by simp [h]) ?_ ?_
          · intro u hu
            have h0 : u 0 = .pointer (some ⟨w.heap.size, 0, none⟩) := hu 0 _ rfl
            have h1 : u 1 = .slice (some ⟨c, o, none⟩) M ct := hu 1 _ rfl
            have h2 : u 2 = .int .i64 (k : Int) := hu 2 _ rfl
            have h3 : u 3 = .pointer (some ⟨c, o + k, none⟩) := hu 3 _ rfl
            have h4 : u 4 = strV [y] := hu 4 _ rfl
            have h5 : u 5 = .slice (some ⟨d, p, none⟩) N cb := hu 5 _ rfl
            have h6 : u 6 = .int .i64 (i : Int) := hu 6 _ rfl
            have h7 : u 7 = .pointer (some ⟨d, p + i, none⟩) := hu 7 _ rfl
            have h8 : u 8 = .int .u8 x := hu 8 _ rfl
            have h10 : u 10 = strV [x] := hu 10 _ rfl
            simp only [List.take_succ_cons, List.take_zero]
            refine Tn.spec_cons (fun W hC hd => ⟨by rfl, ?_⟩) ?_
            · exact Tn.gives_val (.pointer (some ⟨w.heap.size, 0, none⟩)) W (exec_fld0 (.tmp 2) rfl w.heap.size rfl) ⟨hC, Below.refl _ _, (fun h => absurd h (by decide)), fun z hz => by cases hz; rfl⟩
            simp only [Act.put, List.setIfInBounds_toArray, List.set_cons_succ, List.set_cons_zero, Nat.reduceAdd]
            rw [h0]
            refine Tn.spec_cons (fun W hC hd => ⟨by rfl, ?_⟩) ?_
            · exact Tn.gives_val (.slice (some ⟨c, o, none⟩) M ct) W (exec_load1 32 (.tmp 27) rfl ⟨w.heap.size, 0, none⟩ rfl _ (HCb.out.later hC).cells.1 _ Try.underlying32 rfl) ⟨hC, Below.refl _ _, (fun h => absurd h (by decide)), fun z hz => by cases hz; rfl⟩
            simp only [Act.put, List.setIfInBounds_toArray, List.set_cons_succ, List.set_cons_zero, Nat.reduceAdd]
            rw [h1]
            refine Tn.spec_cons (fun W hC hd => ⟨by rfl, ?_⟩) ?_
            · exact Tn.gives_val (.int .i64 (k : Int)) W (by rfl) ⟨hC, Below.refl _ _, (fun h => absurd h (by decide)), fun z hz => by cases hz; rfl⟩
            simp only [Act.put, List.setIfInBounds_toArray, List.set_cons_succ, List.set_cons_zero, Nat.reduceAdd]
            rw [h2]
            refine Tn.spec_cons (fun W hC hd => ⟨by rfl, ?_⟩) ?_
            · exact Tn.gives_val (.pointer (some ⟨c, o + k, none⟩)) W (exec_at1 32 9 Try.underlying32 (by kernel_rfl) (.tmp 28) (.tmp 29) rfl c o M ct k rfl rfl HkM.out) ⟨hC, Below.refl _ _, (fun h => absurd h (by decide)), fun z hz => by cases hz; rfl⟩
            simp only [Act.put, List.setIfInBounds_toArray, List.set_cons_succ, List.set_cons_zero, Nat.reduceAdd]
            rw [h3]
            refine Tn.spec_cons (fun W hC hd => ⟨by rfl, ?_⟩) ?_
            · exact Tn.gives_val (strV [y]) W (exec_load1 9 (.tmp 30) rfl ⟨c, o + k, none⟩ rfl _ ((hC.cell (block_lt_of_cell HcT.out)).trans HcT.out) _ Try.underlying9 rfl) ⟨hC, Below.refl _ _, (fun h => absurd h (by decide)), fun z hz => by cases hz; rfl⟩
            simp only [Act.put, List.setIfInBounds_toArray, List.set_cons_succ, List.set_cons_zero, Nat.reduceAdd]
            rw [h4]
            refine Tn.spec_cons (fun W hC hd => ⟨by rfl, ?_⟩) ?_
            · exact Tn.gives_val (.slice (some ⟨d, p, none⟩) N cb) W (by rfl) ⟨hC, Below.refl _ _, (fun h => absurd h (by decide)), fun z hz => by cases hz; rfl⟩
            simp only [Act.put, List.setIfInBounds_toArray, List.set_cons_succ, List.set_cons_zero, Nat.reduceAdd]
            rw [h5]
            refine Tn.spec_cons (fun W hC hd => ⟨by rfl, ?_⟩) ?_
            · exact Tn.gives_val (.int .i64 (i : Int)) W (by rfl) ⟨hC, Below.refl _ _, (fun h => absurd h (by decide)), fun z hz => by cases hz; rfl⟩
            simp only [Act.put, List.setIfInBounds_toArray, List.set_cons_succ, List.set_cons_zero, Nat.reduceAdd]
            rw [h6]
            refine Tn.spec_cons (fun W hC hd => ⟨by rfl, ?_⟩) ?_
            · exact Tn.gives_val (.pointer (some ⟨d, p + i, none⟩)) W (exec_at1 22 5 Try.underlying22 (by kernel_rfl) (.tmp 32) (.tmp 33) rfl d p N cb i rfl rfl HiN.out) ⟨hC, Below.refl _ _, (fun h => absurd h (by decide)), fun z hz => by cases hz; rfl⟩
            simp only [Act.put, List.setIfInBounds_toArray, List.set_cons_succ, List.set_cons_zero, Nat.reduceAdd]
            rw [h7]
            refine Tn.spec_cons (fun W hC hd => ⟨by rfl, ?_⟩) ?_
            · exact Tn.gives_val (.int .u8 x) W (exec_load1 5 (.tmp 34) rfl ⟨d, p + i, none⟩ rfl _ ((hC.cell (block_lt_of_cell HcB.out)).trans HcB.out) _ Try.underlying5 rfl) ⟨hC, Below.refl _ _, (fun h => absurd h (by decide)), fun z hz => by cases hz; rfl⟩
            simp only [Act.put, List.setIfInBounds_toArray, List.set_cons_succ, List.set_cons_zero, Nat.reduceAdd]
            rw [h8]
            refine Tn.spec_cons (fun W hC hd => ⟨by rfl, ?_⟩) ?_
            · exact Tn.gives_val _ _ (exec_byte1 (.tmp 35) rfl x rfl) ⟨hC.trans ((Below.refl W.heap.size W).alloc (Nat.le_refl _) _ |>.mono hC.size), (Below.refl W.heap.size W).alloc (Nat.le_refl _) _, (fun _ => OneB.made x W), fun z hz => by cases hz⟩
            simp only [Act.put, List.setIfInBounds_toArray, List.set_cons_succ, List.set_cons_zero, Nat.reduceAdd]
            refine Tn.spec_cons (fun W hC hd => ⟨by rfl, ?_⟩) ?_
            · obtain ⟨b9, e9, c9⟩ := (hd ⟨9, .data⟩ (by simp) rfl).1 rfl
              exact Tn.gives_val (strV [x]) W (exec_str1 (.tmp 36) rfl b9 x e9 c9) ⟨hC, Below.refl _ _, (fun h => absurd h (by decide)), fun z hz => by cases hz; rfl⟩
            simp only [Act.put, List.setIfInBounds_toArray, List.set_cons_succ, List.set_cons_zero, Nat.reduceAdd]
            rw [h10]
            exact Tn.spec_nil
          · intro u W hu hC hP
            have h0 : u 0 = .pointer (some ⟨w.heap.size, 0, none⟩) := hu 0 _ rfl
            have h1 : u 1 = .slice (some ⟨c, o, none⟩) M ct := hu 1 _ rfl
            have h2 : u 2 = .int .i64 (k : Int) := hu 2 _ rfl
            have h3 : u 3 = .pointer (some ⟨c, o + k, none⟩) := hu 3 _ rfl
            have h4 : u 4 = strV [y] := hu 4 _ rfl
            have h5 : u 5 = .slice (some ⟨d, p, none⟩) N cb := hu 5 _ rfl
            have h6 : u 6 = .int .i64 (i : Int) := hu 6 _ rfl
            have h7 : u 7 = .pointer (some ⟨d, p + i, none⟩) := hu 7 _ rfl
            have h8 : u 8 = .int .u8 x := hu 8 _ rfl
            have h10 : u 10 = strV [x] := hu 10 _ rfl
            obtain ⟨b9, e9, _⟩ := (hP 9 (by omega)).1 rfl
            simp only [List.take_succ_cons, List.take_zero, List.drop_succ_cons, List.drop_zero, Tn.putAll, Act.put, List.setIfInBounds_toArray, List.set_cons_succ, List.set_cons_zero, Nat.reduceAdd]
            rw [h0, h1, h2, h3, h4, h5, h6, h7, h8, e9, h10]
            have HB2 : Hid (Below wr.heap.size wr W) := Lib.hid hC
            clear hu h0 h1 h2 h3 h4 h5 h6 h7 h8 h10 e9 hC hP
            obtain ⟨X, hX⟩ : ∃ X, strOfNums [x] = X := ⟨_, rfl⟩
            have eX : strV [x] = .string X := by rw [← hX]; rfl
            by_cases hyx : y = x
            · subst hyx
              rw [eX]
              have e1 := eqs_yes X
              have HT : Hid (tokN al y (k + 1) = k) := Lib.hid (tokN_yes Hal.out (by rw [Hn.out]; exact hlt) HYy.out)
              clear hX eX q1 q2 q3 HCb
              go_wp2
              go_roundw
              case rel => exact ⟨k + 1, _, by omega, rfl, by go_num, by rw [HT.out], HBr.out.trans (HB2.out.mono HBr.out.size)⟩
              case measure => simp [intOf]; omega
            · obtain ⟨Y, hY⟩ : ∃ Y, strOfNums [y] = Y := ⟨_, rfl⟩
              have eY : strV [y] = .string Y := by rw [← hY]; rfl
              have e1 : (Y.toList == X.toList) = false := by
                rw [← hX, ← hY]
                exact eqs_no (by have := Hr.out y (by rw [← HYy.out]; exact getD_mem (by rw [Hn.out]; exact hlt)); exact this) (by have := HBw.out.rng x (by rw [← HXx.out]; exact getD_mem (by rw [HN.out]; exact HiN.out)); exact this) hyx
              rw [eX, eY]
              have HT : Hid (tokN al x (k + 1) = tokN al x k) := Lib.hid (tokN_no (by rw [Hn.out]; exact hlt) (by rw [HYy.out]; exact hyx))
              clear hX hY eX eY q1 q2 q3 HCb
              go_wp2
              go_roundw
              case rel => exact ⟨k + 1, _, by omega, rfl, by go_num, by rw [HT.out, ← HZ.out], HBr.out.trans (HB2.out.mono HBr.out.size)⟩
              case measure => simp [intOf]; omega
        · obtain rfl : k = n := by omega
          have hdf : decide (k < k) = false := by simp
          have HFe : Hid (Fi w al b i (.slice sv i cv) wr) := Lib.hid ⟨Tn.owns_below HFi.out.own HBr.out, HFi.out.all⟩
          have hbig : w.heap.size + 1 ≤ wr.heap.size := (Array.getElem?_eq_some_iff.1 HCb.out.row).1
          by_cases hxal : x ∈ al
          · have HZ2 : Hid (z = (al.idxOf x : Int)) := Lib.hid (by rw [HZ.out, ← Hn.out, tokN_end, if_pos hxal])
            have hz0 : decide (z < 0) = false := by have := HZ2.out; simp; omega
            go_wp2_with (refine Tn.wpList_push rfl (.tmp 43) (.tmp 45) rfl (w.heap.size + 1) _ i (firsts al (b.take i)) z rfl HFe.out.own rfl (by have := HNs.out; omega) hbig ?_; intro v2 w3 hown hb3; have HO3 := Lib.hid hown; have HB3 := Lib.hid hb3; clear hown hb3)
            go_roundw
            case rel => exact ⟨i + 1, by omega, by go_num, ⟨HCb.out.below.trans (HB3.out.mono (Nat.le_succ _)), (HB3.out.block _ (by omega)).trans HCb.out.row⟩, HFe.out.push (by rw [HN.out]; exact hil) (by rw [HXx.out]; exact hxal) (by rw [HXx.out]; exact HZ2.out) HO3.out⟩
            case measure => simp [intOf]; omega
          · obtain rfl : z = -1 := by rw [HZ.out, ← Hn.out, tokN_end, if_neg hxal]
            have HRr : Hid (R = ([], i, 14)) := Lib.hid (by rw [HE.out, badAt_at (by rw [HN.out]; exact hil) HFi.out.all (by rw [HXx.out]; exact hxal)])
            clear HE HZ
            go_wp2
            go_ret3
            rw [HRr.out]
            exact ⟨none, 0, rfl, Tn.Nums.nil _, HCb.out.below⟩
    · obtain rfl : i = N := by omega
      have hdf : decide (i < i) = false := by simp
      have HBad : Hid (badAt al b = none) := Lib.hid (badAt_all (fun x hx => HFi.out.all x (by rw [List.take_of_length_le (by rw [HN.out]; exact Nat.le_refl _)]; exact hx)))
      have hR : R = (enc ps n i (firsts al b), 0, 0) := by rw [HE.out, HBad.out, HN.out, Hn.out]
      obtain ⟨sp0, cp0, e0, hl0, hn0⟩ := Tn.own_nums HFi.out.own
      cases e0
      rw [List.take_of_length_le (by rw [HN.out]; exact Nat.le_refl _)] at hl0 hn0
      have HL0 := Lib.hid hl0
      have HN0 := Lib.hid hn0
      obtain ⟨E0, hE0⟩ : ∃ E0, enc ps n i (firsts al b) = E0 := ⟨_, rfl⟩
      rw [hE0] at hR
      subst hR
      have HE0 := Lib.hid hE0
      have HP5 : Hid (P ≤ 512) := Lib.hid (by have := HnP.out; omega)
      clear HE hl0 hn0 hE0 hil
      go_upto_region 17 with fail
      obtain ⟨w2, hw2⟩ : ∃ w2, w2 = wr := ⟨_, rfl⟩
      subst hw2
      clear HFi
      go_loopw [7, 11] (fun v kv wr => ∃ (l : List Int) (sp : Option Addr) (cap L k : Nat), l.length = L ∧ v = .slice sp L cap ∧ kv = .int .i64 k ∧ k ≤ P ∧ L ≤ 4096 ∧ Nums wr sp cap l ∧ Below w2.heap.size w2 wr ∧ (∀ j, j < k → nbr (ps.getD j (0, 0)) l = false) ∧ enc ps n L l = E0) (fun v kv _ => lenV v * 600 + (P - (intOf kv).toNat))
      case atStart => exact ⟨firsts al b, _, _, i, 0, HL0.out, rfl, rfl, by omega, HNs.out, HN0.out, Below.refl _ _, fun j hj => by omega, HE0.out⟩
      case round =>
        obtain ⟨l, sp, cap, L, k, hL, rfl, rfl, hk, hLs, hl, hb, hno, hE⟩ := hrel
        have HLl := Lib.hid hL
        have HLs := Lib.hid hLs
        have Hl := Lib.hid hl
        have HBr := Lib.hid hb
        have HNo := Lib.hid hno
        have HEn := Lib.hid hE
        have HCr := Lib.hid (HCi.out.later hb)
        obtain ⟨q1, q2, q3⟩ := HCr.out.cells
        clear hL hLs hl hb hno hE HE0 HN0 HL0
        by_cases hlt : k < P
        · have hdt : decide (k < P) = true := by simpa using hlt
          have hdt2 : decide ((k : Int) < (P : Int)) = true := by simp; omega
          have hk5 : P ≤ 512 := HP5.out
          obtain ⟨c, o, e, hrg⟩ := (HPw.out.below HCr.out.below).at_ k (by rw [HP.out]; exact hlt)
          obtain ⟨pk, hpk⟩ : ∃ pk, ps.getD k (0, 0) = pk := ⟨_, rfl⟩
          rw [hpk] at hrg
          obtain ⟨x, y⟩ := pk
          dsimp only at hrg
          have HPk := Lib.hid hpk
          have HRg := Lib.hid hrg
          clear hpk hrg
          subst e
          go_wp2_with (refine wpList_load_mid rfl 55 (.tmp 56) rfl c (o + k * 2) rfl [.int .i64 x, .int .i64 y] _ HRg.out Try.underlying55 rfl size_pair ?_)
          refine (neighbours_any _ sp cap L l x y HLl.out Hl.out).mono ?_
          rintro e w4 ⟨rfl, hb4⟩
          have HB4 := Lib.hid hb4
          clear hb4
          by_cases hnb : nbr (x, y) l = true
          · have HNb := Lib.hid hnb
            rw [hnb]
            clear q1 q2 q3
            have HCw := Lib.hid (HCr.out.later HB4.out)
            have Hl4 := Lib.hid (Tn.Nums.below Hl.out HB4.out)
            have HBw4 := Lib.hid (HBr.out.trans (HB4.out.mono HBr.out.size))
            have hws : IntKind.i64.wrap ((n : Int) + (k : Int)) = (n : Int) + (k : Int) := IntWalk.i64_in _ (by have := HnP.out; omega)
            obtain ⟨s, hs⟩ : ∃ s, (n : Int) + (k : Int) = s := ⟨_, rfl⟩
            rw [hs] at hws
            have HS := Lib.hid hs
            obtain ⟨M1, hM1⟩ : ∃ M1, merg (x, y) s l = M1 := ⟨_, rfl⟩
            obtain ⟨L1, hL1⟩ : ∃ L1, M1.length = L1 := ⟨_, rfl⟩
            have HM1 := Lib.hid hM1
            have HL1 := Lib.hid hL1
            have HWs : Hid (IntKind.i64.wrap ((n : Int) + (k : Int)) = s) := Lib.hid (by rw [HS.out]; exact hws)
            clear hnb hs hws hM1 hL1
            go_upto_region 19 with fail
            have HR4 : Hid (w4.rangeAt c (o + k * 2) [.int .i64 x, .int .i64 y]) := Lib.hid (fun j v hv => (HB4.out.cell (block_lt_of_cell (HRg.out j v hv))).trans (HRg.out j v hv))
            refine Tn.wp_region_spec (C := fun W => Below w4.heap.size w4 W) (Le := fun w w' => Below w.heap.size w w') 11 (fun _ ixx W yy => (ixx = 10 → ∃ sp9 cap9, yy = .slice sp9 L1 cap9 ∧ Nums W sp9 cap9 M1) ∧ ∀ z, meX w.heap.size sp L cap c o P cq k n x y s ixx = some z → yy = z) (by kernel_rfl) (by kernel_rfl) ⟨rfl, rfl, rfl, Nat.le_refl _, fun _ _ => rfl⟩ (fun _ _ _ _ _ _ h => h) (fun _ _ _ _ _ hb h => ⟨fun e => (h.1 e).elim fun sp h => h.elim fun cap h => ⟨sp, cap, h.1, Tn.Nums.below h.2 hb⟩, h.2⟩) (fun ixx yy => ∀ z, meX w.heap.size sp L cap c o P cq k n x y s ixx = some z → yy = z) (fun _ _ _ _ h => h.2) (fun ixx => (meX w.heap.size sp L cap c o P cq k n x y s ixx).getD undef) (fun ixx z h => by simp [h]) ?_ ?_
            · intro u hu
              have h0 : u 0 = .slice sp L cap := hu 0 _ rfl
              have h1 : u 1 = .pointer (some ⟨w.heap.size, 1, none⟩) := hu 1 _ rfl
              have h2 : u 2 = .slice (some ⟨c, o, none⟩) P cq := hu 2 _ rfl
              have h3 : u 3 = .int .i64 (k : Int) := hu 3 _ rfl
              have h4 : u 4 = .pointer (some ⟨c, o + k * 2, none⟩) := hu 4 _ rfl
              have h5 : u 5 = .agg #[.int .i64 x, .int .i64 y] := hu 5 _ rfl
              have h6 : u 6 = .pointer (some ⟨w.heap.size, 2, none⟩) := hu 6 _ rfl
              have h7 : u 7 = .int .i64 (n : Int) := hu 7 _ rfl
              have h8 : u 8 = .int .i64 (k : Int) := hu 8 _ rfl
              have h9 : u 9 = .int .i64 s := hu 9 _ rfl
              simp only [List.take_succ_cons, List.take_zero]
              refine Tn.spec_cons (fun W hC hd => ⟨by rfl, ?_⟩) ?_
              · exact Tn.gives_val (.slice sp L cap) W (by rfl) ⟨hC, Below.refl _ _, (fun h => absurd h (by decide)), fun z hz => by cases hz; rfl⟩
              simp only [Act.put, List.setIfInBounds_toArray, List.set_cons_succ, List.set_cons_zero, Nat.reduceAdd]
              rw [h0]
              refine Tn.spec_cons (fun W hC hd => ⟨by rfl, ?_⟩) ?_
              · exact Tn.gives_val (.pointer (some ⟨w.heap.size, 1, none⟩)) W (exec_fld1 (.tmp 2) rfl w.heap.size rfl) ⟨hC, Below.refl _ _, (fun h => absurd h (by decide)), fun z hz => by cases hz; rfl⟩
              simp only [Act.put, List.setIfInBounds_toArray, List.set_cons_succ, List.set_cons_zero, Nat.reduceAdd]
              rw [h1]
              refine Tn.spec_cons (fun W hC hd => ⟨by rfl, ?_⟩) ?_
              · exact Tn.gives_val (.slice (some ⟨c, o, none⟩) P cq) W (exec_load1 33 (.tmp 60) rfl ⟨w.heap.size, 1, none⟩ rfl _ (HCw.out.later hC).cells.2.1 _ Try.underlying33 rfl) ⟨hC, Below.refl _ _, (fun h => absurd h (by decide)), fun z hz => by cases hz; rfl⟩
              simp only [Act.put, List.setIfInBounds_toArray, List.set_cons_succ, List.set_cons_zero, Nat.reduceAdd]
              rw [h2]
              refine Tn.spec_cons (fun W hC hd => ⟨by rfl, ?_⟩) ?_
              · exact Tn.gives_val (.int .i64 (k : Int)) W (by rfl) ⟨hC, Below.refl _ _, (fun h => absurd h (by decide)), fun z hz => by cases hz; rfl⟩
              simp only [Act.put, List.setIfInBounds_toArray, List.set_cons_succ, List.set_cons_zero, Nat.reduceAdd]
              rw [h3]
              refine Tn.spec_cons (fun W hC hd => ⟨by rfl, ?_⟩) ?_
              · exact Tn.gives_val (.pointer (some ⟨c, o + k * 2, none⟩)) W (exec_at2 33 55 Try.underlying33 size_pair (.tmp 61) (.tmp 62) rfl c o P cq k rfl rfl hlt) ⟨hC, Below.refl _ _, (fun h => absurd h (by decide)), fun z hz => by cases hz; rfl⟩
              simp only [Act.put, List.setIfInBounds_toArray, List.set_cons_succ, List.set_cons_zero, Nat.reduceAdd]
              rw [h4]
              refine Tn.spec_cons (fun W hC hd => ⟨by rfl, ?_⟩) ?_
              · exact Tn.gives_val (.agg #[.int .i64 x, .int .i64 y]) W (exec_load_pair (.tmp 63) rfl c (o + k * 2) rfl x y (fun j v hv => (hC.cell (block_lt_of_cell (HR4.out j v hv))).trans (HR4.out j v hv))) ⟨hC, Below.refl _ _, (fun h => absurd h (by decide)), fun z hz => by cases hz; rfl⟩
              simp only [Act.put, List.setIfInBounds_toArray, List.set_cons_succ, List.set_cons_zero, Nat.reduceAdd]
              rw [h5]
              refine Tn.spec_cons (fun W hC hd => ⟨by rfl, ?_⟩) ?_
              · exact Tn.gives_val (.pointer (some ⟨w.heap.size, 2, none⟩)) W (exec_fld2 (.tmp 2) rfl w.heap.size rfl) ⟨hC, Below.refl _ _, (fun h => absurd h (by decide)), fun z hz => by cases hz; rfl⟩
              simp only [Act.put, List.setIfInBounds_toArray, List.set_cons_succ, List.set_cons_zero, Nat.reduceAdd]
              rw [h6]
              refine Tn.spec_cons (fun W hC hd => ⟨by rfl, ?_⟩) ?_
              · exact Tn.gives_val (.int .i64 (n : Int)) W (exec_load1 3 (.tmp 65) rfl ⟨w.heap.size, 2, none⟩ rfl _ (HCw.out.later hC).cells.2.2 _ Try.underlying3 rfl) ⟨hC, Below.refl _ _, (fun h => absurd h (by decide)), fun z hz => by cases hz; rfl⟩
              simp only [Act.put, List.setIfInBounds_toArray, List.set_cons_succ, List.set_cons_zero, Nat.reduceAdd]
              rw [h7]
              refine Tn.spec_cons (fun W hC hd => ⟨by rfl, ?_⟩) ?_
              · exact Tn.gives_val (.int .i64 (k : Int)) W (by rfl) ⟨hC, Below.refl _ _, (fun h => absurd h (by decide)), fun z hz => by cases hz; rfl⟩
              simp only [Act.put, List.setIfInBounds_toArray, List.set_cons_succ, List.set_cons_zero, Nat.reduceAdd]
              rw [h8]
              refine Tn.spec_cons (fun W hC hd => ⟨by rfl, ?_⟩) ?_
              · exact Tn.gives_val (.int .i64 s) W (exec_add (.tmp 66) (.tmp 67) rfl n k s rfl rfl HWs.out) ⟨hC, Below.refl _ _, (fun h => absurd h (by decide)), fun z hz => by cases hz; rfl⟩
              simp only [Act.put, List.setIfInBounds_toArray, List.set_cons_succ, List.set_cons_zero, Nat.reduceAdd]
              rw [h9]
              refine Tn.spec_cons (fun W hC hd => ⟨by rfl, ?_⟩) ?_
              · exact Tn.gives_call _ _ (exec_call3 23 (.tmp 59) (.tmp 64) (.tmp 68) #[42, 55, 3] _ _ _ rfl rfl rfl rfl (Tn.cf Try.func23 (by kernel_rfl) (by kernel_rfl) _ _)) ((merged_any W sp cap L l x y s HLl.out (Tn.Nums.below Hl4.out hC) (by have := HLs.out; omega)).mono fun e W' ⟨sp', cap', h1, h2, h3⟩ => ⟨_, h1, hC.trans (h3.mono hC.size), h3, (fun _ => ⟨sp', cap', by rw [HM1.out, HL1.out], by rw [HM1.out] at h2; exact h2⟩), fun z hz => by cases hz⟩)
              simp only [Act.put, List.setIfInBounds_toArray, List.set_cons_succ, List.set_cons_zero, Nat.reduceAdd]
              exact Tn.spec_nil
            · intro u W hu hC hP
              have h0 : u 0 = .slice sp L cap := hu 0 _ rfl
              have h1 : u 1 = .pointer (some ⟨w.heap.size, 1, none⟩) := hu 1 _ rfl
              have h2 : u 2 = .slice (some ⟨c, o, none⟩) P cq := hu 2 _ rfl
              have h3 : u 3 = .int .i64 (k : Int) := hu 3 _ rfl
              have h4 : u 4 = .pointer (some ⟨c, o + k * 2, none⟩) := hu 4 _ rfl
              have h5 : u 5 = .agg #[.int .i64 x, .int .i64 y] := hu 5 _ rfl
              have h6 : u 6 = .pointer (some ⟨w.heap.size, 2, none⟩) := hu 6 _ rfl
              have h7 : u 7 = .int .i64 (n : Int) := hu 7 _ rfl
              have h8 : u 8 = .int .i64 (k : Int) := hu 8 _ rfl
              have h9 : u 9 = .int .i64 s := hu 9 _ rfl
              obtain ⟨sp9, cap9, e9, n9⟩ := (hP 10 (by omega)).1 rfl
              simp only [List.take_succ_cons, List.take_zero, List.drop_succ_cons, List.drop_zero, Tn.putAll, Act.put, List.setIfInBounds_toArray, List.set_cons_succ, List.set_cons_zero, Nat.reduceAdd]
              rw [h0, h1, h2, h3, h4, h5, h6, h7, h8, h9, e9]
              have HB9 : Hid (Below w4.heap.size w4 W) := Lib.hid hC
              have HN9 := Lib.hid n9
              clear hu h0 h1 h2 h3 h4 h5 h6 h7 h8 h9 e9 hC hP n9
              have HLt : Hid (L1 < L) := Lib.hid (by rw [← HL1.out, ← HLl.out, ← HM1.out]; exact merg_less _ _ _ HNb.out)
              go_wp2
              go_roundw
              case rel => exact ⟨M1, sp9, cap9, L1, 0, HL1.out, rfl, rfl, by omega, by have := HLt.out; have := HLs.out; omega, HN9.out, HBw4.out.trans (HB9.out.mono HBw4.out.size), fun j hj => by omega, by
                rw [← HEn.out, ← HLl.out, enc_step (fst_at (by rw [HP.out]; exact hlt) (by rw [HPk.out]; exact HNb.out) HNo.out), HPk.out, HS.out, HM1.out, HL1.out]⟩
              case measure => have := HLt.out; simp [intOf, lenV]; omega
          · have hnf : nbr (x, y) l = false := by simpa using hnb
            have HNb := Lib.hid hnf
            rw [hnf]
            clear hnb hnf q1 q2 q3
            go_wp2
            go_roundw
            case rel => exact ⟨l, sp, cap, L, k + 1, HLl.out, rfl, by go_num, by omega, HLs.out, Tn.Nums.below Hl.out HB4.out, HBr.out.trans (HB4.out.mono HBr.out.size), fun j hj => by
              by_cases h : j < k
              · exact HNo.out j h
              · obtain rfl : j = k := by omega
                rw [HPk.out]
                exact HNb.out, HEn.out⟩
            case measure => simp [intOf, lenV]; omega
        · obtain rfl : k = P := by omega
          have hdf : decide (k < k) = false := by simp
          have hEl : E0 = l := by rw [← HEn.out]; exact enc_stop (fst_end (fun j hj => HNo.out j (by rw [← HP.out]; exact hj))) _
          subst hEl
          go_wp2
          go_ret3
          exact ⟨sp, cap, by rw [HLl.out]; rfl, Hl.out, HCr.out.below⟩
end Go.Proofs.Ytllaecliaojmjaa.Bp
