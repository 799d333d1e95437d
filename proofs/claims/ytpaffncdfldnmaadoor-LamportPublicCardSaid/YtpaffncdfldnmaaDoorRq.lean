import Derived.Test.YtpaffncdfldnmaaDoorRp
namespace Go.Proofs.YtpaffncdfldnmaaDoor
open Go.ChangeShapes Go.WideShapes Go.ChangeAt Go.RowKit

/-! ### the document's public key -/
structure Ru (w : World) (s : List Int) (k : Nat) (v : Value) (W : World) : Prop where
  below : Below w.heap.size w W
  ds : Dg W w.heap.size s
  res : W.heap[w.heap.size + 1]? = some (.cells (rowB (zs 32)) 23 (0, 0))
  own : W.ownsRow (w.heap.size + 2) 5 1 v (32 * k) ((rowP (kf (pubF s)) k).map (Value.int .u8))
section
variable {w W W' : World} {s : List Int} {k : Nat} {v : Value}
theorem Ru.later (h : Ru w s k v W) (hb : Below W.heap.size W W') : Ru w s k v W' :=
  ⟨h.below.trans (hb.mono h.below.size), h.ds.below hb, (hb.block _ (Array.getElem?_eq_some_iff.1 h.res).1).trans h.res, Cd.owns_below h.own hb⟩
theorem Ru.size (h : Ru w s k v W) : w.heap.size + 2 ≤ W.heap.size := by have := (Array.getElem?_eq_some_iff.1 h.res).1; omega
theorem Ru.grow (h : Ru w s k v W) {k' : Nat} {v' : Value} (hg : W.grownBy W' v.ownBlock) (ho : W'.ownsRow (w.heap.size + 2) 5 1 v' (32 * k') ((rowP (kf (pubF s)) k').map (Value.int .u8))) : Ru w s k' v' W' := by
  have hb : Below (w.heap.size + 2) W W' := Below.ofGrown hg h.size (fun g e => (h.own.lt g e).1)
  exact ⟨h.below.trans (hb.mono (by omega)), (hb.block _ (by omega)).trans h.ds, (hb.block _ (by omega)).trans h.res, ho⟩
end
theorem Ru.made (w : World) (s : List Int) (X : Array Value) (hX : X = rowB (zs 32)) : Ru w s 0 (.slice none 0 0) ((w.alloc (.cells (rowB s) 23)).alloc (.cells X 23)) := by
  have h := Hd.made w s X hX
  exact ⟨h.below, h.d, h.res, World.ownsRow_nil _ _ _ _⟩
theorem cdsl_of_dg {W : World} {g : Nat} {d : List Int} (h : Dg W g d) (hd : d.length = 32) : Cd.Sl W (some ⟨g, 0, none⟩) 32 (d.map (Value.int .u8)) := by
  have := byt_iff.1 (h.byt hd)
  exact ⟨this.le, this.max, this.nul, this.lies⟩
/-- a digest stored into a new block -/
theorem Ru.put {w W : World} {s : List Int} {k : Nat} {v : Value} (h : Ru w s k v W) (X : Array Value) (d : List Int) : Ru w s k v ((W.alloc (.cells X 23)).setRow W.heap.size (rowB d)) :=
  h.later (below_setRow ((Below.refl _ _).alloc (Nat.le_refl _) _) (Nat.le_refl _) _)
set_option maxRecDepth 100000 in
set_option maxHeartbeats 4000000 in
theorem refPublic_any (w : World) (s : List Int) (hs : s.length = 32) (hr : Cd.rng s) :
    Calls Tryd.prog 10 #[.agg (rowB s)] w fun e w' => e = .returned (.agg (rowB (pubD s))) ∧ Below w.heap.size w w' := by
  have HZs := Lib.hid (row_dig hs)
  have HSec := Lib.hid (fun W (p b : Nat) (hp : p < 256) (hb : b < 2) => refSecret_any W s p b hs hr (by omega) (by omega))
  have HKf : Hid (∀ j, (kf (pubF s) j).length = 32) := Lib.hid (fun j => by unfold kf; exact pubF_length _ _ _)
  have HLen := Lib.hid (rowP_length (kf (pubF s)) HKf.out)
  have HRow : Hid (∀ p b, b < 2 → rowP (kf (pubF s)) (2 * p + (b + 1)) = rowP (kf (pubF s)) (2 * p + b) ++ sum (secD s p b)) := Lib.hid (fun p b hb => by
    have hk : kf (pubF s) (2 * p + b) = sum (secD s p b) := by
      unfold kf pubF
      rw [show (2 * p + b) / 2 = p by omega, show (2 * p + b) % 2 = b by omega]
    rw [← hk]
    rfl)
  have HRng : Hid (∀ k, rng (rowP (kf (pubF s)) k)) := Lib.hid (fun k => by
    induction k with
    | zero => intro x hx; cases hx
    | succ k ih =>
      intro x hx
      rw [rowP] at hx
      rcases List.mem_append.1 hx with h | h
      · exact ih x h
      · unfold kf pubF at h
        exact rng_sumQ _ x h)
  have HPub : Hid (sum (rowP (kf (pubF s)) 512) = pubD s) := Lib.hid rfl
  clear hs hr
  go_enter Tryd.func10, Tryd.ntmps10
  go_wp2
  go_loopw [3, 4] (fun v t wr => ∃ p : Nat, p ≤ 256 ∧ t = .int .i64 p ∧ Ru w s (2 * p) v wr) (fun _ t _ => 256 - (intOf t).toNat)
  case atStart => exact ⟨0, by omega, rfl, Ru.made w s _ (by kernel_rfl)⟩
  case round =>
    obtain ⟨p, hp, rfl, hru⟩ := hrel
    by_cases hlt : p < 256
    · have hdt : decide ((p : Int) < 256) = true := by simp; omega
      have hdt' : decide (p < 256) = true := by simp; omega
      have H0 := Lib.hid hru
      clear hru
      go_wp2
      go_loopw [3, 5] (fun v t wr => ∃ b : Nat, b ≤ 2 ∧ t = .int .i64 b ∧ Ru w s (2 * p + b) v wr) (fun _ t _ => 2 - (intOf t).toNat)
      case atStart => exact ⟨0, by omega, rfl, H0.out⟩
      case round =>
        clear H0
        obtain ⟨b, hb, rfl, hru⟩ := hrel
        by_cases hltb : b < 2
        · have hdb : decide ((b : Int) < 2) = true := by simp; omega
          have hdb' : decide (b < 2) = true := by simp; omega
          obtain ⟨sv, cv, rfl, hxl, hsl, hbase⟩ := Cd.Sl.all1 hru.own
          have H0 := Lib.hid hru
          have HRw := Lib.hid (HRow.out p b hltb)
          have hx32 := secD_length s p b
          have HCall := Lib.hid (fun W => HSec.out W p b hlt hltb)
          have HRg : Hid (rng (secD s p b)) := Lib.hid (by unfold secD; exact rng_sumQ _)
          obtain ⟨x, hx⟩ : ∃ x, secD s p b = x := ⟨_, rfl⟩
          rw [hx] at hx32 HCall HRw HRg
          have hy32 := sum_length x
          have HY0 : Hid ((sum x).length = 32) := hy32
          have HRef := Lib.hid (fun W sp cap (hby : Byt W sp cap x) => ref_sum block_any W sp 32 cap x hx32 hby.by_ hby.nul HRg.out (by omega))
          obtain ⟨y, hy⟩ : ∃ y, sum x = y := ⟨_, rfl⟩
          rw [hy] at HRw hy32 HRef HY0
          have HZx := Lib.hid (row_dig hx32)
          have HYx := Lib.hid (show 32 = (rowB x).size by rw [rowB_size, hx32])
          have HXx := Lib.hid (rowB_one x)
          have HZy := Lib.hid (row_dig hy32)
          have HYy := Lib.hid (show 32 = (rowB y).size by rw [rowB_size, hy32])
          have HXy := Lib.hid (rowB_one y)
          have HX0 := Lib.hid hx32
          clear hru hxl hsl hbase hx hy hx32 hy32
          obtain ⟨n, hn⟩ : ∃ n, 32 * (2 * p + b) = n := ⟨_, rfl⟩
          have hnb : n + 32 ≤ 1000000 := by omega
          have HN := Lib.hid hn
          rw [hn]
          clear hn
          go_upto_region 9 with (first
            | (refine wpList_load_row rfl 23 (.tmp 1) rfl w.heap.size rfl 23 (rowB s) (0, 0) _ H0.out.ds Tryd.underlying23 rfl HZs.out ?_)
            | (go_at_call 8; refine (HCall.out wr).mono ?_; rintro e w1 ⟨rfl, hb1⟩; have H1 := Lib.hid (H0.out.later hb1); clear hb1)
            | (refine wpList_store_row rfl 23 (.tmp 6) (.tmp 19) rfl w1.heap.size (rowB x) rfl rfl 23 _ (heap_alloc_new _ _) HZx.out HYx.out HXx.out ?_))
          try simp only [Act.put]
          refine gen_world (Q := fun w => Code.wp _ _ _ _ w) _ (fun W => Ru w s (2 * p + b) (.slice sv (32 * (2 * p + b)) cv) W ∧ Dg W w1.heap.size x) ⟨H1.out.put _ x, Dg.made _ _ _⟩ ?_
          rintro w2 ⟨hr2, hd2⟩
          have H2 := Lib.hid hr2
          have HD2 := Lib.hid hd2
          have r1 := run_digest w1.heap.size
          clear hr2 hd2 H0 H1
          go_upto_region 10 with (first
            | (go_at_call 17; refine (HRef.out w2 (some ⟨w1.heap.size, 0, none⟩) 32 (HD2.out.byt HX0.out)).mono ?_; rintro e w3 ⟨rfl, hb3⟩; have H3 := Lib.hid (H2.out.later hb3); clear hb3)
            | (refine wpList_store_row rfl 23 (.tmp 7) (.tmp 21) rfl w3.heap.size (rowB y) rfl rfl 23 _ (heap_alloc_new _ _) HZy.out HYy.out HXy.out ?_))
          try simp only [Act.put]
          refine gen_world (Q := fun w => Code.wp _ _ _ _ w) _ (fun W => Ru w s (2 * p + b) (.slice sv (32 * (2 * p + b)) cv) W ∧ Dg W w3.heap.size y) ⟨H3.out.put _ y, Dg.made _ _ _⟩ ?_
          rintro w4 ⟨hr4, hd4⟩
          have H4 := Lib.hid hr4
          have HSrc := Lib.hid (cdsl_of_dg hd4 HY0.out)
          have HO4 := Lib.hid hr4.own
          rw [HN.out] at HO4
          have hsz4 := hr4.size
          have HMl := Lib.hid (show (y.map (Value.int .u8)).length = 32 by rw [List.length_map, HY0.out])
          have r2 := run_digest w3.heap.size
          clear hr4 hd4 H2 H3 HD2 r1
          go_wp2_with (refine Cd.wpList_append_sl 38 5 1 (.int .u8 0) Tryd.underlying38 Cd.info5 rfl (by decide) rfl (.tmp 22) (.tmp 23) rfl (w.heap.size + 2) (.slice sv n cv) n 32 _ _ rfl HO4.out (some ⟨w3.heap.size, 0, none⟩) 32 rfl HMl.out HSrc.out (Cd.map_one _) hnb hsz4 ?_; intro v5 w5 hown5 hg5)
          have H5 : Hid (Ru w s (2 * p + (b + 1)) v5 w5) := Lib.hid (H4.out.grow (by rw [HN.out]; exact hg5) (by
            rw [HRw.out, List.map_append, show 32 * (2 * p + (b + 1)) = n + 32 by have := HN.out; omega]
            exact hown5))
          clear hown5 hg5 r2
          go_roundw
          case rel => exact ⟨b + 1, by omega, by go_num, H5.out⟩
          case measure => simp [intOf]; omega
        · obtain rfl : b = 2 := by omega
          have hdb : decide (((2 : Nat) : Int) < 2) = false := by decide
          have hdb' : decide ((2 : Int) < 2) = false := by decide
          have H0 := Lib.hid hru
          clear hru
          go_wp2
          go_roundw
          case rel => exact ⟨p + 1, by omega, by go_num, H0.out⟩
          case measure => simp [intOf]; omega
    · obtain rfl : p = 256 := by omega
      have hdf : decide (((256 : Nat) : Int) < 256) = false := by decide
      have hdf' : decide ((256 : Int) < 256) = false := by decide
      have H0 : Hid (Ru w s 512 _ wr) := Lib.hid hru
      obtain ⟨sv, cv, rfl, hxl, hsl, hbase⟩ := Cd.Sl.all1 hru.own
      have HBy : Hid (Byt wr sv cv (rowP (kf (pubF s)) 512)) := Lib.hid (byt_iff.2 ⟨hsl.le, hsl.max, hsl.nul, hsl.lies⟩)
      have hl : (rowP (kf (pubF s)) 512).length = 16384 := by rw [HLen.out]
      have HRg2 := Lib.hid (HRng.out 512)
      have h32 : (pubD s).length = 32 := by unfold pubD; exact sum_length _
      clear hru hxl hsl hbase
      rw [show 32 * (2 * 256) = 16384 from rfl]
      obtain ⟨L, hL⟩ : ∃ L, rowP (kf (pubF s)) 512 = L := ⟨_, rfl⟩
      rw [hL] at HBy hl HRg2 HPub
      clear hL HLen HRow HRng
      go_wp2_with fail
      refine (ref_sum block_any wr sv 16384 cv L hl HBy.out.by_ HBy.out.nul HRg2.out (by omega)).mono ?_
      rintro e w5 ⟨rfl, hb5⟩
      rw [HPub.out]
      have HQ := Lib.hid ((hb5.block _ (Array.getElem?_eq_some_iff.1 H0.out.res).1).trans H0.out.res)
      have HB5 := Lib.hid (H0.out.below.trans (hb5.mono H0.out.below.size))
      clear hb5
      have HZ := Lib.hid (row_dig h32)
      have HY := Lib.hid (show (rowB (zs 32)).size = (rowB (pubD s)).size by rw [← row_dig0 h32]; rfl)
      have HX := Lib.hid (rowB_one (pubD s))
      obtain ⟨F, hF⟩ : ∃ F, pubD s = F := ⟨_, rfl⟩
      rw [hF] at HZ HY HX ⊢
      have HF := Lib.hid hF
      clear hF h32
      go_wp2_with (refine wpList_store_row rfl 23 (.tmp 2) (.tmp 26) rfl (w.heap.size + 1) (rowB F) rfl rfl 23 _ HQ.out HZ.out HY.out HX.out ?_)
      exact bodyPost_ret (v := .agg (rowB F)) (results_cell_row Tryd.results10 _ _ (w.heap.size + 1) 23 (rowB F) (0, 0) _ rfl (setRow_heap _ _ _ _ _ _ HQ.out) Tryd.underlying23 rfl HZ.out) rfl ⟨by rw [HF.out], below_setRow HB5.out (by omega) _⟩
end Go.Proofs.YtpaffncdfldnmaaDoor
