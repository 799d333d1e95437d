import Derived.Test.YtpaffncdfldnmaaDoorLe
namespace Go.Proofs.YtpaffncdfldnmaaDoor
open Go.ChangeShapes Go.WideShapes Go.ChangeAt Go.RowKit

/-! ### the key of which a function tells the digests -/
structure Ko (w : World) (D : Nat → Nat → List Int) (k : Nat) (W : World) : Prop where
  below : Below w.heap.size w W
  res : W.heap[w.heap.size]? = some (.cells (rowB (zs 32)) 23 (0, 0))
  bd : Bd W (w.heap.size + 1) 64 512 (kf D) (fun j => j < k)
theorem Ko.made (w : World) (D : Nat → Nat → List Int) (X Y : Array Value) (hX : X = rowB (zs 32)) (hY : Y.size = 16384) : Ko w D 0 ((w.alloc (.cells X 23)).alloc (.cells Y 64)) := by
  subst hX
  have := Bd.made (w.alloc (.cells (rowB (zs 32)) 23)) Y 64 512 (kf D) (fun j => j < 0) hY (fun p => Nat.not_lt_zero p)
  rw [World.size_alloc] at this
  exact ⟨((Below.refl _ _).alloc (Nat.le_refl _) _).alloc (by simp) _, heap_alloc2_old _ _ _, this⟩
theorem Ko.later {w W W' : World} {D : Nat → Nat → List Int} {k : Nat} (h : Ko w D k W) (hb : Below W.heap.size W W') : Ko w D k W' :=
  ⟨h.below.trans (hb.mono h.below.size), (hb.block _ (Array.getElem?_eq_some_iff.1 h.res).1).trans h.res, h.bd.below hb⟩
theorem Ko.set {w W : World} {D : Nat → Nat → List Int} {k : Nat} (h : Ko w D k W) (hf : ∀ i, (kf D i).length = 32) (hk : k < 512) : Ko w D (k + 1) (W.setCells (w.heap.size + 1) (32 * k) ((kf D k).map (Value.int .u8))) :=
  ⟨belowCells (by omega) _ _ _ h.below, (heap_setCells_ne _ _ _ _ (by omega)).trans h.res, h.bd.set hf k hk (fun q hq => by omega)⟩
set_option maxRecDepth 100000 in
set_option maxHeartbeats 4000000 in
theorem keyOf_any (w : World) (fid : FuncId) (cap : Array Value) (D : Nat → Nat → List Int) (hD : ∀ p b, (D p b).length = 32) (he : Env w) (hcf : ∀ vs W, (callFunc fid vs).run Tryd.prog W = .ok (.enter fid vs) W)
    (hc : ∀ (p b : Nat) W, p < 256 → b < 2 → Below w.heap.size w W → Calls Tryd.prog fid (#[.int .i64 (p : Int), .int .i64 (b : Int)] ++ cap) W fun e W' => e = .returned (.agg (rowB (D p b))) ∧ Below W.heap.size W W') :
    Calls Tryd.prog 19 #[.func (.func fid) #[] cap] w fun e w' => e = .returned (.agg (rowB (sum (keyB D)))) ∧ Below w.heap.size w w' := by
  have HKf : Hid (∀ i, (kf D i).length = 32) := Lib.hid (fun i => by unfold kf; exact hD _ _)
  have HE := Lib.hid he
  have HCf := Lib.hid hcf
  have HC := Lib.hid hc
  have HD := Lib.hid hD
  clear he hcf hc hD
  obtain ⟨Y, hYs, hYn, hYz⟩ := zero_pairs_ex
  go_enter Tryd.func19, Tryd.ntmps19
  go_wp2
  go_loopw [6] (fun t wr => ∃ p : Nat, p ≤ 256 ∧ t = .int .i64 p ∧ Ko w D (2 * p) wr) (fun t _ => 256 - (intOf t).toNat)
  case atStart => exact ⟨0, by omega, rfl, Ko.made w D _ _ (by kernel_rfl) hYs⟩
  case round =>
    obtain ⟨p, hp, rfl, hs⟩ := hrel
    by_cases hlt : p < 256
    · have hdt : decide ((p : Int) < 256) = true := by simp; omega
      have hdt' : decide (p < 256) = true := by simp; omega
      have HS0 := Lib.hid hs
      clear hs
      go_wp2
      go_loopw [9] (fun t wr => ∃ b : Nat, b ≤ 2 ∧ t = .int .i64 b ∧ Ko w D (2 * p + b) wr) (fun t _ => 2 - (intOf t).toNat)
      case atStart => exact ⟨0, by omega, rfl, HS0.out⟩
      case round =>
        clear HS0
        obtain ⟨b, hb, rfl, hs⟩ := hrel
        by_cases hltb : b < 2
        · have hdb : decide ((b : Int) < 2) = true := by simp; omega
          have hdb' : decide (b < 2) = true := by simp; omega
          have HS := Lib.hid hs
          clear hs
          have e0 : 0 + 64 * p + 32 * b = 32 * (2 * p + b) := by omega
          have e1 : 64 * p + 32 * b = 32 * (2 * p + b) := by omega
          have hkd : kf D (2 * p + b) = D p b := by unfold kf; rw [show (2 * p + b) / 2 = p by omega, show (2 * p + b) % 2 = b by omega]
          have h32 := HD.out p b
          have HCall := Lib.hid (fun W (hW : Below wr.heap.size wr W) => HC.out p b W hlt hltb (HS.out.below.trans (hW.mono HS.out.below.size)))
          have HSet := Lib.hid (fun W (hW : Below wr.heap.size wr W) => (HS.out.later hW).set HKf.out (k := 2 * p + b) (by omega))
          have HTh := Lib.hid (fun W (hW : Below wr.heap.size wr W) => (HS.out.later hW).bd.there (2 * p + b) (by omega))
          rw [hkd] at HSet
          rw [← e0] at HTh
          obtain ⟨d, hd⟩ : ∃ d, D p b = d := ⟨_, rfl⟩
          rw [hd] at h32 HCall HSet
          clear hkd hd
          have hid := row_dig h32
          have hsz : (rowB d).size = 32 := by rw [rowB_size, h32]
          go_upto_region 8 with fail
          refine wp_region_spec (C := (fun W => Below wr.heap.size wr W)) (Le := fun _ _ => True) 8 (fun ixx _ v => v = ([.int .i64 p, .int .i64 b, .func (.func fid) #[] cap, .int .i64 p, .int .i64 b, .agg (rowB d), .pointer (some ⟨w.heap.size + 1, 0 + 64 * p, none⟩), .pointer (some ⟨w.heap.size + 1, 0 + 64 * p + 32 * b, none⟩)] : List Value).getD ixx undef) (by kernel_rfl) (by kernel_rfl) ⟨rfl, rfl, rfl, Nat.le_refl _, fun _ _ => rfl⟩ (fun _ _ _ _ _ h => h) (fun ixx v => v = ([.int .i64 p, .int .i64 b, .func (.func fid) #[] cap, .int .i64 p, .int .i64 b, .agg (rowB d), .pointer (some ⟨w.heap.size + 1, 0 + 64 * p, none⟩), .pointer (some ⟨w.heap.size + 1, 0 + 64 * p + 32 * b, none⟩)] : List Value).getD ixx undef) (fun _ _ _ h => h) (fun ixx => ([.int .i64 p, .int .i64 b, .func (.func fid) #[] cap, .int .i64 p, .int .i64 b, .agg (rowB d), .pointer (some ⟨w.heap.size + 1, 0 + 64 * p, none⟩), .pointer (some ⟨w.heap.size + 1, 0 + 64 * p + 32 * b, none⟩)] : List Value).getD ixx undef) (fun _ => rfl) ?_ ?_
          · intro u hu
            have h0 : u 0 = .int .i64 p := hu 0
            have h1 : u 1 = .int .i64 b := hu 1
            have h2 : u 2 = .func (.func fid) #[] cap := hu 2
            have h3 : u 3 = .int .i64 p := hu 3
            have h4 : u 4 = .int .i64 b := hu 4
            have h5 : u 5 = .agg (rowB d) := hu 5
            have h6 : u 6 = .pointer (some ⟨w.heap.size + 1, 0 + 64 * p, none⟩) := hu 6
            have h7 : u 7 = .pointer (some ⟨w.heap.size + 1, 0 + 64 * p + 32 * b, none⟩) := hu 7
            simp only [List.take_succ_cons, List.take_zero]
            refine spec_cons (fun W hC hd => ⟨by rfl, ?_⟩) ?_
            · exact gives_val _ W (rfl) ⟨hC, trivial, rfl⟩
            simp only [Act.put, List.setIfInBounds_toArray, List.set_cons_succ, List.set_cons_zero, Nat.reduceAdd]
            rw [h0]
            refine spec_cons (fun W hC hd => ⟨by rfl, ?_⟩) ?_
            · exact gives_val _ W (rfl) ⟨hC, trivial, rfl⟩
            simp only [Act.put, List.setIfInBounds_toArray, List.set_cons_succ, List.set_cons_zero, Nat.reduceAdd]
            rw [h1]
            refine spec_cons (fun W hC hd => ⟨by rfl, ?_⟩) ?_
            · exact gives_val _ W (rfl) ⟨hC, trivial, rfl⟩
            simp only [Act.put, List.setIfInBounds_toArray, List.set_cons_succ, List.set_cons_zero, Nat.reduceAdd]
            rw [h2]
            refine spec_cons (fun W hC hd => ⟨by rfl, ?_⟩) ?_
            · exact gives_val _ W (rfl) ⟨hC, trivial, rfl⟩
            simp only [Act.put, List.setIfInBounds_toArray, List.set_cons_succ, List.set_cons_zero, Nat.reduceAdd]
            rw [h3]
            refine spec_cons (fun W hC hd => ⟨by rfl, ?_⟩) ?_
            · exact gives_val _ W (rfl) ⟨hC, trivial, rfl⟩
            simp only [Act.put, List.setIfInBounds_toArray, List.set_cons_succ, List.set_cons_zero, Nat.reduceAdd]
            rw [h4]
            refine spec_cons (fun W hC hd => ⟨by rfl, ?_⟩) ?_
            · exact gives_call _ _ (exec_callC fid (.tmp 15) (.tmp 16) (.tmp 14) #[3, 3] cap _ _ rfl rfl rfl rfl (HCf.out _ _)) ((HCall.out W hC).mono fun e W' h => ⟨_, h.1, hC.trans (h.2.mono hC.size), trivial, rfl⟩)
            simp only [Act.put, List.setIfInBounds_toArray, List.set_cons_succ, List.set_cons_zero, Nat.reduceAdd]
            rw [h5]
            refine spec_cons (fun W hC hd => ⟨by rfl, ?_⟩) ?_
            · exact gives_val _ W (exec_arr_at 64 62 256 64 Tryd.underlying64 sizePair (.tmp 3) (.tmp 12) rfl (w.heap.size + 1) 0 p rfl rfl hlt) ⟨hC, trivial, rfl⟩
            simp only [Act.put, List.setIfInBounds_toArray, List.set_cons_succ, List.set_cons_zero, Nat.reduceAdd]
            rw [h6]
            refine spec_cons (fun W hC hd => ⟨by rfl, ?_⟩) ?_
            · exact gives_val _ W (exec_arr_at 62 23 2 32 Tryd.underlying62 size25 (.tmp 18) (.tmp 13) rfl (w.heap.size + 1) (0 + 64 * p) b rfl rfl hltb) ⟨hC, trivial, rfl⟩
            simp only [Act.put, List.setIfInBounds_toArray, List.set_cons_succ, List.set_cons_zero, Nat.reduceAdd]
            rw [h7]
            exact spec_nil
          intro u W hu hC _
          have h0 : u 0 = .int .i64 p := hu 0
          have h1 : u 1 = .int .i64 b := hu 1
          have h2 : u 2 = .func (.func fid) #[] cap := hu 2
          have h3 : u 3 = .int .i64 p := hu 3
          have h4 : u 4 = .int .i64 b := hu 4
          have h5 : u 5 = .agg (rowB d) := hu 5
          have h6 : u 6 = .pointer (some ⟨w.heap.size + 1, 0 + 64 * p, none⟩) := hu 6
          have h7 : u 7 = .pointer (some ⟨w.heap.size + 1, 0 + 64 * p + 32 * b, none⟩) := hu 7
          simp only [List.take_succ_cons, List.take_zero, List.drop_succ_cons, List.drop_zero, putAll, Act.put, List.setIfInBounds_toArray, List.set_cons_succ, List.set_cons_zero, Nat.reduceAdd]
          rw [h0, h1, h2, h3, h4, h5, h6, h7]
          clear hu h0 h1 h2 h3 h4 h5 h6 h7
          have HSt := Lib.hid (HSet.out W hC)
          have HT := Lib.hid (HTh.out W hC)
          clear hC
          go_wp2_with (refine wpList_store_mid rfl 23 (.tmp 19) (.tmp 17) rfl (w.heap.size + 1) (0 + 64 * p + 32 * b) (rowB d) rfl rfl (by rw [hsz]; exact HT.out) hid (rowB_one d) ?_)
          go_roundw
          case rel => exact ⟨b + 1, by omega, by go_num, HSt.out⟩
          case measure => simp [intOf]; omega
        · obtain rfl : b = 2 := by omega
          have hdb : decide (((2 : Nat) : Int) < 2) = false := by decide
          have hdb' : decide ((2 : Int) < 2) = false := by decide
          have HS := Lib.hid hs
          clear hs
          go_wp2
          go_roundw
          case rel => exact ⟨p + 1, by omega, by go_num, HS.out⟩
          case measure => simp [intOf]; omega
    · obtain rfl : p = 256 := by omega
      have hdf : decide (((256 : Nat) : Int) < 256) = false := by decide
      have hdf' : decide ((256 : Int) < 256) = false := by decide
      have HS : Hid (Ko w D 512 wr) := Lib.hid hs
      have HFull := Lib.hid (HS.out.bd.full HKf.out (fun p hp => hp))
      clear hs
      go_wp2_with fail
      refine (psum_any wr (w.heap.size + 1) (0, 0) D HD.out HFull.out (HE.out.below HS.out.below)).mono ?_
      rintro e w5 ⟨rfl, hb5⟩
      have HQ := Lib.hid ((hb5.block _ (Array.getElem?_eq_some_iff.1 HS.out.res).1).trans HS.out.res)
      have HB5 := Lib.hid (HS.out.below.trans (hb5.mono HS.out.below.size))
      clear hb5
      have HZ := Lib.hid (row_sum (keyB D))
      have HY := Lib.hid (show (rowB (zs 32)).size = (rowB (sum (keyB D))).size by rw [← row_zero]; rfl)
      have HX := Lib.hid (rowB_one (sum (keyB D)))
      obtain ⟨F, hF⟩ : ∃ F, sum (keyB D) = F := ⟨_, rfl⟩
      rw [hF] at HZ HY HX ⊢
      have HF := Lib.hid hF
      clear hF
      go_wp2_with (refine wpList_store_row rfl 23 (.tmp 2) (.tmp 22) rfl w.heap.size (rowB F) rfl rfl 23 _ HQ.out HZ.out HY.out HX.out ?_)
      exact bodyPost_ret (v := .agg (rowB F)) (results_cell_row Tryd.results19 _ _ w.heap.size 23 (rowB F) (0, 0) _ rfl (setRow_heap _ _ _ _ _ _ HQ.out) Tryd.underlying23 rfl HZ.out) rfl ⟨by rw [HF.out], below_setRow HB5.out (Nat.le_refl _) _⟩
end Go.Proofs.YtpaffncdfldnmaaDoor
