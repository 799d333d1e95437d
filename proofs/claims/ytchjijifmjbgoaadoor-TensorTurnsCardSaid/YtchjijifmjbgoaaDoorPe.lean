import Derived.Test.YtchjijifmjbgoaaDoorPd
import Derived.Test.YtchjijifmjbgoaaDoorJe
namespace Go.Proofs.YtchjijifmjbgoaaDoor.Tn
set_option maxRecDepth 100000
open Go.ChangeShapes Go.WideShapes Go.ChangeAt Go.RowKit Go.Proofs.YtchjijifmjbgoaaDoor.Fx Go.Proofs.YtchjijifmjbgoaaDoor.Rf

/-! ### the landed code: numbers of pairs -/
def flatP (f : Nat → Int × Int) (k : Nat) : List Int := (List.range k).flatMap fun j => [(f j).1, (f j).2]
theorem flatP_succ (f : Nat → Int × Int) (k : Nat) : flatP f (k + 1) = flatP f k ++ [(f k).1, (f k).2] := by
  unfold flatP
  rw [List.range_succ, List.flatMap_append]
  simp
theorem flatP_length (f : Nat → Int × Int) : ∀ k, (flatP f k).length = 2 * k
  | 0 => rfl
  | k + 1 => by rw [flatP_succ, List.length_append, flatP_length f k]; simp; omega
/-- while pairs are put one behind the other -/
structure NuS (w : World) (f : Nat → Int × Int) (k : Nat) (v : Value) (W : World) : Prop where
  below : Below w.heap.size w W
  own : W.ownsRow w.heap.size 3 1 v (2 * k) ((flatP f k).map (Value.int .i64))
set_option maxHeartbeats 4000000 in
theorem numbers_any (w : World) (g n : Nat) (f : Nat → Int × Int) (hn : n ≤ 256) (hr : RowP w g ((List.range n).map f)) :
    Calls Tryd.prog 59 #[.slice (some ⟨g, 0, none⟩) n n] w fun e w' => ∃ sp cap, e = .returned (.slice sp (2 * n) cap) ∧ Nums w' sp cap (flatP f n) ∧ Below w.heap.size w w' := by
  have HR := Lib.hid hr
  have hcap : ((2 * n : Nat) : Int) = 2 * (n : Int) := by omega
  have HCp := Lib.hid hcap
  clear hr hcap
  go_enter Tryd.func59, Tryd.ntmps59
  go_wp2_with (refine wpList_make0 22 3 8 (.int .i64 0) Tryd.underlying22 info3 (by decide) rfl (.const (.int .i64 0)) (.tmp 8) rfl w.heap.size (2 * n) rfl (by rw [HCp.out]; rfl) (by omega) (Nat.le_refl _) ?_)
  intro W ho hg
  have HS : Hid (NuS w f 0 (.slice (some ⟨w.heap.size, 0, none⟩) 0 (2 * n)) W) := Lib.hid ⟨Below.ofGrown hg (Nat.le_refl _) (fun k hk => by cases hk), ho⟩
  clear ho hg
  go_wp2
  go_loopw [3, 12] (fun v t wr => ∃ (k : Nat), k ≤ n ∧ t = .int .i64 k ∧ NuS w f k v wr) (fun _ t _ => n - (intOf t).toNat)
  case atStart => exact ⟨0, by omega, rfl, HS.out⟩
  case round =>
    clear HS
    obtain ⟨k, hk, rfl, hS⟩ := hrel
    have HS := Lib.hid hS
    clear hS
    by_cases hlt : k < n
    · have hdt : decide (k < n) = true := by simp; omega
      have hlo := (HR.out.below HS.out.below).lies k (by simpa using hlt)
      rw [show ((List.range n).map f).getD k (0, 0) = f k by simp [hlt]] at hlo
      have HF := Lib.hid (flatP_succ f k)
      obtain ⟨p, hp⟩ : ∃ p, f k = p := ⟨_, rfl⟩
      rw [hp] at hlo HF
      obtain ⟨x, y⟩ := p
      dsimp only [pv] at hlo
      have hsz := HS.out.below.size
      obtain ⟨sv, cv, rfl, _, _⟩ := own_nums HS.out.own
      clear hp
      have HBz : Hid (Below wr.heap.size wr (wr.alloc (.cells #[.int .i64 x, .int .i64 y] 72))) := Lib.hid ((Below.refl _ _).alloc (Nat.le_refl _) _)
      have HOw := Lib.hid (owns_below HS.out.own HBz.out)
      have HBa := Lib.hid (HS.out.below.trans (HBz.out.mono hsz))
      have hk9 : 2 * k ≤ 999998 := by omega
      have hsz2 := HBa.out.size
      go_wp2_with (first
        | (refine wpList_valH rfl (.pointer (some ⟨g, k * 2, none⟩)) (exec_pairT_at (.tmp 10) (.tmp 12) rfl g n n k rfl rfl hlt) ?_)
        | (refine wpList_load_mid rfl 72 (.tmp 14) rfl g (k * 2) rfl [.int .i64 x, .int .i64 y] _ hlo Tryd.underlying72 rfl size_pairT2 ?_)
        | (refine wpList_push2 (W := wr.alloc (.cells #[.int .i64 x, .int .i64 y] 72)) rfl (.tmp 16) (.tmp 21) rfl w.heap.size (.slice sv (2 * k) cv) (2 * k) (flatP f k) x y rfl HOw.out (by rw [World.size_alloc]; rfl) hk9 hsz2 ?_; intro v2 w2 hown2 hb2; have HO2 := Lib.hid hown2; have HB2 := Lib.hid (HBa.out.trans hb2); clear hown2 hb2))
      go_wp2
      go_roundw
      case rel => exact ⟨k + 1, by omega, by go_num, HB2.out, by rw [HF.out]; exact HO2.out⟩
      case measure => simp [intOf]; omega
    · obtain rfl : k = n := by omega
      have hdf : decide (k < k) = false := by simp
      obtain ⟨sp2, cap2, e2, _, hnum⟩ := own_nums HS.out.own
      subst e2
      have HNu := Lib.hid hnum
      have HB := Lib.hid HS.out.below
      clear hnum HS
      go_wp2
      go_ret
      exact ⟨sp2, cap2, rfl, HNu.out, HB.out⟩
/-! ### pairs that are gone through together -/
/-- while a pair is made of each place -/
structure TgP (w : World) (R : Nat → Int × Int) (i n : Nat) (hs : List (Int × Int)) (W : World) : Prop where
  below : Below w.heap.size w W
  made : RowP W w.heap.size (mkP R i n)
  here : RowP W (w.heap.size + 1) hs
  len : hs.length = 2
section
variable {w : World} {R : Nat → Int × Int} {i n : Nat} {hs : List (Int × Int)} {W W' : World}
theorem TgP.later (h : TgP w R i n hs W) (hb : Below W.heap.size W W') : TgP w R i n hs W' := ⟨h.below.trans (hb.mono h.below.size), h.made.below hb, h.here.below hb, h.len⟩
theorem TgP.setHere (h : TgP w R i n hs W) (k : Nat) (hk : k < 2) (x : Int × Int) : TgP w R i n (hs.set k x) (W.setCells (w.heap.size + 1) (k * 2) (pv x)) :=
  ⟨belowCellsP _ _ _ (by omega) h.below, h.made.kept (heap_setCells_neP _ _ _ _ (by omega)), h.here.set k (by rw [h.len]; exact hk) x, by rw [List.length_set]; exact h.len⟩
theorem TgP.setMade (h : TgP w R i n hs W) (hi : i < n) : TgP w R (i + 1) n hs (W.setCells w.heap.size (i * 2) (pv (R i))) :=
  ⟨belowCellsP _ _ _ (Nat.le_refl _) h.below, by rw [← mkP_set R hi]; exact h.made.set i (by rw [mkP_length R (by omega)]; exact hi) (R i), h.here.kept (heap_setCells_neP _ _ _ _ (by omega)), h.len⟩
end
/-- two rows of pairs, as they are handed on -/
structure TwoP (w : World) (c : Nat) (G : Nat → Nat) (n : Nat) (L : Nat → Nat → Int × Int) (W : World) : Prop where
  cell : ∀ k, k < 2 → W.cell? ⟨c, k, none⟩ = some (.slice (some ⟨G k, 0, none⟩) n n)
  row : ∀ k, k < 2 → RowP W (G k) ((List.range n).map (L k))
theorem TwoP.below {w W W' : World} {c : Nat} {G : Nat → Nat} {n : Nat} {L : Nat → Nat → Int × Int} (h : TwoP w c G n L W) (hb : Below W.heap.size W W') : TwoP w c G n L W' :=
  ⟨fun k hk => below_cell hb (h.cell k hk), fun k hk => (h.row k hk).below hb⟩
def AnsP (w : World) (n : Nat) (R : Nat → Int × Int) (err : Int) (e : Ending) (w' : World) : Prop :=
  ∃ v, e = .returned (.tuple #[v, .int .i64 err]) ∧ (err = 0 → v = .slice (some ⟨w.heap.size, 0, none⟩) n n ∧ RowP w' w.heap.size ((List.range n).map R)) ∧ Below w.heap.size w w'
theorem take_snocP (l : List (Int × Int)) (k : Nat) (h : k < l.length) : l.take (k + 1) = l.take k ++ [l.getD k (0, 0)] := take_snocA l k h
set_option maxHeartbeats 4000000 in
theorem tog_pairs (w : World) (g : FuncId) (c n : Nat) (hn : n ≤ 256) (G : Nat → Nat) (L : Nat → Nat → Int × Int) (hv : TwoP w c G n L w) (R : Nat → Int × Int) (E : Nat → Int)
    (eg : ∀ args w, (callFunc g args).run Tryd.prog w = .ok (.enter g args) w)
    (hf : ∀ i, i < n → ∀ W b, Below w.heap.size w W → RowP W b [L 0 i, L 1 i] → Calls Tryd.prog g #[.slice (some ⟨b, 0, none⟩) 2 2] W fun e w' => e = .returned (.tuple #[.agg (pairC (R i)), .int .i64 (E i)]) ∧ Below W.heap.size W w') :
    Calls Tryd.prog 55 #[.func (.func g) #[] #[], .slice (some ⟨c, 0, none⟩) 2 2] w (AnsP w n R (firstN E n)) := by
  have HV := Lib.hid hv
  have HF := Lib.hid hf
  have hc0 := hv.cell 0 (by omega)
  clear hv hf
  go_enter Tryd.func55, Tryd.ntmps55
  go_wp2
  go_step3
  go_wp2_with (refine wpList_makeP rfl (.tmp 15) (.tmp 15) rfl n rfl rfl (by omega) ?_)
  intro W1 hr1 hz1 hb1
  rw [← mkP_zero R n] at hr1
  have HR1 := Lib.hid hr1
  have HB1 := Lib.hid hb1
  have HZ1 := Lib.hid hz1
  clear hr1 hb1 hz1 hc0
  go_wp2_with (refine wpList_makeP rfl (.tmp 18) (.tmp 18) rfl 2 rfl rfl (by omega) ?_)
  intro W hr2 _ hb2
  rw [HZ1.out] at hr2 ⊢
  have HW : Hid (TgP w R 0 n (List.replicate 2 (0, 0)) W) := Lib.hid ⟨HB1.out.trans (hb2.mono HB1.out.size), HR1.out.below hb2, hr2, rfl⟩
  clear hr2 hb2 HR1 HB1 HZ1
  go_wp2
  go_step3
  go_wp2
  go_loopw [6, 8, 22] (fun md e t wr => ∃ (i : Nat) (hs : List (Int × Int)), i ≤ n ∧ md = .slice (some ⟨w.heap.size, 0, none⟩) n n ∧ t = .int .i64 i ∧ e = .int .i64 0 ∧ (∀ j, j < i → E j = 0) ∧ TgP w R i n hs wr) (fun _ _ t _ => n - (intOf t).toNat)
  case atStart => exact ⟨0, _, by omega, rfl, rfl, rfl, fun j hj => absurd hj (by omega), HW.out⟩
  case round =>
    obtain ⟨i, hs0, hi, rfl, rfl, rfl, hE, hS⟩ := hrel
    have HE := Lib.hid hE
    have HS := Lib.hid hS
    clear hE hS HW
    by_cases hlt : i < n
    · have hdt : decide (i < n) = true := by simp; omega
      go_wp2
      go_loopw [27] (fun t wr => ∃ (k : Nat) (hs : List (Int × Int)), k ≤ 2 ∧ t = .int .i64 k ∧ hs.take k = [L 0 i, L 1 i].take k ∧ TgP w R i n hs wr) (fun t _ => 2 - (intOf t).toNat)
      case atStart => exact ⟨0, hs0, by omega, rfl, rfl, HS.out⟩
      case round =>
        clear HS
        obtain ⟨k, hs, hk, rfl, hT, hS⟩ := hrel
        have HS := Lib.hid hS
        have HT := Lib.hid hT
        clear hS hT
        by_cases hlt2 : k < 2
        · have hdt2 : decide ((k : Int) < 2) = true := by simp; omega
          have hV := HV.out.below HS.out.below
          have hc := hV.cell k hlt2
          have hlo := (hV.row k hlt2).lies i (by simpa using hlt)
          rw [show ((List.range n).map (L k)).getD i (0, 0) = L k i by simp [hlt]] at hlo
          have HN2 := Lib.hid (HS.out.setHere k hlt2 (L k i))
          have HTh := Lib.hid (HS.out.here.there k (by rw [HS.out.len]; exact hlt2))
          have HT3 : Hid ((hs.set k (L k i)).take (k + 1) = [L 0 i, L 1 i].take (k + 1)) := Lib.hid (by
            rw [take_snocP [L 0 i, L 1 i] k (by simpa using hlt2), take_snocP (hs.set k (L k i)) k (by rw [List.length_set, HS.out.len]; exact hlt2), List.take_set_of_le (Nat.le_refl _), HT.out]
            congr 2
            have hl := HS.out.len
            rcases k with _ | _ | k
            · simp [hl]
            · simp [hl]
            · omega)
          obtain ⟨G0, hG⟩ : ∃ G0, G k = G0 := ⟨_, rfl⟩
          obtain ⟨p, hp⟩ : ∃ p, L k i = p := ⟨_, rfl⟩
          rw [hG] at hc hlo
          rw [hp] at hlo HN2 HT3
          obtain ⟨x, y⟩ := p
          dsimp only [pv] at hlo
          clear hG hp hV
          go_wp2_with (first
            | (refine wpList_valH rfl (.pointer (some ⟨G0, i * 2, none⟩)) (exec_pairT_at (.tmp 34) (.tmp 35) rfl G0 n n i rfl rfl hlt) ?_)
            | (refine wpList_load_mid rfl 72 (.tmp 36) rfl G0 (i * 2) rfl [.int .i64 x, .int .i64 y] _ hlo Tryd.underlying72 rfl size_pairT2 ?_)
            | (refine wpList_valH rfl (.pointer (some ⟨w.heap.size + 1, k * 2, none⟩)) (exec_pairT_at (.tmp 32) (.tmp 33) rfl (w.heap.size + 1) 2 2 k rfl rfl hlt2) ?_)
            | (refine wpList_store_mid rfl 72 (.tmp 38) (.tmp 37) rfl (w.heap.size + 1) (k * 2) #[.int .i64 x, .int .i64 y] rfl rfl HTh.out size_pairT (one_xy x y) ?_))
          go_wp2
          clear hc hlo
          go_roundw
          case rel => exact ⟨k + 1, _, by omega, by go_num, HT3.out, HN2.out⟩
          case measure => simp [intOf]; omega
        · obtain rfl : k = 2 := by omega
          have hdf : decide (((2 : Nat) : Int) < 2) = false := by simp
          have hcol : hs = [L 0 i, L 1 i] := by
            have := HT.out
            rwa [List.take_of_length_le (by rw [HS.out.len]; exact Nat.le_refl _), List.take_of_length_le (by simp)] at this
          subst hcol
          have HC := Lib.hid (HF.out i hlt wr (w.heap.size + 1) HS.out.below HS.out.here)
          have hlen := mkP_length R (i := i) (n := n) (by omega)
          clear hlt2
          obtain ⟨r, hr⟩ : ∃ r, R i = r := ⟨_, rfl⟩
          have HRr := Lib.hid hr
          rw [hr] at HC
          obtain ⟨x, y⟩ := r
          dsimp only [pairC] at HC
          clear hr
          by_cases hEi : E i = 0
          · have HE2 : Hid (∀ j, j < i + 1 → E j = 0) := Lib.hid (fun j hj => by
              rcases Nat.lt_or_ge j i with h | h
              · exact HE.out j h
              · obtain rfl : j = i := by omega
                exact hEi)
            rw [hEi] at HC
            clear hEi
            go_wp2_with (first
              | (refine HC.out.mono ?_; rintro e w1 ⟨rfl, hb1⟩; have HS1 := Lib.hid (HS.out.later hb1); clear hb1)
              | (refine wpList_valH rfl (.pointer (some ⟨w.heap.size, i * 2, none⟩)) (exec_pairT_at (.tmp 41) (.tmp 42) rfl w.heap.size n n i rfl rfl hlt) ?_)
              | (refine wpList_store_mid rfl 72 (.tmp 48) (.tmp 46) rfl w.heap.size (i * 2) #[.int .i64 x, .int .i64 y] rfl rfl (HS1.out.made.there i (by rw [hlen]; exact hlt)) size_pairT (one_xy x y) ?_))
            have HS2 := Lib.hid (HS1.out.setMade hlt)
            rw [HRr.out] at HS2
            go_wp2
            go_roundw
            case rel => exact ⟨i + 1, _, by omega, rfl, by go_num, rfl, HE2.out, HS2.out⟩
            case measure => simp [intOf]; omega
          · have hne := ne0 hEi
            have HX := Lib.hid (firstN_at hlt HE.out hEi)
            obtain ⟨z, hz⟩ : ∃ z, E i = z := ⟨_, rfl⟩
            have HQ := Lib.hid hz
            have HNZ := Lib.hid hEi
            rw [hz] at HC hne
            clear hEi hz
            go_wp2_with (first
              | (refine HC.out.mono ?_; rintro e w1 ⟨rfl, hb1⟩; have HS1 := Lib.hid (HS.out.later hb1); clear hb1)
              | (refine wpList_valH rfl (.pointer (some ⟨w.heap.size, i * 2, none⟩)) (exec_pairT_at (.tmp 41) (.tmp 42) rfl w.heap.size n n i rfl rfl hlt) ?_)
              | (refine wpList_store_mid rfl 72 (.tmp 48) (.tmp 46) rfl w.heap.size (i * 2) #[.int .i64 x, .int .i64 y] rfl rfl (HS1.out.made.there i (by rw [hlen]; exact hlt)) size_pairT (one_xy x y) ?_))
            have HS2 := Lib.hid (HS1.out.setMade hlt)
            rw [HRr.out] at HS2
            go_wp2
            rw [Exit.noGoto_ret]
            go_ret2
            rw [HX.out]
            exact ⟨.slice none 0 0, by rw [HQ.out]; rfl, fun h => absurd h HNZ.out, HS2.out.below⟩
    · obtain rfl : i = n := by omega
      have hdf : decide (i < i) = false := by simp
      have HX := Lib.hid (firstN_all HE.out)
      go_wp2
      rw [Exit.noGoto_ret]
      go_ret2
      rw [HX.out]
      exact ⟨_, rfl, fun _ => ⟨rfl, by rw [← mkP_all]; exact HS.out.made⟩, HS.out.below⟩
end Go.Proofs.YtchjijifmjbgoaaDoor.Tn
