import Derived.Test.YtighmhoekbnagaaDoorRb
import Derived.Test.YtighmhoekbnagaaDoorFm
namespace Go.Proofs.YtighmhoekbnagaaDoor

section
open Go.ChangeShapes Go.WideShapes Go.ChangeAt Go.RowKit

/-! ### the reference's Half, Deep and Fold, of any n -/
set_option maxRecDepth 100000 in
theorem halfW_any (n : Nat) (w : World) (h2 : 2 ≤ n) (hn : n ≤ 9223372036854775807) :
    Calls Tryd.prog 35 #[.int .i64 n] w fun e w' => ∃ k h : Nat, e = .returned (.int .i64 k) ∧ 2 ^ h = k ∧ k < n ∧ n ≤ 2 * k ∧ Below w.heap.size w w' := by
  go_enter Tryd.func35, Tryd.ntmps35
  go_wp2
  go_loopw [3] (fun v wr => ∃ k : Nat, (∃ h, 2 ^ h = k) ∧ k < n ∧ v = .int .i64 k ∧ wr = w) (fun v _ => n - (intOf v).toNat)
  case atStart => exact ⟨1, ⟨0, rfl⟩, by omega, rfl, rfl⟩
  case round =>
    obtain ⟨k, hp, hk, rfl, rfl⟩ := hrel
    have HPw := Lib.hid hp
    have hk0 : 0 < k := by obtain ⟨h, rfl⟩ := hp; exact pow_pos2 h
    clear hp
    by_cases hlt : (k : Int) < (n : Int) - (k : Int)
    · have hdt : decide ((k : Int) < (n : Int) - (k : Int)) = true := by simpa using hlt
      go_wp2
      go_roundw
      case rel => exact ⟨k * 2, by obtain ⟨h, hh⟩ := HPw.out; exact ⟨h + 1, by rw [Nat.pow_succ, hh]⟩, by omega, by go_num, trivial⟩
      case measure => simp [intOf]; omega
    · have hdt : decide ((k : Int) < (n : Int) - (k : Int)) = false := by simpa using hlt
      go_wp2
      go_ret
      obtain ⟨h, hh⟩ := HPw.out
      exact ⟨k, rfl, ⟨h, hh⟩, by omega, by omega, Below.refl _ _⟩
theorem dp_lt2 (n i : Nat) (h : n < 2) : dp 63 n i = 0 := by
  rw [dp_any (H := 63) (K := 0) i (by omega) (by omega)]; rfl
theorem dp_half (n i h k : Nat) (hh : 2 ^ h = k) (hk : k < n) (h2 : n ≤ 2 * k) (hn : n ≤ 9223372036854775807) : dp 63 n i = if i < k then dp 63 k i + 1 else dp 63 (n - k) (i - k) + 1 := by
  have e : n ≤ 2 ^ (h + 1) := by rw [Nat.pow_succ, hh]; omega
  have e2 : n - k ≤ 2 ^ h := by omega
  rw [dp_any (H := 63) (K := h + 1) i (by omega) e, dp_succ, hh, if_neg (by omega), dp_any (H := h) (K := 63) i (by omega) (by omega), dp_any (H := h) (K := 63) (i - k) e2 (by omega)]
theorem fd_lt2 (n i : Nat) (d : List Int) (q : List (List Int)) (h : n < 2) : fd nodeD 63 n i d q = d := by
  rw [fd_any nodeD (H := 63) (K := 0) i d q (by omega) (by omega)]; rfl
theorem fd_half (n i h k : Nat) (d : List Int) (q : List (List Int)) (hh : 2 ^ h = k) (hk : k < n) (h2 : n ≤ 2 * k) (hn : n ≤ 9223372036854775807) : fd nodeD 63 n i d q = if i < k then nodeD (fd nodeD 63 k i d q.dropLast) (q.getLastD []) else nodeD (q.getLastD []) (fd nodeD 63 (n - k) (i - k) d q.dropLast) := by
  have e : n ≤ 2 ^ (h + 1) := by rw [Nat.pow_succ, hh]; omega
  have e2 : n - k ≤ 2 ^ h := by omega
  rw [fd_any nodeD (H := 63) (K := h + 1) i d q (by omega) e, fd_succ, hh, if_neg (by omega), fd_any nodeD (H := h) (K := 63) i d q.dropLast (by omega) (by omega), fd_any nodeD (H := h) (K := 63) (i - k) d q.dropLast e2 (by omega)]
theorem fd_32 : ∀ (H n i : Nat) (d : List Int) (q : List (List Int)), d.length = 32 → (fd nodeD H n i d q).length = 32
  | 0, _, _, _, _, h => h
  | H + 1, n, i, d, q, h => by
    rw [fd_succ]
    split
    · exact fd_32 H n i d q h
    · split <;> exact nodeD_length _ _
theorem fd_rng : ∀ (H n i : Nat) (d : List Int) (q : List (List Int)), rng d → rng (fd nodeD H n i d q)
  | 0, _, _, _, _, h => h
  | H + 1, n, i, d, q, h => by
    rw [fd_succ]
    split
    · exact fd_rng H n i d q h
    · split <;> exact rng_sum _
set_option maxRecDepth 100000 in
set_option maxHeartbeats 4000000 in
theorem deep_upto : ∀ (m n i : Nat) (w : World), n < m → n ≤ 9223372036854775807 → i < n →
    Calls Tryd.prog 21 #[.int .i64 n, .int .i64 i] w fun e w' => e = .returned (.int .i64 (dp 63 n i : Nat)) ∧ Below w.heap.size w w'
  | 0, _, _, _, h, _, _ => absurd h (by omega)
  | m + 1, n, i, w, hm, hn, hi => by
    by_cases h2 : n < 2
    · have hd : decide ((n : Int) < 2) = true := by simp; omega
      rw [dp_lt2 n i h2]
      go_enter Tryd.func21, Tryd.ntmps21
      go_wp2
      go_ret
      exact ⟨rfl, Below.refl _ _⟩
    · have hd : decide ((n : Int) < 2) = false := by simp; omega
      have HH := Lib.hid (fun W => halfW_any n W (by omega) hn)
      have HI := Lib.hid (fun (n' i' : Nat) (W : World) (h : n' < m) (hb : n' ≤ n) (h' : i' < n') => deep_upto m n' i' W h (by omega) h')
      have HD := Lib.hid (fun h k a b c => dp_half n i h k a b c hn)
      have hle := dp_le 63
      obtain ⟨f, hf⟩ : ∃ f, dp 63 = f := ⟨_, rfl⟩
      rw [hf] at HI HD hle ⊢
      clear hf
      go_enter Tryd.func21, Tryd.ntmps21
      go_upto_region 4 with (go_at_call 35; refine (HH.out _).mono ?_; rintro e w1 ⟨k, h, rfl, hh, hk, hk2, hb1⟩)
      have hs := HD.out h k hh hk hk2
      have hk0 : 0 < k := by rw [← hh]; exact pow_pos2 h
      have HB := Lib.hid hb1
      clear hb1 hh
      by_cases hik : i < k
      · have hd2 : decide ((i : Int) < (k : Int)) = true := by simp; omega
        rw [if_pos hik] at hs
        have hc := HI.out k i w1 (by omega) (by omega) hik
        have hl := hle k i
        obtain ⟨L, hL⟩ : ∃ L, f k i = L := ⟨_, rfl⟩
        rw [hL] at hc hl hs
        have HS := Lib.hid hs
        have HC := Lib.hid hc
        clear hs hc hL
        have e1 : (1 : Int) + (L : Int) = ((L + 1 : Nat) : Int) := by omega
        go_wp2_with (go_at_call 21; refine HC.out.mono ?_; rintro e w2 ⟨rfl, hb2⟩)
        go_ret
        exact ⟨by rw [HS.out]; rfl, HB.out.trans (hb2.mono HB.out.size)⟩
      · have hd2 : decide ((i : Int) < (k : Int)) = false := by simp; omega
        rw [if_neg hik] at hs
        have hc := HI.out (n - k) (i - k) w1 (by omega) (by omega) (by omega)
        have hl := hle (n - k) (i - k)
        obtain ⟨L, hL⟩ : ∃ L, f (n - k) (i - k) = L := ⟨_, rfl⟩
        rw [hL] at hc hl hs
        have HS := Lib.hid hs
        have e2 : (n : Int) - (k : Int) = ((n - k : Nat) : Int) := by omega
        have e3 : (i : Int) - (k : Int) = ((i - k : Nat) : Int) := by omega
        rw [← e2, ← e3] at hc
        have HC := Lib.hid hc
        clear hs hc hL e2 e3
        have e1 : (1 : Int) + (L : Int) = ((L + 1 : Nat) : Int) := by omega
        go_wp2_with (go_at_call 21; refine HC.out.mono ?_; rintro e w2 ⟨rfl, hb2⟩)
        go_ret
        exact ⟨by rw [HS.out]; rfl, HB.out.trans (hb2.mono HB.out.size)⟩
theorem deep_any (n i : Nat) (w : World) (hi : i < n) (hn : n ≤ 9223372036854775807) :
    Calls Tryd.prog 21 #[.int .i64 n, .int .i64 i] w fun e w' => e = .returned (.int .i64 (dp 63 n i : Nat)) ∧ Below w.heap.size w w' := deep_upto (n + 1) n i w (by omega) hn hi
end

section
open Go.ChangeShapes Go.WideShapes Go.ChangeAt Go.RowKit

theorem exec_call4 {P : Program} {a : Act} {o : Oper} {W : World} (f : FuncId) (x y z t : Operand) (ats : Array TypeId) (u v s r : Value) (ho : o.op = .call { callee := .value (.func f), args := #[x, y, z, t], argTypes := ats }) (hx : a.eval x = u) (hy : a.eval y = v) (hz : a.eval z = s) (ht : a.eval t = r)
    (hf : (callFunc f #[u, v, s, r]).run P W = .ok (.enter f #[u, v, s, r]) W) : (execOp a.eval o).run P W = .ok (.enter f #[u, v, s, r]) W :=
  exec_call f #[x, y, z, t] ats #[u, v, s, r] ho (by simp [hx, hy, hz, ht]) hf
theorem cfRefFold (vs : Array Value) (W : World) : (callFunc 22 vs).run Tryd.prog W = .ok (.enter 22 vs) W := cf Tryd.func22 (by kernel_rfl) (by kernel_rfl) vs W
theorem run_lessK (n k : Nat) (W : World) (h : k ≤ n) (hn : n ≤ 9223372036854775807) : (binOp .sub 3 (.int .i64 (n : Int)) (.int .i64 (k : Int))).run Tryd.prog W = .ok (.int .i64 ((n - k : Nat) : Int)) W := by
  have e : (n : Int) - (k : Int) = ((n - k : Nat) : Int) := by omega
  have hwk : IntKind.i64.wrap ((n - k : Nat) : Int) = ((n - k : Nat) : Int) := IntWalk.i64_in _ (by omega)
  simp [go_sem, e, hwk]
set_option maxRecDepth 100000 in
set_option maxHeartbeats 4000000 in
theorem refFold_one (hblk : BlockSpec) (n i : Nat) (w : World) (s1 s2 : Option Addr) (n1 n2 c1 c2 : Nat) (l : List Int) (h2 : n < 2) (hl1 : l.length = n1) (hb : Byt w s1 c1 l) (hs : n1 ≤ 100) (hr : rng l) :
    Calls Tryd.prog 22 #[.int .i64 n, .int .i64 i, .slice s1 n1 c1, .slice s2 n2 c2] w fun e w' => e = .returned (.agg (rowB (leafD l))) ∧ Below w.heap.size w w' := by
  have hd : decide ((n : Int) < 2) = true := by simp; omega
  have HL := Lib.hid (fun W (hB : Below w.heap.size w W) => refLeaf_any hblk W s1 n1 c1 l hl1 (hb.below hB) hs hr)
  have h32 := leafD_length l
  obtain ⟨F, hF⟩ : ∃ F, leafD l = F := ⟨_, rfl⟩
  rw [hF] at HL h32 ⊢
  have HZ := Lib.hid (row_dig h32)
  have HY := Lib.hid (row_dig0 h32)
  have HX := Lib.hid (rowB_one F)
  clear hF h32 hb hr hblk
  go_enter Tryd.func22, Tryd.ntmps22
  go_upto_region 1 with fail
  refine gen_world (Q := fun w => Code.wp _ _ _ _ w) _ (Res w) (Res.new w _ (by kernel_rfl)) ?_
  intro w1 hr1
  have HR1 := Lib.hid hr1
  clear hr1
  go_wp2_with (first
    | (go_at_call 12; refine (HL.out _ HR1.out.below).mono ?_; rintro e w2 ⟨rfl, hb2⟩; have HR2 := Lib.hid (HR1.out.later hb2); clear hb2)
    | (refine wpList_store_row rfl 24 (.tmp 8) (.tmp 14) rfl w.heap.size (rowB F) rfl rfl 24 _ HR2.out.res HZ.out HY.out HX.out ?_))
  exact bodyPost_ret (v := .agg (rowB F)) (results_cell_row Tryd.results22 _ _ w.heap.size 24 (rowB F) (0, 0) _ rfl (setRow_heap _ _ _ _ _ _ HR2.out.res) Tryd.underlying24 rfl HZ.out) rfl ⟨rfl, below_setRow HR2.out.below (Nat.le_refl _) _⟩
set_option maxRecDepth 100000 in
set_option maxHeartbeats 4000000 in
theorem refFold_many (hblk : BlockSpec) (n i n1 n2 : Nat) (s1 s2 : Option Addr) (c1 c2 : Nat) (D0 : List Int) (q : List (List Int)) (w : World) (mx : Nat) (hmx : n < mx + 1) (hi : i < n) (hn : n ≤ 9223372036854775807) (h2 : 2 ≤ n) (hq : q.length = n2) (hdp : n2 = dp 63 n i) (hQ : Digs w s2 c2 q) (hqr : ∀ d ∈ q, rng d)
    (hD32 : D0.length = 32) (hDr : rng D0)
    (ih : ∀ (n' i' m : Nat) (W : World) (s : Option Addr) (c : Nat) (p : List (List Int)), n' < mx → i' < n' → n' ≤ 9223372036854775807 → Below w.heap.size w W → p.length = m → m = dp 63 n' i' → Digs W s c p → (∀ d ∈ p, rng d) →
      Calls Tryd.prog 22 #[.int .i64 n', .int .i64 i', .slice s1 n1 c1, .slice s m c] W fun e w'' => e = .returned (.agg (rowB (fd nodeD 63 n' i' D0 p))) ∧ Below W.heap.size W w'') :
    Calls Tryd.prog 22 #[.int .i64 n, .int .i64 i, .slice s1 n1 c1, .slice s2 n2 c2] w fun e w'' => e = .returned (.agg (rowB (fd nodeD 63 n i D0 q))) ∧ Below w.heap.size w w'' := by
  have hd : decide ((n : Int) < 2) = false := by simp; omega
  have hn2 : n2 ≤ 63 := by rw [hdp]; exact dp_le 63 n i
  have hge : 1 ≤ n2 := by
    obtain ⟨a, b, c, _⟩ : ∃ h : Nat, 2 ^ h < n ∧ n ≤ 2 * 2 ^ h ∧ True := by
      have key : ∀ m : Nat, 2 ≤ m → ∃ h : Nat, 2 ^ h < m ∧ m ≤ 2 * 2 ^ h ∧ True := by
        intro m
        induction m with
        | zero => intro h; omega
        | succ m ih2 =>
          intro hm
          by_cases h3 : m < 2
          · exact ⟨0, by simp; omega, by simp; omega, trivial⟩
          · obtain ⟨h, h4, h5, _⟩ := ih2 (by omega)
            by_cases h6 : m + 1 ≤ 2 * 2 ^ h
            · exact ⟨h, by omega, h6, trivial⟩
            · exact ⟨h + 1, by rw [Nat.pow_succ]; omega, by rw [Nat.pow_succ]; omega, trivial⟩
      exact key n h2
    rw [hdp, dp_half n i a (2 ^ a) rfl b c hn]
    split <;> omega
  have HI := Lib.hid ih
  have HBk := Lib.hid hblk
  have HH := Lib.hid (fun W => halfW_any n W (by omega) hn)
  have HD := Lib.hid (fun h k a b c => dp_half n i h k a b c hn)
  have HFd := Lib.hid (fun h k a b c => fd_half n i h k D0 q a b c hn)
  obtain ⟨ms, r, rfl⟩ : ∃ ms r, q = ms ++ [r] := ⟨q.dropLast, q.getLast (by rintro rfl; simp at hq; omega), (List.dropLast_concat_getLast _).symm⟩
  rw [List.dropLast_concat, List.getLastD_concat] at HFd
  obtain ⟨m, rfl⟩ : ∃ m, n2 = m + 1 := ⟨n2 - 1, by omega⟩
  have hms : ms.length = m := by simpa using hq
  obtain ⟨c, o, rfl, hrg0, hr32⟩ := hQ.last
  rw [hms] at hrg0
  have hQ := hQ.init
  have hrr : rng r := hqr r (by simp)
  have hmr : ∀ d ∈ ms, rng d := fun d hd => hqr d (by simp [hd])
  have hc2 : m ≤ c2 := by have := hQ.le; omega
  have hrg : ∀ W, Below w.heap.size w W → W.rangeAt c (o + 32 * m) (r.map (Value.int .u8)) := fun W hB j v hv => (hB.cell (block_lt_of_cell (hrg0 j v hv))).trans (hrg0 j v hv)
  obtain ⟨s2, hs2⟩ : ∃ s, (some ⟨c, o, none⟩ : Option Addr) = s := ⟨_, rfl⟩
  have HC1 := Lib.hid (run_headZ 33 24 32 Tryd.underlying33 size25 s2 (m + 1) c2 m hc2)
  rw [← hs2] at HC1
  rw [hs2] at hQ
  have HDp := Lib.hid hdp
  have hm1 : ((m + 1 : Nat) : Int) - 1 = (m : Int) := by omega
  clear hrg0 hqr hq ih hblk hdp
  rw [← hs2] at hQ
  clear hs2
  go_enter Tryd.func22, Tryd.ntmps22
  go_upto_region 1 with fail
  refine gen_world (Q := fun w => Code.wp _ _ _ _ w) _ (Res w) (Res.new w _ (by kernel_rfl)) ?_
  intro w0 hr0
  have HR0 := Lib.hid hr0
  clear hr0
  go_upto_region 5 with (go_at_call 35; refine (HH.out _).mono ?_; rintro e w1 ⟨k, h, rfl, hh, hk, hk2, hb1⟩; have HR1 := Lib.hid (HR0.out.later hb1); clear hb1)
  have hs := HFd.out h k hh hk hk2
  have hdp := HDp.out.trans (HD.out h k hh hk hk2)
  have hk0 : 0 < k := by rw [← hh]; exact pow_pos2 h
  clear hh
  have hw : ∀ W, Below w1.heap.size w1 W → Below w.heap.size w W := fun W h => HR1.out.below.trans (h.mono HR1.out.below.size)
  by_cases hik : i < k
  · rw [if_pos hik] at hdp
    have hd2 : decide ((i : Int) < (k : Int)) = true := by simp; omega
    rw [if_pos hik] at hs
    have HI1 := Lib.hid (fun W (hB : Below w.heap.size w W) => HI.out k i m W (some ⟨c, o, none⟩) c2 ms (by omega) (by omega) (by omega) hB hms (by omega) (hQ.below hB) hmr)
    have HA32 := fd_32 63 k i D0 ms hD32
    have HAr := fd_rng 63 k i D0 ms hDr
    obtain ⟨A, hA⟩ : ∃ A, fd nodeD 63 k i D0 ms = A := ⟨_, rfl⟩
    rw [hA] at HI1 HA32 HAr hs
    have HNd := Lib.hid (fun W => refNode_any HBk.out W A r HA32 hr32 HAr hrr)
    have hF32 := nodeD_length A r
    obtain ⟨F, hF⟩ : ∃ F, nodeD A r = F := ⟨_, rfl⟩
    rw [hF] at HNd hF32 hs
    have HS := Lib.hid hs
    have HZ := Lib.hid (row_dig hF32)
    have HY := Lib.hid (row_dig0 hF32)
    have HX := Lib.hid (rowB_one F)
    clear hF hs hA hF32 HA32 HAr hdp
    go_upto_region 6 with fail
    refine wp_region_quiet_tail (C := fun W => Below w1.heap.size w1 W) 12 (by kernel_rfl) (by kernel_rfl) ⟨rfl, rfl, rfl, Nat.le_refl _, fun _ _ => rfl⟩ ?_
    simp only [List.take_succ_cons, List.take_zero, List.drop_succ_cons, List.drop_zero]
    refine q_val _ rfl (fun _ _ => rfl) ?_
    simp only [Act.put, List.setIfInBounds_toArray, List.set_cons_succ, List.set_cons_zero]
    refine q_val _ rfl (fun _ _ => rfl) ?_
    simp only [Act.put, List.setIfInBounds_toArray, List.set_cons_succ, List.set_cons_zero]
    refine q_val _ rfl (fun _ _ => rfl) ?_
    simp only [Act.put, List.setIfInBounds_toArray, List.set_cons_succ, List.set_cons_zero]
    refine q_val _ rfl (fun _ _ => rfl) ?_
    simp only [Act.put, List.setIfInBounds_toArray, List.set_cons_succ, List.set_cons_zero]
    refine q_val _ rfl (fun _ _ => rfl) ?_
    simp only [Act.put, List.setIfInBounds_toArray, List.set_cons_succ, List.set_cons_zero]
    refine q_val (.slice (some ⟨c, o, none⟩) m c2) rfl (fun W _ => exec_cut 33 24 (.tmp 26) none (some (.tmp 27)) rfl Tryd.underlying33 _ (HC1.out W)) ?_
    simp only [Act.put, List.setIfInBounds_toArray, List.set_cons_succ, List.set_cons_zero]
    refine q_call 22 #[.int .i64 k, .int .i64 i, .slice s1 n1 c1, .slice (some ⟨c, o, none⟩) m c2] (.agg (rowB A)) rfl (fun _ _ => exec_call4 22 (.tmp 23) (.tmp 24) (.tmp 25) (.tmp 28) #[3, 3, 28, 33] _ _ _ _ rfl rfl rfl rfl rfl (cfRefFold _ _)) (fun W hW => (HI1.out W (hw W hW)).mono fun e W' h => ⟨h.1, hW.trans (h.2.mono hW.size)⟩) ?_
    simp only [Act.put, List.setIfInBounds_toArray, List.set_cons_succ, List.set_cons_zero]
    refine q_val _ rfl (fun _ _ => rfl) ?_
    simp only [Act.put, List.setIfInBounds_toArray, List.set_cons_succ, List.set_cons_zero]
    refine q_val _ rfl (fun _ _ => rfl) ?_
    simp only [Act.put, List.setIfInBounds_toArray, List.set_cons_succ, List.set_cons_zero]
    refine q_val (.pointer (some ⟨c, o + 32 * m, none⟩)) rfl (fun W' _ => exec_dig_at (.tmp 30) (.tmp 31) rfl c o (m + 1) c2 m rfl rfl (by omega)) ?_
    simp only [Act.put, List.setIfInBounds_toArray, List.set_cons_succ, List.set_cons_zero]
    refine q_val (.agg (rowB r)) rfl (fun W' hW' => exec_load_mid (.tmp 32) rfl c (o + 32 * m) rfl r hr32 (hrg W' (hw W' hW'))) ?_
    simp only [Act.put, List.setIfInBounds_toArray, List.set_cons_succ, List.set_cons_zero]
    refine q_call 16 #[.agg (rowB A), .agg (rowB r)] (.agg (rowB F)) rfl (fun _ _ => exec_call2 16 (.tmp 29) (.tmp 33) #[24, 24] _ _ rfl rfl rfl (cfRefNode _ _)) (fun W hW => (HNd.out W).mono fun e W' h => ⟨h.1, hW.trans (h.2.mono hW.size)⟩) ?_
    simp only [Act.put, List.setIfInBounds_toArray, List.set_cons_succ, List.set_cons_zero]
    refine wpQuiet_nil ?_
    intro w2 hw2
    have HR2 := Lib.hid (HR1.out.later hw2)
    clear hw2 hw hrg HI1 HNd
    go_wp2_with (refine wpList_store_row rfl 24 (.tmp 8) (.tmp 34) rfl w.heap.size (rowB F) rfl rfl 24 _ HR2.out.res HZ.out HY.out HX.out ?_)
    exact bodyPost_ret (v := .agg (rowB F)) (results_cell_row Tryd.results22 _ _ w.heap.size 24 (rowB F) (0, 0) _ rfl (setRow_heap _ _ _ _ _ _ HR2.out.res) Tryd.underlying24 rfl HZ.out) rfl ⟨by rw [HS.out], below_setRow HR2.out.below (Nat.le_refl _) _⟩
  · rw [if_neg hik] at hdp
    have hd2 : decide ((i : Int) < (k : Int)) = false := by simp; omega
    rw [if_neg hik] at hs
    have HI1 := Lib.hid (fun W (hB : Below w.heap.size w W) => HI.out (n - k) (i - k) m W (some ⟨c, o, none⟩) c2 ms (by omega) (by omega) (by omega) hB hms (by omega) (hQ.below hB) hmr)
    have HA32 := fd_32 63 (n - k) (i - k) D0 ms hD32
    have HAr := fd_rng 63 (n - k) (i - k) D0 ms hDr
    obtain ⟨A, hA⟩ : ∃ A, fd nodeD 63 (n - k) (i - k) D0 ms = A := ⟨_, rfl⟩
    rw [hA] at HI1 HA32 HAr hs
    have HNd := Lib.hid (fun W => refNode_any HBk.out W r A hr32 HA32 hrr HAr)
    have hF32 := nodeD_length r A
    obtain ⟨F, hF⟩ : ∃ F, nodeD r A = F := ⟨_, rfl⟩
    rw [hF] at HNd hF32 hs
    have HS := Lib.hid hs
    have HZ := Lib.hid (row_dig hF32)
    have HY := Lib.hid (row_dig0 hF32)
    have HX := Lib.hid (rowB_one F)
    clear hF hs hA hF32 HA32 HAr hdp
    have e2 : ∀ W : World, (binOp .sub 3 (.int .i64 (n : Int)) (.int .i64 (k : Int))).run Tryd.prog W = .ok (.int .i64 ((n - k : Nat) : Int)) W := fun W => run_lessK n k W (by omega) hn
    have e3 : ∀ W : World, (binOp .sub 3 (.int .i64 (i : Int)) (.int .i64 (k : Int))).run Tryd.prog W = .ok (.int .i64 ((i - k : Nat) : Int)) W := fun W => run_lessK i k W (by omega) (by omega)
    go_upto_region 7 with fail
    refine wp_region_quiet_tail (C := fun W => Below w1.heap.size w1 W) 16 (by kernel_rfl) (by kernel_rfl) ⟨rfl, rfl, rfl, Nat.le_refl _, fun _ _ => rfl⟩ ?_
    simp only [List.take_succ_cons, List.take_zero, List.drop_succ_cons, List.drop_zero]
    refine q_val _ rfl (fun _ _ => rfl) ?_
    simp only [Act.put, List.setIfInBounds_toArray, List.set_cons_succ, List.set_cons_zero]
    refine q_val _ rfl (fun _ _ => rfl) ?_
    simp only [Act.put, List.setIfInBounds_toArray, List.set_cons_succ, List.set_cons_zero]
    refine q_val (.pointer (some ⟨c, o + 32 * m, none⟩)) rfl (fun W' _ => exec_dig_at (.tmp 35) (.tmp 36) rfl c o (m + 1) c2 m rfl rfl (by omega)) ?_
    simp only [Act.put, List.setIfInBounds_toArray, List.set_cons_succ, List.set_cons_zero]
    refine q_val (.agg (rowB r)) rfl (fun W' hW' => exec_load_mid (.tmp 37) rfl c (o + 32 * m) rfl r hr32 (hrg W' (hw W' hW'))) ?_
    simp only [Act.put, List.setIfInBounds_toArray, List.set_cons_succ, List.set_cons_zero]
    refine q_val _ rfl (fun _ _ => rfl) ?_
    simp only [Act.put, List.setIfInBounds_toArray, List.set_cons_succ, List.set_cons_zero]
    refine q_val _ rfl (fun _ _ => rfl) ?_
    simp only [Act.put, List.setIfInBounds_toArray, List.set_cons_succ, List.set_cons_zero]
    refine q_val (.int .i64 ((n - k : Nat) : Int)) rfl (fun W _ => exec_bin .sub (.tmp 39) (.tmp 40) rfl rfl _ _ _ rfl rfl (e2 W)) ?_
    simp only [Act.put, List.setIfInBounds_toArray, List.set_cons_succ, List.set_cons_zero]
    refine q_val _ rfl (fun _ _ => rfl) ?_
    simp only [Act.put, List.setIfInBounds_toArray, List.set_cons_succ, List.set_cons_zero]
    refine q_val _ rfl (fun _ _ => rfl) ?_
    simp only [Act.put, List.setIfInBounds_toArray, List.set_cons_succ, List.set_cons_zero]
    refine q_val (.int .i64 ((i - k : Nat) : Int)) rfl (fun W _ => exec_bin .sub (.tmp 42) (.tmp 43) rfl rfl _ _ _ rfl rfl (e3 W)) ?_
    simp only [Act.put, List.setIfInBounds_toArray, List.set_cons_succ, List.set_cons_zero]
    refine q_val _ rfl (fun _ _ => rfl) ?_
    simp only [Act.put, List.setIfInBounds_toArray, List.set_cons_succ, List.set_cons_zero]
    refine q_val _ rfl (fun _ _ => rfl) ?_
    simp only [Act.put, List.setIfInBounds_toArray, List.set_cons_succ, List.set_cons_zero]
    refine q_val _ rfl (fun _ _ => rfl) ?_
    simp only [Act.put, List.setIfInBounds_toArray, List.set_cons_succ, List.set_cons_zero]
    refine q_val (.slice (some ⟨c, o, none⟩) m c2) rfl (fun W _ => exec_cut 33 24 (.tmp 46) none (some (.tmp 47)) rfl Tryd.underlying33 _ (HC1.out W)) ?_
    simp only [Act.put, List.setIfInBounds_toArray, List.set_cons_succ, List.set_cons_zero]
    refine q_call 22 #[.int .i64 ((n - k : Nat) : Int), .int .i64 ((i - k : Nat) : Int), .slice s1 n1 c1, .slice (some ⟨c, o, none⟩) m c2] (.agg (rowB A)) rfl (fun _ _ => exec_call4 22 (.tmp 41) (.tmp 44) (.tmp 45) (.tmp 48) #[3, 3, 28, 33] _ _ _ _ rfl rfl rfl rfl rfl (cfRefFold _ _)) (fun W hW => (HI1.out W (hw W hW)).mono fun e W' h => ⟨h.1, hW.trans (h.2.mono hW.size)⟩) ?_
    simp only [Act.put, List.setIfInBounds_toArray, List.set_cons_succ, List.set_cons_zero]
    refine q_call 16 #[.agg (rowB r), .agg (rowB A)] (.agg (rowB F)) rfl (fun _ _ => exec_call2 16 (.tmp 38) (.tmp 49) #[24, 24] _ _ rfl rfl rfl (cfRefNode _ _)) (fun W hW => (HNd.out W).mono fun e W' h => ⟨h.1, hW.trans (h.2.mono hW.size)⟩) ?_
    simp only [Act.put, List.setIfInBounds_toArray, List.set_cons_succ, List.set_cons_zero]
    refine wpQuiet_nil ?_
    intro w2 hw2
    have HR2 := Lib.hid (HR1.out.later hw2)
    clear hw2 hw hrg HI1 HNd
    go_wp2_with (refine wpList_store_row rfl 24 (.tmp 8) (.tmp 50) rfl w.heap.size (rowB F) rfl rfl 24 _ HR2.out.res HZ.out HY.out HX.out ?_)
    exact bodyPost_ret (v := .agg (rowB F)) (results_cell_row Tryd.results22 _ _ w.heap.size 24 (rowB F) (0, 0) _ rfl (setRow_heap _ _ _ _ _ _ HR2.out.res) Tryd.underlying24 rfl HZ.out) rfl ⟨by rw [HS.out], below_setRow HR2.out.below (Nat.le_refl _) _⟩
set_option maxRecDepth 100000 in
set_option maxHeartbeats 4000000 in
theorem refFold_upto (hblk : BlockSpec) (w : World) (s1 : Option Addr) (n1 c1 : Nat) (l : List Int) (hl1 : l.length = n1) (hb : Byt w s1 c1 l) (hs1 : n1 ≤ 100) (hrl : rng l) : ∀ (mx n i n2 : Nat) (w' : World) (s2 : Option Addr) (c2 : Nat) (q : List (List Int)), n < mx → i < n → n ≤ 9223372036854775807 → Below w.heap.size w w' → q.length = n2 → n2 = dp 63 n i → Digs w' s2 c2 q → (∀ d ∈ q, rng d) →
    Calls Tryd.prog 22 #[.int .i64 n, .int .i64 i, .slice s1 n1 c1, .slice s2 n2 c2] w' fun e w'' => e = .returned (.agg (rowB (fd nodeD 63 n i (leafD l) q))) ∧ Below w'.heap.size w' w''
  | 0, _, _, _, _, _, _, _, h, _, _, _, _, _, _, _ => absurd h (by omega)
  | mx + 1, n, i, n2, w', s2, c2, q, hmx, hi, hn, hBw, hq, hdp, hQ, hqr => by
    by_cases h2 : n < 2
    · rw [fd_lt2 n i _ q h2]
      exact refFold_one hblk n i w' s1 s2 n1 n2 c1 c2 l h2 hl1 (hb.below hBw) hs1 hrl
    · have HBk := Lib.hid hblk
      have HI := Lib.hid (fun (n' i' m : Nat) (W : World) (s : Option Addr) (c : Nat) (p : List (List Int)) (h : n' < mx) (h' : i' < n') (hnn : n' ≤ 9223372036854775807) (hB : Below w'.heap.size w' W) (e1 : p.length = m) (e2 : m = dp 63 n' i') (hd : Digs W s c p) (hpr : ∀ d ∈ p, rng d) => refFold_upto hblk w s1 n1 c1 l hl1 hb hs1 hrl mx n' i' m W s c p h h' hnn (hBw.trans (hB.mono hBw.size)) e1 e2 hd hpr)
      have hD32 := leafD_length l
      have hDr : rng (leafD l) := rng_sum _
      obtain ⟨D0, hD0⟩ : ∃ F, leafD l = F := ⟨_, rfl⟩
      rw [hD0] at HI hD32 hDr ⊢
      clear hD0 hblk hb hrl
      exact refFold_many HBk.out n i n1 n2 s1 s2 c1 c2 D0 q w' mx (by omega) hi hn (by omega) hq hdp hQ hqr hD32 hDr HI.out
theorem refFold_any (hblk : BlockSpec) (w : World) (s1 : Option Addr) (n1 c1 : Nat) (l : List Int) (hl1 : l.length = n1) (hb : Byt w s1 c1 l) (hs1 : n1 ≤ 100) (hrl : rng l) (n i n2 : Nat) (s2 : Option Addr) (c2 : Nat) (q : List (List Int)) (hi : i < n) (hn : n ≤ 9223372036854775807) (hq : q.length = n2) (hdp : n2 = dp 63 n i) (hQ : Digs w s2 c2 q) (hqr : ∀ d ∈ q, rng d) :
    Calls Tryd.prog 22 #[.int .i64 n, .int .i64 i, .slice s1 n1 c1, .slice s2 n2 c2] w fun e w'' => e = .returned (.agg (rowB (fd nodeD 63 n i (leafD l) q))) ∧ Below w.heap.size w w'' :=
  refFold_upto hblk w s1 n1 c1 l hl1 hb hs1 hrl (n + 1) n i n2 w s2 c2 q (by omega) hi hn (Below.refl _ _) hq hdp hQ hqr
end

section
open Go.ChangeShapes Go.WideShapes Go.ChangeAt Go.RowKit

/-! ### the reference's Prove -/
section
variable {a : Act} {o : Oper} {W : World}
theorem exec_oneD (x : Operand) (ho : o.op = .buildSlice 33 1 #[(0, x)]) (d : List Int) (hx : a.eval x = .agg (rowB d)) (hd : d.length = 32) : (execOp a.eval o).run Tryd.prog W = .ok (.value (.slice (some ⟨W.heap.size, 0, none⟩) 1 1)) (W.alloc (.cells (rowB d) 24)) := by
  obtain ⟨i0, hi, hz0, hz1, hz2⟩ := info_parts zero24
  unfold execOp
  have hf := Go.Great.fill_whole (s := 32) (by decide) [.agg (rowB d)] ((Array.range (1 * 32)).map ((Value.agg (rowB (zs 32))).cells[· % (Value.agg (rowB (zs 32))).cells.size]!)) (fun v hv => by
    obtain rfl := List.mem_singleton.1 hv
    show (rowB d).size = 32
    rw [rowB_size, hd]) (by simp)
  have hfl : Instr.fill (fun i => some (i * 32, 32)) ((Array.range (1 * 32)).map ((Value.agg (rowB (zs 32))).cells[· % (Value.agg (rowB (zs 32))).cells.size]!)) (#[((0 : Nat), Value.agg (rowB d))] : Array (Nat × Value)).toList = some (rowB d) := by
    refine (Eq.trans ?_ hf).trans ?_
    · rfl
    · rw [show ([Value.agg (rowB d)].flatMap fun v => v.cells.toList) = (rowB d).toList from by rw [List.flatMap_cons, List.flatMap_nil, List.append_nil]; rfl, Array.toArray_toList]
  have hr := run_buildSlice (P := Tryd.prog) W 33 24 1 #[(0, .agg (rowB d))] (rowB d) i0 _ Tryd.underlying33 hi hz0 (by rw [hz1]; decide) (by rw [hz1]; decide) (by rw [hz1]; exact hfl)
  have e : (#[((0 : Nat), x)].map fun (i, x) => (i, a.eval x)) = #[(0, .agg (rowB d))] := by simp [hx]
  simp only [ho, e, Sem.run_bind, hr, Result.andThen_ok, Sem.run_pure]
end
theorem dig_at (w : World) (g : Nat) (d : List Int) (t : TypeId) (fr : Nat × Nat) (h : w.heap[g]? = some (.cells (rowB d) t fr)) : ∀ j u, (dcells [d])[j]? = some u → w.cell? ((⟨g, 0, none⟩ : Addr).add j) = some u := by
  intro j u hu
  rw [add_plain, cell_of_row _ _ _ _ _ _ h, Nat.zero_add, ← hu]
  simp [dcells, rowB]
theorem owns_base {w : World} {b b' : Nat} {e n size : Nat} {v : Value} {xs : List Value} (h : w.ownsRow b e size v n xs) (hb : b' ≤ b) : w.ownsRow b' e size v n xs := by
  refine ⟨h.1, ?_⟩
  rcases h.2 with h | ⟨g, cap, cur, h1, h2, h3⟩
  · exact .inl h
  · exact .inr ⟨g, cap, cur, h1, by omega, h3⟩
theorem cfRefProve (vs : Array Value) (W : World) : (callFunc 19 vs).run Tryd.prog W = .ok (.enter 19 vs) W := cf Tryd.func19 (by kernel_rfl) (by kernel_rfl) vs W
/-- what the two last regions of Prove tell, operation by operation -/
def pvP (B L : Nat) (A : List (List Int)) (R : List Int) (p b : Nat) (X : List Value) (j : Nat) (w : World) (v : Value) : Prop :=
  if j = p then w.ownsRow B 24 32 v L (dcells A) else if j = b then ∃ g, v = .slice (some ⟨g, 0, none⟩) 1 1 ∧ w.heap[g]? = some (.cells (rowB R) 24 (0, 0)) else v = X.getD j undef
def pvV (p b : Nat) (X : List Value) (j : Nat) (v : Value) : Prop := j = p ∨ j = b ∨ v = X.getD j undef
theorem pvP_le {B L : Nat} {A : List (List Int)} {R : List Int} {p b : Nat} {X : List Value} (j : Nat) (w w' : World) (v : Value) (hb : Below w.heap.size w w') (h : pvP B L A R p b X j w v) : pvP B L A R p b X j w' v := by
  unfold pvP at *
  split
  · rename_i hj; rw [if_pos hj] at h; exact owns_below h hb
  · rename_i hj
    rw [if_neg hj] at h
    split
    · rename_i hj2
      rw [if_pos hj2] at h
      obtain ⟨g, h1, h2⟩ := h
      exact ⟨g, h1, (hb.block g (Array.getElem?_eq_some_iff.1 h2).1).trans h2⟩
    · rename_i hj2; rw [if_neg hj2] at h; exact h
theorem pvP_v {B L : Nat} {A : List (List Int)} {R : List Int} {p b : Nat} {X : List Value} (j : Nat) (w : World) (v : Value) (h : pvP B L A R p b X j w v) : pvV p b X j v := by
  unfold pvP at h
  split at h
  · exact .inl ‹_›
  · split at h
    · exact .inr (.inl ‹_›)
    · exact .inr (.inr h)
theorem pvV_eq {p b : Nat} {X : List Value} {j : Nat} {v : Value} (h : pvV p b X j v) (h1 : j ≠ p) (h2 : j ≠ b) : v = X.getD j undef := by
  rcases h with h | h | h
  · exact absurd h h1
  · exact absurd h h2
  · exact h
/-- what is told of a proof -/
def Prv (w : World) (ds : List (List Int)) (e : Ending) (w' : World) : Prop := ∃ v, e = .returned v ∧ w'.ownsRow w.heap.size 24 32 v ds.length (dcells ds) ∧ Below w.heap.size w w'
set_option maxRecDepth 100000 in
theorem refProve_few (w : World) (i : Int) (sp : Option Addr) (n cap : Nat) (hn : n < 2) :
    Calls Tryd.prog 19 #[.int .i64 i, .slice sp n cap] w (Prv w []) := by
  have hd : decide ((n : Int) < 2) = true := by simp; omega
  go_enter Tryd.func19, Tryd.ntmps19
  go_wp2
  go_ret
  exact ⟨_, rfl, World.ownsRow_nil _ _ _ _, Below.refl _ _⟩
set_option maxRecDepth 100000 in
set_option maxHeartbeats 4000000 in
theorem refProve_many (hblk : BlockSpec) (w : World) (i : Nat) (sp : Option Addr) (n cap : Nat) (ls : List (List Int)) (hn : ls.length = n) (hP : Pcs w sp cap ls) (hm : Smal ls) (h2 : 2 ≤ n) (hi : i < n)
    (ih : ∀ (w : World) (i : Nat) (sp : Option Addr) (n' cap : Nat) (ls : List (List Int)), n' < n → ls.length = n' → Pcs w sp cap ls → Smal ls → i < n' → Calls Tryd.prog 19 #[.int .i64 i, .slice sp n' cap] w (Prv w (proofD i ls))) :
    Calls Tryd.prog 19 #[.int .i64 i, .slice sp n cap] w (Prv w (proofD i ls)) := by
  have hn256 : n ≤ 256 := by rw [← hn]; exact hm.many
  have hcap : n ≤ cap := by rw [← hn]; exact hP.le
  have HP := Lib.hid hP
  have HM := Lib.hid hm
  have HI := Lib.hid ih
  have HN := Lib.hid hn
  have HBk := Lib.hid hblk
  clear hP hm ih hn hblk
  have hd : decide ((n : Int) < 2) = false := by simp; omega
  go_enter Tryd.func19, Tryd.ntmps19
  go_upto_region 4 with (go_at_call 35; refine (half_any _ _ h2 hn256).mono ?_; rintro e w1 ⟨k, h, rfl, hh, hk, hk2, hb1⟩; have HB1 := Lib.hid hb1; have HH := Lib.hid hh; clear hb1 hh)
  have hsp := proofD_split i ls h (by rw [HN.out, HH.out]; exact hk) (by rw [HN.out, Nat.pow_succ, HH.out]; omega)
  have hp0 : 0 < k := by rw [← HH.out]; exact pow_pos2 h
  rw [HH.out] at hsp
  have hl1 : (ls.take k).length = k := by rw [List.length_take, HN.out]; omega
  have hl2 : (ls.drop k).length = n - k := by rw [List.length_drop, HN.out]
  have hP1 := HP.out.first k
  have hP2 := HP.out.cut k (by rw [HN.out]; omega)
  have hm1 := HM.out.take k
  have hm2 := HM.out.drop k
  obtain ⟨A, hA⟩ : ∃ A, ls.take k = A := ⟨_, rfl⟩
  obtain ⟨B, hB⟩ : ∃ B, ls.drop k = B := ⟨_, rfl⟩
  rw [hA, hB] at hsp
  rw [hA] at hl1 hP1 hm1
  rw [hB] at hl2 hP2 hm2
  have HC1 := Lib.hid (run_head 22 28 Tryd.underlying22 size28 sp n cap k (by omega))
  have HC2 := Lib.hid (run_cut 22 28 Tryd.underlying22 size28 sp n cap k (by omega))
  have hw : ∀ W, Below w1.heap.size w1 W → Below w.heap.size w W := fun W h => HB1.out.trans (h.mono HB1.out.size)
  clear hA hB HH
  by_cases hik : i < k
  · have hd2 : decide ((i : Int) < (k : Int)) = true := by simp; omega
    rw [if_pos hik] at hsp
    have HSp := Lib.hid hsp
    have HIp := Lib.hid (fun W (hb : Below w.heap.size w W) => HI.out W i sp k cap A hk hl1 (hP1.below hb) hm1 (by omega))
    have HRt := Lib.hid (fun W (hb : Below w.heap.size w W) => refRoot_any HBk.out W (cutA sp cap k) (n - k) (cap - k) B hl2 (hP2.below hb) hm2)
    have hL : (proofD i A).length ≤ 256 := by
      have := pf_length nodeD A.length i (A.map leafD)
      have h4 := dp_le A.length (A.map leafD).length i
      unfold proofD
      omega
    have hr32 := rootD_length B
    obtain ⟨R, hR⟩ : ∃ R, rootD B = R := ⟨_, rfl⟩
    obtain ⟨P, hPp⟩ : ∃ P, proofD i A = P := ⟨_, rfl⟩
    rw [hR] at HRt hr32 HSp
    rw [hPp] at HIp HSp hL
    obtain ⟨L, hLe⟩ : ∃ L, P.length = L := ⟨_, rfl⟩
    rw [hLe] at hL
    have HLe := Lib.hid hLe
    clear hsp hP1 hP2 hm1 hm2 hl1 hl2 hR hPp hLe
    go_upto_region 5 with fail
    refine wp_region_spec (C := fun W => Below w1.heap.size w1 W) (Le := fun w w' => Below w.heap.size w w') 10 (fun j w v => pvP w1.heap.size L P R 4 9 [.int .i64 (i : Nat), .slice sp n cap, .int .i64 (k : Nat), .slice sp k cap, undef, .slice sp n cap, .int .i64 (k : Nat), .slice (cutA sp cap k) (n - k) (cap - k), .agg (rowB R), undef] j w v) (by kernel_rfl) (by kernel_rfl) ⟨rfl, rfl, rfl, Nat.le_refl _, fun _ _ => rfl⟩ (fun j w w' v hb h => pvP_le j w w' v hb h) (pvV 4 9 [.int .i64 (i : Nat), .slice sp n cap, .int .i64 (k : Nat), .slice sp k cap, undef, .slice sp n cap, .int .i64 (k : Nat), .slice (cutA sp cap k) (n - k) (cap - k), .agg (rowB R), undef]) (fun j w v h => pvP_v j w v h) (fun j => ([.int .i64 (i : Nat), .slice sp n cap, .int .i64 (k : Nat), .slice sp k cap, undef, .slice sp n cap, .int .i64 (k : Nat), .slice (cutA sp cap k) (n - k) (cap - k), .agg (rowB R), undef] : List Value).getD j undef) (fun j => .inr (.inr rfl)) ?_ ?_
    · intro u hu
      have h0 : u 0 = .int .i64 (i : Nat) := pvV_eq (hu 0) (by decide) (by decide)
      have h1 : u 1 = .slice sp n cap := pvV_eq (hu 1) (by decide) (by decide)
      have h2 : u 2 = .int .i64 (k : Nat) := pvV_eq (hu 2) (by decide) (by decide)
      have h3 : u 3 = .slice sp k cap := pvV_eq (hu 3) (by decide) (by decide)
      have h5 : u 5 = .slice sp n cap := pvV_eq (hu 5) (by decide) (by decide)
      have h6 : u 6 = .int .i64 (k : Nat) := pvV_eq (hu 6) (by decide) (by decide)
      have h7 : u 7 = .slice (cutA sp cap k) (n - k) (cap - k) := pvV_eq (hu 7) (by decide) (by decide)
      have h8 : u 8 = .agg (rowB R) := pvV_eq (hu 8) (by decide) (by decide)
      clear hu
      simp only [List.take_succ_cons, List.take_zero]
      refine spec_cons (fun W hC hd => ⟨by rfl, ?_⟩) ?_
      · exact gives_val _ W (rfl) ⟨hC, Below.refl _ _, rfl⟩
      simp only [Act.put, List.setIfInBounds_toArray, List.set_cons_succ, List.set_cons_zero, Nat.reduceAdd]
      rw [h0]
      refine spec_cons (fun W hC hd => ⟨by rfl, ?_⟩) ?_
      · exact gives_val _ W (rfl) ⟨hC, Below.refl _ _, rfl⟩
      simp only [Act.put, List.setIfInBounds_toArray, List.set_cons_succ, List.set_cons_zero, Nat.reduceAdd]
      rw [h1]
      refine spec_cons (fun W hC hd => ⟨by rfl, ?_⟩) ?_
      · exact gives_val _ W (rfl) ⟨hC, Below.refl _ _, rfl⟩
      simp only [Act.put, List.setIfInBounds_toArray, List.set_cons_succ, List.set_cons_zero, Nat.reduceAdd]
      rw [h2]
      refine spec_cons (fun W hC hd => ⟨by rfl, ?_⟩) ?_
      · exact gives_val _ W (exec_cut 22 28 (.tmp 16) none (some (.tmp 17)) rfl Tryd.underlying22 _ (HC1.out W)) ⟨hC, Below.refl _ _, rfl⟩
      simp only [Act.put, List.setIfInBounds_toArray, List.set_cons_succ, List.set_cons_zero, Nat.reduceAdd]
      rw [h3]
      refine spec_cons (fun W hC hd => ⟨by rfl, ?_⟩) ?_
      · exact gives_call _ _ (exec_call2 19 (.tmp 15) (.tmp 18) #[3, 22] _ _ rfl rfl rfl (cfRefProve _ _)) ((HIp.out W (hw W hC)).mono fun e W' h => by obtain ⟨v, e1, e2, e3⟩ := h; rw [HLe.out] at e2; exact ⟨v, e1, hC.trans (e3.mono hC.size), e3, owns_base e2 hC.size⟩)
      simp only [Act.put, List.setIfInBounds_toArray, List.set_cons_succ, List.set_cons_zero, Nat.reduceAdd]
      refine spec_cons (fun W hC hd => ⟨by rfl, ?_⟩) ?_
      · exact gives_val _ W (rfl) ⟨hC, Below.refl _ _, rfl⟩
      simp only [Act.put, List.setIfInBounds_toArray, List.set_cons_succ, List.set_cons_zero, Nat.reduceAdd]
      rw [h5]
      refine spec_cons (fun W hC hd => ⟨by rfl, ?_⟩) ?_
      · exact gives_val _ W (rfl) ⟨hC, Below.refl _ _, rfl⟩
      simp only [Act.put, List.setIfInBounds_toArray, List.set_cons_succ, List.set_cons_zero, Nat.reduceAdd]
      rw [h6]
      refine spec_cons (fun W hC hd => ⟨by rfl, ?_⟩) ?_
      · exact gives_val _ W (exec_cut 22 28 (.tmp 20) (some (.tmp 21)) none rfl Tryd.underlying22 _ (HC2.out W)) ⟨hC, Below.refl _ _, rfl⟩
      simp only [Act.put, List.setIfInBounds_toArray, List.set_cons_succ, List.set_cons_zero, Nat.reduceAdd]
      rw [h7]
      refine spec_cons (fun W hC hd => ⟨by rfl, ?_⟩) ?_
      · exact gives_call _ _ (exec_call1 14 (.tmp 22) #[22] _ rfl rfl (cfRefRoot _ _)) (((fun W hC => HRt.out W (hw W hC)) W hC).mono fun e W' h => ⟨_, h.1, hC.trans (h.2.mono hC.size), h.2, rfl⟩)
      simp only [Act.put, List.setIfInBounds_toArray, List.set_cons_succ, List.set_cons_zero, Nat.reduceAdd]
      rw [h8]
      refine spec_cons (fun W hC hd => ⟨by rfl, ?_⟩) ?_
      · exact gives_val _ _ (exec_oneD (.tmp 23) rfl R rfl hr32) ⟨hC.alloc hC.size _, (Below.refl _ _).alloc (Nat.le_refl _) _, _, rfl, heap_alloc_new _ _⟩
      simp only [Act.put, List.setIfInBounds_toArray, List.set_cons_succ, List.set_cons_zero, Nat.reduceAdd]
      exact spec_nil
    · intro u W hu hC hF
      have h0 : u 0 = .int .i64 (i : Nat) := pvV_eq (hu 0) (by decide) (by decide)
      have h1 : u 1 = .slice sp n cap := pvV_eq (hu 1) (by decide) (by decide)
      have h2 : u 2 = .int .i64 (k : Nat) := pvV_eq (hu 2) (by decide) (by decide)
      have h3 : u 3 = .slice sp k cap := pvV_eq (hu 3) (by decide) (by decide)
      have h5 : u 5 = .slice sp n cap := pvV_eq (hu 5) (by decide) (by decide)
      have h6 : u 6 = .int .i64 (k : Nat) := pvV_eq (hu 6) (by decide) (by decide)
      have h7 : u 7 = .slice (cutA sp cap k) (n - k) (cap - k) := pvV_eq (hu 7) (by decide) (by decide)
      have h8 : u 8 = .agg (rowB R) := pvV_eq (hu 8) (by decide) (by decide)
      simp only [List.take_succ_cons, List.take_zero, List.drop_succ_cons, List.drop_zero, putAll, Act.put, List.setIfInBounds_toArray, List.set_cons_succ, List.set_cons_zero, Nat.reduceAdd]
      rw [h0, h1, h2, h3, h5, h6, h7, h8]
      have h4p : W.ownsRow w1.heap.size 24 32 (u 4) L (dcells P) := hF 4 (by omega)
      obtain ⟨g, h9p, hg⟩ : ∃ g, u 9 = .slice (some ⟨g, 0, none⟩) 1 1 ∧ W.heap[g]? = some (.cells (rowB R) 24 (0, 0)) := hF 9 (by omega)
      rw [h9p]
      obtain ⟨v, hv⟩ : ∃ v, u 4 = v := ⟨_, rfl⟩
      rw [hv] at h4p ⊢
      have HO := Lib.hid h4p
      have HG := Lib.hid (dig_at W g R 24 (0, 0) hg)
      have HC := Lib.hid hC
      have hszW := hC.size
      clear hu hF hv h4p h9p hg hC hw HRt HIp HC1 HC2 h0 h1 h2 h3 h5 h6 h7 h8
      have HJ : Hid (∀ (v' : Value) (w' : World), w'.ownsRow w1.heap.size 24 32 v' (L + 1) (dcells (P ++ [R])) → W.grownBy w' v.ownBlock → Prv w (proofD i ls) (.returned v') w') := by
        refine Lib.hid (fun v' w' ho hg => ⟨v', rfl, ?_, ?_⟩)
        · rw [HSp.out, List.length_append, List.length_singleton, HLe.out]; exact owns_base ho HB1.out.size
        · exact HB1.out.trans ((HC.out.trans (Below.ofGrown hg hszW (fun k e => (HO.out.lt k e).1))).mono HB1.out.size)
      have T0 : 1 ≤ 1000000 - L := by omega
      go_wp2_with (refine wpList_append_dig rfl (.tmp 19) (.tmp 24) rfl w1.heap.size v L 1 P [R] rfl HO.out ⟨g, 0, none⟩ 1 rfl rfl (by simpa using hr32) HG.out (by omega) hszW ?_; intro v' w' hown hgrow; have HE := Lib.hid (HJ.out v' w' hown hgrow); clear hown hgrow)
      go_ret
      exact HE.out
  · have hd2 : decide ((i : Int) < (k : Int)) = false := by simp; omega
    rw [if_neg hik] at hsp
    have HSp := Lib.hid hsp
    have HIp := Lib.hid (fun W (hb : Below w.heap.size w W) => HI.out W (i - k) (cutA sp cap k) (n - k) (cap - k) B (by omega) hl2 (hP2.below hb) hm2 (by omega))
    have HRt := Lib.hid (fun W (hb : Below w.heap.size w W) => refRoot_any HBk.out W sp k cap A hl1 (hP1.below hb) hm1)
    have hL : (proofD (i - k) B).length ≤ 256 := by
      have := pf_length nodeD B.length (i - k) (B.map leafD)
      have h4 := dp_le B.length (B.map leafD).length (i - k)
      unfold proofD
      omega
    have hr32 := rootD_length A
    obtain ⟨R, hR⟩ : ∃ R, rootD A = R := ⟨_, rfl⟩
    obtain ⟨P, hPp⟩ : ∃ P, proofD (i - k) B = P := ⟨_, rfl⟩
    rw [hR] at HRt hr32 HSp
    rw [hPp] at HIp HSp hL
    obtain ⟨L, hLe⟩ : ∃ L, P.length = L := ⟨_, rfl⟩
    rw [hLe] at hL
    have HLe := Lib.hid hLe
    clear hsp hP1 hP2 hm1 hm2 hl1 hl2 hR hPp hLe
    have e3 : ∀ W : World, (binOp .sub 3 (.int .i64 (i : Int)) (.int .i64 (k : Int))).run Tryd.prog W = .ok (.int .i64 ((i - k : Nat) : Int)) W := fun W => run_lessK i k W (by omega) (by omega)
    go_upto_region 6 with fail
    refine wp_region_spec (C := fun W => Below w1.heap.size w1 W) (Le := fun w w' => Below w.heap.size w w') 12 (fun j w v => pvP w1.heap.size L P R 6 11 [.int .i64 (i : Nat), .int .i64 (k : Nat), .int .i64 ((i - k : Nat) : Int), .slice sp n cap, .int .i64 (k : Nat), .slice (cutA sp cap k) (n - k) (cap - k), undef, .slice sp n cap, .int .i64 (k : Nat), .slice sp k cap, .agg (rowB R), undef] j w v) (by kernel_rfl) (by kernel_rfl) ⟨rfl, rfl, rfl, Nat.le_refl _, fun _ _ => rfl⟩ (fun j w w' v hb h => pvP_le j w w' v hb h) (pvV 6 11 [.int .i64 (i : Nat), .int .i64 (k : Nat), .int .i64 ((i - k : Nat) : Int), .slice sp n cap, .int .i64 (k : Nat), .slice (cutA sp cap k) (n - k) (cap - k), undef, .slice sp n cap, .int .i64 (k : Nat), .slice sp k cap, .agg (rowB R), undef]) (fun j w v h => pvP_v j w v h) (fun j => ([.int .i64 (i : Nat), .int .i64 (k : Nat), .int .i64 ((i - k : Nat) : Int), .slice sp n cap, .int .i64 (k : Nat), .slice (cutA sp cap k) (n - k) (cap - k), undef, .slice sp n cap, .int .i64 (k : Nat), .slice sp k cap, .agg (rowB R), undef] : List Value).getD j undef) (fun j => .inr (.inr rfl)) ?_ ?_
    · intro u hu
      have h0 : u 0 = .int .i64 (i : Nat) := pvV_eq (hu 0) (by decide) (by decide)
      have h1 : u 1 = .int .i64 (k : Nat) := pvV_eq (hu 1) (by decide) (by decide)
      have h2 : u 2 = .int .i64 ((i - k : Nat) : Int) := pvV_eq (hu 2) (by decide) (by decide)
      have h3 : u 3 = .slice sp n cap := pvV_eq (hu 3) (by decide) (by decide)
      have h4 : u 4 = .int .i64 (k : Nat) := pvV_eq (hu 4) (by decide) (by decide)
      have h5 : u 5 = .slice (cutA sp cap k) (n - k) (cap - k) := pvV_eq (hu 5) (by decide) (by decide)
      have h7 : u 7 = .slice sp n cap := pvV_eq (hu 7) (by decide) (by decide)
      have h8 : u 8 = .int .i64 (k : Nat) := pvV_eq (hu 8) (by decide) (by decide)
      have h9 : u 9 = .slice sp k cap := pvV_eq (hu 9) (by decide) (by decide)
      have h10 : u 10 = .agg (rowB R) := pvV_eq (hu 10) (by decide) (by decide)
      clear hu
      simp only [List.take_succ_cons, List.take_zero]
      refine spec_cons (fun W hC hd => ⟨by rfl, ?_⟩) ?_
      · exact gives_val _ W (rfl) ⟨hC, Below.refl _ _, rfl⟩
      simp only [Act.put, List.setIfInBounds_toArray, List.set_cons_succ, List.set_cons_zero, Nat.reduceAdd]
      rw [h0]
      refine spec_cons (fun W hC hd => ⟨by rfl, ?_⟩) ?_
      · exact gives_val _ W (rfl) ⟨hC, Below.refl _ _, rfl⟩
      simp only [Act.put, List.setIfInBounds_toArray, List.set_cons_succ, List.set_cons_zero, Nat.reduceAdd]
      rw [h1]
      refine spec_cons (fun W hC hd => ⟨by rfl, ?_⟩) ?_
      · exact gives_val _ W (exec_bin .sub (.tmp 26) (.tmp 27) rfl rfl _ _ _ rfl rfl (e3 W)) ⟨hC, Below.refl _ _, rfl⟩
      simp only [Act.put, List.setIfInBounds_toArray, List.set_cons_succ, List.set_cons_zero, Nat.reduceAdd]
      rw [h2]
      refine spec_cons (fun W hC hd => ⟨by rfl, ?_⟩) ?_
      · exact gives_val _ W (rfl) ⟨hC, Below.refl _ _, rfl⟩
      simp only [Act.put, List.setIfInBounds_toArray, List.set_cons_succ, List.set_cons_zero, Nat.reduceAdd]
      rw [h3]
      refine spec_cons (fun W hC hd => ⟨by rfl, ?_⟩) ?_
      · exact gives_val _ W (rfl) ⟨hC, Below.refl _ _, rfl⟩
      simp only [Act.put, List.setIfInBounds_toArray, List.set_cons_succ, List.set_cons_zero, Nat.reduceAdd]
      rw [h4]
      refine spec_cons (fun W hC hd => ⟨by rfl, ?_⟩) ?_
      · exact gives_val _ W (exec_cut 22 28 (.tmp 29) (some (.tmp 30)) none rfl Tryd.underlying22 _ (HC2.out W)) ⟨hC, Below.refl _ _, rfl⟩
      simp only [Act.put, List.setIfInBounds_toArray, List.set_cons_succ, List.set_cons_zero, Nat.reduceAdd]
      rw [h5]
      refine spec_cons (fun W hC hd => ⟨by rfl, ?_⟩) ?_
      · exact gives_call _ _ (exec_call2 19 (.tmp 28) (.tmp 31) #[3, 22] _ _ rfl rfl rfl (cfRefProve _ _)) ((HIp.out W (hw W hC)).mono fun e W' h => by obtain ⟨v, e1, e2, e3⟩ := h; rw [HLe.out] at e2; exact ⟨v, e1, hC.trans (e3.mono hC.size), e3, owns_base e2 hC.size⟩)
      simp only [Act.put, List.setIfInBounds_toArray, List.set_cons_succ, List.set_cons_zero, Nat.reduceAdd]
      refine spec_cons (fun W hC hd => ⟨by rfl, ?_⟩) ?_
      · exact gives_val _ W (rfl) ⟨hC, Below.refl _ _, rfl⟩
      simp only [Act.put, List.setIfInBounds_toArray, List.set_cons_succ, List.set_cons_zero, Nat.reduceAdd]
      rw [h7]
      refine spec_cons (fun W hC hd => ⟨by rfl, ?_⟩) ?_
      · exact gives_val _ W (rfl) ⟨hC, Below.refl _ _, rfl⟩
      simp only [Act.put, List.setIfInBounds_toArray, List.set_cons_succ, List.set_cons_zero, Nat.reduceAdd]
      rw [h8]
      refine spec_cons (fun W hC hd => ⟨by rfl, ?_⟩) ?_
      · exact gives_val _ W (exec_cut 22 28 (.tmp 33) none (some (.tmp 34)) rfl Tryd.underlying22 _ (HC1.out W)) ⟨hC, Below.refl _ _, rfl⟩
      simp only [Act.put, List.setIfInBounds_toArray, List.set_cons_succ, List.set_cons_zero, Nat.reduceAdd]
      rw [h9]
      refine spec_cons (fun W hC hd => ⟨by rfl, ?_⟩) ?_
      · exact gives_call _ _ (exec_call1 14 (.tmp 35) #[22] _ rfl rfl (cfRefRoot _ _)) (((fun W hC => HRt.out W (hw W hC)) W hC).mono fun e W' h => ⟨_, h.1, hC.trans (h.2.mono hC.size), h.2, rfl⟩)
      simp only [Act.put, List.setIfInBounds_toArray, List.set_cons_succ, List.set_cons_zero, Nat.reduceAdd]
      rw [h10]
      refine spec_cons (fun W hC hd => ⟨by rfl, ?_⟩) ?_
      · exact gives_val _ _ (exec_oneD (.tmp 36) rfl R rfl hr32) ⟨hC.alloc hC.size _, (Below.refl _ _).alloc (Nat.le_refl _) _, _, rfl, heap_alloc_new _ _⟩
      simp only [Act.put, List.setIfInBounds_toArray, List.set_cons_succ, List.set_cons_zero, Nat.reduceAdd]
      exact spec_nil
    · intro u W hu hC hF
      have h0 : u 0 = .int .i64 (i : Nat) := pvV_eq (hu 0) (by decide) (by decide)
      have h1 : u 1 = .int .i64 (k : Nat) := pvV_eq (hu 1) (by decide) (by decide)
      have h2 : u 2 = .int .i64 ((i - k : Nat) : Int) := pvV_eq (hu 2) (by decide) (by decide)
      have h3 : u 3 = .slice sp n cap := pvV_eq (hu 3) (by decide) (by decide)
      have h4 : u 4 = .int .i64 (k : Nat) := pvV_eq (hu 4) (by decide) (by decide)
      have h5 : u 5 = .slice (cutA sp cap k) (n - k) (cap - k) := pvV_eq (hu 5) (by decide) (by decide)
      have h7 : u 7 = .slice sp n cap := pvV_eq (hu 7) (by decide) (by decide)
      have h8 : u 8 = .int .i64 (k : Nat) := pvV_eq (hu 8) (by decide) (by decide)
      have h9 : u 9 = .slice sp k cap := pvV_eq (hu 9) (by decide) (by decide)
      have h10 : u 10 = .agg (rowB R) := pvV_eq (hu 10) (by decide) (by decide)
      simp only [List.take_succ_cons, List.take_zero, List.drop_succ_cons, List.drop_zero, putAll, Act.put, List.setIfInBounds_toArray, List.set_cons_succ, List.set_cons_zero, Nat.reduceAdd]
      rw [h0, h1, h2, h3, h4, h5, h7, h8, h9, h10]
      have h6p : W.ownsRow w1.heap.size 24 32 (u 6) L (dcells P) := hF 6 (by omega)
      obtain ⟨g, h11p, hg⟩ : ∃ g, u 11 = .slice (some ⟨g, 0, none⟩) 1 1 ∧ W.heap[g]? = some (.cells (rowB R) 24 (0, 0)) := hF 11 (by omega)
      rw [h11p]
      obtain ⟨v, hv⟩ : ∃ v, u 6 = v := ⟨_, rfl⟩
      rw [hv] at h6p ⊢
      have HO := Lib.hid h6p
      have HG := Lib.hid (dig_at W g R 24 (0, 0) hg)
      have HC := Lib.hid hC
      have hszW := hC.size
      clear hu hF hv h6p h11p hg hC hw HRt HIp HC1 HC2 h0 h1 h2 h3 h4 h5 h7 h8 h9 h10
      have HJ : Hid (∀ (v' : Value) (w' : World), w'.ownsRow w1.heap.size 24 32 v' (L + 1) (dcells (P ++ [R])) → W.grownBy w' v.ownBlock → Prv w (proofD i ls) (.returned v') w') := by
        refine Lib.hid (fun v' w' ho hg => ⟨v', rfl, ?_, ?_⟩)
        · rw [HSp.out, List.length_append, List.length_singleton, HLe.out]; exact owns_base ho HB1.out.size
        · exact HB1.out.trans ((HC.out.trans (Below.ofGrown hg hszW (fun k e => (HO.out.lt k e).1))).mono HB1.out.size)
      have T0 : 1 ≤ 1000000 - L := by omega
      go_wp2_with (refine wpList_append_dig rfl (.tmp 32) (.tmp 37) rfl w1.heap.size v L 1 P [R] rfl HO.out ⟨g, 0, none⟩ 1 rfl rfl (by simpa using hr32) HG.out (by omega) hszW ?_; intro v' w' hown hgrow; have HE := Lib.hid (HJ.out v' w' hown hgrow); clear hown hgrow)
      go_ret
      exact HE.out
theorem refProve_upto (hblk : BlockSpec) : ∀ (m : Nat) (w : World) (i : Nat) (sp : Option Addr) (n cap : Nat) (ls : List (List Int)), n < m → ls.length = n → Pcs w sp cap ls → Smal ls → i < n →
    Calls Tryd.prog 19 #[.int .i64 i, .slice sp n cap] w (Prv w (proofD i ls))
  | 0, _, _, _, _, _, _, h, _, _, _, _ => absurd h (by omega)
  | m + 1, w, i, sp, n, cap, ls, h, hn, hP, hm, hi => by
    by_cases h1 : n < 2
    · have e : proofD i ls = [] := by
        refine List.eq_nil_of_length_eq_zero ?_
        unfold proofD
        rw [pf_length, List.length_map, dp_any (H := ls.length) (K := 0) i (two_pow_ge _) (by omega)]
        rfl
      rw [e]
      exact refProve_few w i sp n cap h1
    · exact refProve_many hblk w i sp n cap ls hn hP hm (by omega) hi (fun w i sp n' cap ls h' hn hP hm hi => refProve_upto hblk m w i sp n' cap ls (by omega) hn hP hm hi)
theorem refProve_any (hblk : BlockSpec) (w : World) (i : Nat) (sp : Option Addr) (n cap : Nat) (ls : List (List Int)) (hn : ls.length = n) (hP : Pcs w sp cap ls) (hm : Smal ls) (hi : i < n) :
    Calls Tryd.prog 19 #[.int .i64 i, .slice sp n cap] w fun e w' => ∃ sp' cap', e = .returned (.slice sp' (proofD i ls).length cap') ∧ Digs w' sp' cap' (proofD i ls) ∧ Below w.heap.size w w' := by
  refine (refProve_upto hblk (n + 1) w i sp n cap ls (by omega) hn hP hm hi).mono ?_
  rintro e w' ⟨v, rfl, ho, hb⟩
  have hl : ls.length ≤ 2 ^ 63 := by have := hm.many; omega
  obtain ⟨sp', cap', rfl, _, hd, _⟩ := own_digs ho (proofD_all i ls (by omega) hl)
  exact ⟨sp', cap', rfl, hd, hb⟩
end

end Go.Proofs.YtighmhoekbnagaaDoor
