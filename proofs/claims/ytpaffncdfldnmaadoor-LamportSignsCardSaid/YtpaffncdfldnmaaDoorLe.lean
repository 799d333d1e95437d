import Derived.Test.YtpaffncdfldnmaaDoorLc
namespace Go.Proofs.YtpaffncdfldnmaaDoor
open Go.ChangeShapes Go.WideShapes Go.ChangeAt Go.RowKit

/-! ### a block of digests, some of which are written -/
theorem rowP_get (f : Nat → List Int) (hf : ∀ i, (f i).length = 32) : ∀ (N p j : Nat), p < N → j < 32 → (rowP f N).getD (32 * p + j) 0 = (f p).getD j 0
  | 0, _, _, h, _ => absurd h (by omega)
  | N + 1, p, j, hp, hj => by
    have hl := rowP_length f hf N
    by_cases e : p = N
    · subst e
      rw [rowP, List.getD_eq_getElem?_getD, List.getElem?_append_right (by omega), hl, show 32 * p + j - 32 * p = j by omega, ← List.getD_eq_getElem?_getD]
    · have ih := rowP_get f hf N p j (by omega) hj
      rw [rowP, List.getD_eq_getElem?_getD, List.getElem?_append_left (by omega), ← List.getD_eq_getElem?_getD]
      exact ih
theorem row_range {W : World} {b N : Nat} {t : TypeId} {fr : Nat × Nat} {f : Nat → List Int} (hf : ∀ i, (f i).length = 32) (h : W.heap[b]? = some (.cells (rowB (rowP f N)) t fr)) (p : Nat) (hp : p < N) : W.rangeAt b (32 * p) ((f p).map (Value.int .u8)) := by
  intro j v hv
  have hj : j < 32 := by
    have := (List.getElem?_eq_some_iff.1 hv).1
    rw [List.length_map, hf] at this
    exact this
  have h2 : j < (f p).length := by rw [hf]; exact hj
  rw [cell_of_row _ _ _ _ _ _ h, rowB_get _ _ (by rw [rowP_length f hf]; omega), rowP_get f hf N p j hp hj, ← hv, List.getElem?_map, List.getElem?_eq_getElem h2, List.getD_eq_getElem?_getD, List.getElem?_eq_getElem h2]
  rfl
structure Bd (W : World) (b : Nat) (t : TypeId) (N : Nat) (f : Nat → List Int) (P : Nat → Prop) : Prop where
  ty : ∃ C : Array Value, W.heap[b]? = some (.cells C t (0, 0)) ∧ C.size = 32 * N
  lies : ∀ p, p < N → P p → W.rangeAt b (32 * p) ((f p).map (Value.int .u8))
section
variable {W W' : World} {b : Nat} {t : TypeId} {N : Nat} {f : Nat → List Int} {P P' : Nat → Prop}
theorem Bd.kept (h : Bd W b t N f P) (hk : W'.heap[b]? = W.heap[b]?) : Bd W' b t N f P := by
  obtain ⟨C, h1, h2⟩ := h.ty
  exact ⟨⟨C, by rw [hk]; exact h1, h2⟩, fun p hp hP j v hv => by rw [cell_same hk]; exact h.lies p hp hP j v hv⟩
theorem Bd.lt (h : Bd W b t N f P) : b < W.heap.size := by obtain ⟨C, h1, _⟩ := h.ty; exact (Array.getElem?_eq_some_iff.1 h1).1
theorem Bd.below (h : Bd W b t N f P) (hb : Below W.heap.size W W') : Bd W' b t N f P := h.kept (hb.block b h.lt)
theorem Bd.there (h : Bd W b t N f P) (p : Nat) (hp : p < N) : W.there b (32 * p) 32 := by
  obtain ⟨C, h1, h2⟩ := h.ty
  intro j hj
  have h3 : 32 * p + j < C.size := by omega
  refine ⟨?_, ?_⟩
  · rw [cell_of_row _ _ _ _ _ _ h1, Array.getElem?_eq_getElem h3]; rfl
  · simp [World.frozen?, h1]
theorem Bd.set (h : Bd W b t N f P) (hf : ∀ i, (f i).length = 32) (p : Nat) (hp : p < N) (hP : ∀ q, P' q → P q ∨ q = p) : Bd (W.setCells b (32 * p) ((f p).map (Value.int .u8))) b t N f P' := by
  obtain ⟨C, h1, h2⟩ := h.ty
  obtain ⟨C', h3, h4⟩ := setCells_heap ((f p).map (Value.int .u8)) (32 * p) W b C _ _ h1
  refine ⟨⟨C', h3, by rw [h4, h2]⟩, fun q hq hPq => ?_⟩
  by_cases hqp : q = p
  · subst hqp
    exact World.rangeAt_setCells_same W b (32 * q) _ (by rw [List.length_map, hf]; exact h.there q hp)
  · have hPq' : P q := by
      rcases hP q hPq with x | x
      · exact x
      · exact absurd x hqp
    refine World.rangeAt_setCells_apart (h.lies q hq hPq') b (32 * p) _ (.inr ?_)
    rw [List.length_map, List.length_map, hf, hf]
    omega
theorem Bd.full (h : Bd W b t N f P) (hf : ∀ i, (f i).length = 32) (hP : ∀ p, p < N → P p) : W.heap[b]? = some (.cells (rowB (rowP f N)) t (0, 0)) := by
  obtain ⟨C, h1, h2⟩ := h.ty
  have e : C = rowB (rowP f N) := by
    apply Array.ext_getElem?
    intro i
    by_cases hi : i < 32 * N
    · have hd : i = 32 * (i / 32) + i % 32 := (Nat.div_add_mod i 32).symm
      have hm : i % 32 < 32 := Nat.mod_lt _ (by omega)
      have hp : i / 32 < N := by omega
      have h5 := h.lies (i / 32) hp (hP _ hp) (i % 32) (.int .u8 ((f (i / 32)).getD (i % 32) 0)) (by
        have h2 : i % 32 < (f (i / 32)).length := by rw [hf]; exact hm
        simp [h2])
      rw [← hd, cell_of_row _ _ _ _ _ _ h1] at h5
      have h6 := rowP_get f hf N (i / 32) (i % 32) hp hm
      rw [← hd] at h6
      rw [h5, rowB_get _ _ (by rw [rowP_length f hf]; exact hi), h6]
    · rw [Array.getElem?_eq_none (by omega), Array.getElem?_eq_none (by rw [rowB_size, rowP_length f hf]; omega)]
  rw [h1, e]
theorem Bd.made (W : World) (C : Array Value) (t : TypeId) (N : Nat) (f : Nat → List Int) (P : Nat → Prop) (hC : C.size = 32 * N) (hP : ∀ p, ¬ P p) : Bd (W.alloc (.cells C t)) W.heap.size t N f P :=
  ⟨⟨C, heap_alloc_new _ _, hC⟩, fun p _ h => absurd h (hP p)⟩
end
section
variable {P : Program} {a : Act} {o : Oper} {W : World}
/-- the address of an array's element -/
theorem exec_arr_at (t e : TypeId) (n m : Nat) (ht : P.underlying t = some (.array n e)) (hs : (P.info? e).map (·.size) = some m) (x y : Operand) (ho : o.op = .indexAddr t x y) (c k i : Nat) (hx : a.eval x = .pointer (some ⟨c, k, none⟩)) (hy : a.eval y = .int .i64 (i : Int)) (hi : i < n) :
    (execOp a.eval o).run P W = .ok (.value (.pointer (some ⟨c, k + m * i, none⟩))) W := by
  have hadd := add_plain c k (i * m)
  cases hq : P.info? e with
  | none => simp [hq] at hs
  | some j =>
    have hj : j.size = m := by simpa [hq] using hs
    unfold execOp
    simp [ho, hx, hy, Instr.indexAt, Instr.sureAddr, asIntOf, run_underlying ht, sizeOf, typeInfo, hq, hj, hi, hadd, Nat.mul_comm m i]
/-- a call of a function literal -/
theorem exec_callC (f : FuncId) (x y z : Operand) (ats : Array TypeId) (cap : Array Value) (u v : Value) (ho : o.op = .call { callee := .value z, args := #[x, y], argTypes := ats }) (hz : a.eval z = .func (.func f) #[] cap) (hx : a.eval x = u) (hy : a.eval y = v)
    (hf : (callFunc f (#[u, v] ++ cap)).run P W = .ok (.enter f (#[u, v] ++ cap)) W) : (execOp a.eval o).run P W = .ok (.enter f (#[u, v] ++ cap)) W := by
  unfold execOp
  simp only [ho, resolve, hz, Deferred.ofValue, Sem.run_bind, Sem.run_pure, Result.andThen_ok, invoke, Array.empty_append, List.map_toArray, List.map_cons, List.map_nil, hx, hy]
  exact hf
end
/-- a[:] of a digest in the middle of a block -/
theorem run_digest_at (p k : Nat) (w : World) : (Instr.sliceAt 23 (.pointer (some ⟨p, k, none⟩)) none none none).run Tryd.prog w = .ok (.slice (some ⟨p, k, none⟩) 32 32) w := by
  cases hq : Tryd.prog.info? 5 with
  | none => have := size5; simp [hq] at this
  | some i =>
    have hadd := add_plain p k 0
    simp [Instr.sliceAt, Instr.sureAddr, run_underlying Tryd.underlying23, Instr.sliceBounds, sizeOf, typeInfo, hq]
    try simpa using hadd
theorem sizePair : (Tryd.prog.info? 62).map (·.size) = some 64 := by kernel_rfl

/-! ### the digest of pairs -/
structure Ps (w : World) (l : List Int) (W : World) : Prop where
  below : Below w.heap.size w W
  res : W.heap[w.heap.size]? = some (.cells (rowB (zs 32)) 23 (0, 0))
  hash : HashAt W (w.heap.size + 1) l
theorem Ps.wrote {w W W' : World} {l b : List Int} (h : Ps w l W) (hg : W.grownBy W' (some (w.heap.size + 1))) (hh : HashAt W' (w.heap.size + 1) (l ++ b)) : Ps w (l ++ b) W' :=
  ⟨h.below.trans (Below.ofGrown hg h.below.size (fun j e => by cases e; omega)), (hg.block _ (Array.getElem?_eq_some_iff.1 h.res).1 (by simp)).trans h.res, hh⟩
theorem Ps.made (w : World) (X : Array Value) (hX : X = rowB (zs 32)) : Ps w [] ((w.alloc (.cells X 23)).alloc (.cells newRow 90)) := by
  subst hX
  have := HashAt.new (w.alloc (.cells (rowB (zs 32)) 23))
  rw [World.size_alloc] at this
  exact ⟨((Below.refl _ _).alloc (Nat.le_refl _) _).alloc (by simp) _, heap_alloc2_old _ _ _, this⟩
set_option maxRecDepth 100000 in
set_option maxHeartbeats 4000000 in
theorem psum_any (w : World) (g : Nat) (fr : Nat × Nat) (D : Nat → Nat → List Int) (hD : ∀ p b, (D p b).length = 32) (hg : w.heap[g]? = some (.cells (rowB (keyB D)) 64 fr)) (he : Env w) :
    Calls Tryd.prog 35 #[.pointer (some ⟨g, 0, none⟩)] w fun e w' => e = .returned (.agg (rowB (sum (keyB D)))) ∧ Below w.heap.size w w' := by
  have hkf : ∀ i, (kf D i).length = 32 := fun i => by unfold kf; exact hD _ _
  have HG : Hid (w.heap[g]? = some (.cells (rowB (rowP (kf D) 512)) 64 fr)) := hg
  have hgl : g < w.heap.size := (Array.getElem?_eq_some_iff.1 hg).1
  have HE := Lib.hid he
  have HKf := Lib.hid hkf
  have HLen := Lib.hid (rowP_length (kf D) hkf)
  have h2 := he.two
  have HEq : Hid (keyB D = rowP (kf D) 512) := Lib.hid rfl
  rw [HEq.out]
  clear hg he hkf hD
  obtain ⟨f, hf⟩ : ∃ f, kf D = f := ⟨_, rfl⟩
  rw [hf] at HG HKf HLen ⊢
  clear hf HEq
  go_enter Tryd.func35, Tryd.ntmps35
  go_wp2_with (go_at_call 42; refine (new_any _ (HE.out.below ((Below.refl _ _).alloc (Nat.le_refl _) _))).mono ?_; rintro e w' ⟨rfl, rfl⟩; rw [World.size_alloc])
  go_loopw [7] (fun t wr => ∃ p : Nat, p ≤ 256 ∧ t = .int .i64 p ∧ Ps w (rowP f (2 * p)) wr) (fun t _ => 256 - (intOf t).toNat)
  case atStart => exact ⟨0, by omega, rfl, Ps.made w _ (by kernel_rfl)⟩
  case round =>
    obtain ⟨p, hp, rfl, hs⟩ := hrel
    by_cases hlt : p < 256
    · have hdt : decide ((p : Int) < 256) = true := by simp; omega
      have hdt' : decide (p < 256) = true := by simp; omega
      have HS0 := Lib.hid hs
      clear hs
      go_wp2
      go_loopw [10] (fun t wr => ∃ b : Nat, b ≤ 2 ∧ t = .int .i64 b ∧ Ps w (rowP f (2 * p + b)) wr) (fun t _ => 2 - (intOf t).toNat)
      case atStart => exact ⟨0, by omega, rfl, HS0.out⟩
      case round =>
        clear HS0
        obtain ⟨b, hb, rfl, hs⟩ := hrel
        by_cases hltb : b < 2
        · have hdb : decide ((b : Int) < 2) = true := by simp; omega
          have hdb' : decide (b < 2) = true := by simp; omega
          have HS := Lib.hid hs
          clear hs
          have hg2 := (HS.out.below.block g hgl).trans HG.out
          have hrange := row_range HKf.out hg2 (2 * p + b) (by omega)
          have h32 := HKf.out (2 * p + b)
          have hl1 := HLen.out (2 * p + b)
          have e0 : p * 64 + b * 32 = 32 * (2 * p + b) := by omega
          have HSn : Hid (rowP f (2 * p + (b + 1)) = rowP f (2 * p + b) ++ f (2 * p + b)) := Lib.hid rfl
          obtain ⟨d, hd⟩ : ∃ d, f (2 * p + b) = d := ⟨_, rfl⟩
          rw [hd] at hrange h32 HSn
          obtain ⟨L, hL⟩ : ∃ L, rowP f (2 * p + b) = L := ⟨_, rfl⟩
          rw [hL] at HS hl1 HSn
          have HBy : Hid (Byt wr (some ⟨g, p * 64 + b * 32, none⟩) 32 d) := ⟨⟨by omega, by unfold maxLen; omega, fun _ => ⟨g, _, rfl, fun i hi => by
            rw [e0]
            exact hrange i _ (by simp [hi])⟩⟩, fun h => by cases h⟩
          have r1 := run_digest_at g (p * 64 + b * 32)
          clear hg2 hrange hd hL e0
          go_wp2_with fail
          have hw := write_any (w.heap.size + 1) wr L d (some ⟨g, p * 64 + b * 32, none⟩) 32 HS.out.hash HBy.out.by_ (fun c o e _ => by cases e; omega) (HE.out.below HS.out.below) (by omega) (by omega)
          rw [h32] at hw
          refine hw.mono ?_
          rintro e w4 ⟨rfl, hg4, hh4⟩
          have HS4 : Hid (Ps w (L ++ d) w4) := HS.out.wrote hg4 hh4
          clear hw hg4 hh4 r1
          go_wp2
          go_roundw
          case rel => exact ⟨b + 1, by omega, by go_num, by rw [HSn.out]; exact HS4.out⟩
          case measure => simp [intOf]; omega
        · obtain rfl : b = 2 := by omega
          have hdb : decide (((2 : Nat) : Int) < 2) = false := by decide
          have hdb' : decide ((2 : Int) < 2) = false := by decide
          have HS := Lib.hid hs
          clear hs
          go_wp2
          go_roundw
          case rel => exact ⟨p + 1, by omega, by go_num, HS.out⟩
          case measure => simp [intOf]; omega
    · obtain rfl : p = 256 := by omega
      have hdf : decide (((256 : Nat) : Int) < 256) = false := by decide
      have hdf' : decide ((256 : Int) < 256) = false := by decide
      have HS : Hid (Ps w (rowP f 512) wr) := Lib.hid hs
      have hlen : (rowP f 512).length ≤ 1152921504606846975 := by rw [HLen.out]; omega
      clear hs
      obtain ⟨L, hL⟩ : ∃ L, rowP f 512 = L := ⟨_, rfl⟩
      rw [hL] at HS hlen
      have HLq := Lib.hid hL
      clear hL HG HLen
      go_wp2_with fail
      refine (hash_sum (w.heap.size + 1) wr L HS.out.hash (HE.out.below HS.out.below) hlen).mono ?_
      rintro e w5 ⟨rfl, hb5⟩
      have HZ := Lib.hid (row_sum L)
      have HY := Lib.hid (show (rowB (zs 32)).size = (rowB (sum L)).size by rw [← row_zero]; rfl)
      have HX := Lib.hid (rowB_one (sum L))
      have HQ := Lib.hid ((hb5.block _ (Array.getElem?_eq_some_iff.1 HS.out.res).1).trans HS.out.res)
      have HB5 := Lib.hid (HS.out.below.trans (hb5.mono HS.out.below.size))
      clear hb5
      obtain ⟨F, hF⟩ : ∃ F, sum L = F := ⟨_, rfl⟩
      rw [hF] at HZ HY HX ⊢
      have HF := Lib.hid hF
      clear hF
      go_wp2_with (refine wpList_store_row rfl 23 (.tmp 2) (.tmp 25) rfl w.heap.size (rowB F) rfl rfl 23 _ HQ.out HZ.out HY.out HX.out ?_)
      exact bodyPost_ret (v := .agg (rowB F)) (results_cell_row Tryd.results35 _ _ w.heap.size 23 (rowB F) (0, 0) _ rfl (setRow_heap _ _ _ _ _ _ HQ.out) Tryd.underlying23 rfl HZ.out) rfl ⟨by rw [HLq.out, HF.out], below_setRow HB5.out (Nat.le_refl _) _⟩

/-! ### great zero values -/
/-- 64 * 2^n zero bytes, as a type's zero value is written -/
def zt : Nat → List Value
  | 0 => [.int .u8 0, .int .u8 0, .int .u8 0, .int .u8 0, .int .u8 0, .int .u8 0, .int .u8 0, .int .u8 0, .int .u8 0, .int .u8 0, .int .u8 0, .int .u8 0, .int .u8 0, .int .u8 0, .int .u8 0, .int .u8 0, .int .u8 0, .int .u8 0, .int .u8 0, .int .u8 0, .int .u8 0, .int .u8 0, .int .u8 0, .int .u8 0, .int .u8 0, .int .u8 0, .int .u8 0, .int .u8 0, .int .u8 0, .int .u8 0, .int .u8 0, .int .u8 0, .int .u8 0, .int .u8 0, .int .u8 0, .int .u8 0, .int .u8 0, .int .u8 0, .int .u8 0, .int .u8 0, .int .u8 0, .int .u8 0, .int .u8 0, .int .u8 0, .int .u8 0, .int .u8 0, .int .u8 0, .int .u8 0, .int .u8 0, .int .u8 0, .int .u8 0, .int .u8 0, .int .u8 0, .int .u8 0, .int .u8 0, .int .u8 0, .int .u8 0, .int .u8 0, .int .u8 0, .int .u8 0, .int .u8 0, .int .u8 0, .int .u8 0, .int .u8 0]
  | n + 1 => (zt n).append (zt n)
theorem zt_rep : ∀ n, zt n = List.replicate (64 * 2 ^ n) (Value.int .u8 0)
  | 0 => rfl
  | n + 1 => by
    rw [zt, zt_rep n, List.append_eq, List.replicate_append_replicate]
    congr 1
    rw [Nat.pow_succ]
    omega
theorem zt_row (n m : Nat) (h : 64 * 2 ^ n = m) : (zt n).toArray = rowB (zs m) := by
  rw [zt_rep n, h]
  unfold rowB zs
  rw [List.map_replicate]
theorem zeroPairs : (Tryd.t64).zero = some (.agg (zt 8).toArray) := by kernel_rfl
theorem zeroSig : (Tryd.t34).zero = some (.agg (zt 8).toArray) := by kernel_rfl
theorem zero_pairs (w : World) : (zeroValue 64).run Tryd.prog w = .ok (.agg (rowB (zs 16384))) w := by
  unfold zeroValue
  simp only [Sem.run_bind, Tryd.typeInfo64, Result.andThen_ok, zeroPairs, Sem.run_pure]
  rw [zt_row 8 16384 rfl]
theorem zero_sig (w : World) : (zeroValue 34).run Tryd.prog w = .ok (.agg (rowB (zs 16384))) w := by
  unfold zeroValue
  simp only [Sem.run_bind, Tryd.typeInfo34, Result.andThen_ok, zeroSig, Sem.run_pure]
  rw [zt_row 8 16384 rfl]
theorem zs_len (n : Nat) : (zs n).length = n := by unfold zs; exact List.length_replicate ..
theorem row_ne (n : Nat) (h0 : n ≠ 0) : ¬ rowB (zs n) = #[] := fun h => h0 (by
  have h1 := congrArg Array.size h
  rw [rowB_size, zs_len] at h1
  exact h1)
/-- as a walk takes it -/
theorem zero_pairs_ex : ∃ Y : Array Value, Y.size = 16384 ∧ ¬ Y = #[] ∧ ∀ w, (zeroValue 64).run Tryd.prog w = .ok (.agg Y) w :=
  ⟨rowB (zs 16384), by rw [rowB_size, zs_len], row_ne 16384 (by decide), zero_pairs⟩
theorem zero_sig_ex : ∃ Y : Array Value, Y.size = 16384 ∧ ¬ Y = #[] ∧ ∀ w, (zeroValue 34).run Tryd.prog w = .ok (.agg Y) w :=
  ⟨rowB (zs 16384), by rw [rowB_size, zs_len], row_ne 16384 (by decide), zero_sig⟩
theorem infoSig : (Tryd.prog.info? 34).map (·.size) = some 16384 := by kernel_rfl
theorem infoPairs : (Tryd.prog.info? 64).map (·.size) = some 16384 := by kernel_rfl
theorem infoHalf : (Tryd.prog.info? 32).map (·.size) = some 8192 := by kernel_rfl
end Go.Proofs.YtpaffncdfldnmaaDoor
