import Derived.Test.YtchjijifmjbgoaaDoorPa
namespace Go.Proofs.YtchjijifmjbgoaaDoor.Tn
set_option maxRecDepth 100000
open Go.ChangeShapes Go.WideShapes Go.ChangeAt Go.RowKit Go.Proofs.YtchjijifmjbgoaaDoor.Fx Go.Proofs.YtchjijifmjbgoaaDoor.Rf

/-! ### the landed code: rows of pairs -/
def pv (p : Int × Int) : List Value := [.int .i64 p.1, .int .i64 p.2]
theorem cell_sameP {W W' : World} {b : Nat} (h : W'.heap[b]? = W.heap[b]?) (o : Nat) : W'.cell? ⟨b, o, none⟩ = W.cell? ⟨b, o, none⟩ := by simp [World.cell?, h]
/-- a block that holds pairs, one behind the other -/
structure RowP (W : World) (g : Nat) (l : List (Int × Int)) : Prop where
  ty : ∃ C, W.heap[g]? = some (.cells C 72 (0, 0)) ∧ C.size = l.length * 2
  lies : ∀ i, i < l.length → W.rangeAt g (i * 2) (pv (l.getD i (0, 0)))
theorem setCells_heapP : ∀ (vs : List Value) (o : Nat) (w : World) (b : Nat) (C : Array Value) (t : TypeId) (fr : Nat × Nat), w.heap[b]? = some (.cells C t fr) → ∃ C', (w.setCells b o vs).heap[b]? = some (.cells C' t fr) ∧ C'.size = C.size
  | [], _, _, _, C, _, _, h => ⟨C, h, rfl⟩
  | v :: r, o, w, b, C, t, fr, h => by
    have h0 : (w.setCell ⟨b, o, none⟩ v).heap[b]? = some (.cells (C.setIfInBounds o v) t fr) := by
      have hb := (Array.getElem?_eq_some_iff.1 h).1
      simp [World.setCell, Array.getElem?_modify, h]
    rw [World.setCells]
    obtain ⟨C', h1, h2⟩ := setCells_heapP r (o + 1) _ b _ t fr h0
    exact ⟨C', h1, by rw [h2, Array.size_setIfInBounds]⟩
theorem heap_setCells_neP (w : World) (g o : Nat) (vs : List Value) {i : Nat} (hne : i ≠ g) : (w.setCells g o vs).heap[i]? = w.heap[i]? := by
  induction vs generalizing w o with
  | nil => rfl
  | cons v r ih =>
    rw [World.setCells, ih]
    simp [World.setCell, Array.getElem?_modify, hne.symm]
theorem size_setCellsP (w : World) (g o : Nat) (vs : List Value) : (w.setCells g o vs).heap.size = w.heap.size := by
  induction vs generalizing w o with
  | nil => rfl
  | cons v r ih =>
    rw [World.setCells, ih]
    simp
theorem belowCellsP {n : Nat} {w W : World} (b o : Nat) (vs : List Value) (hb : n ≤ b) (h : Below n w W) : Below n w (W.setCells b o vs) := by
  induction vs generalizing W o with
  | nil => exact h
  | cons v r ih =>
    rw [World.setCells]
    exact ih _ (h.setCell (p := ⟨b, o, none⟩) hb _)
section
variable {W W' : World} {g : Nat} {l : List (Int × Int)}
theorem RowP.kept (h : RowP W g l) (hk : W'.heap[g]? = W.heap[g]?) : RowP W' g l := by
  obtain ⟨C, h1, h2⟩ := h.ty
  exact ⟨⟨C, by rw [hk]; exact h1, h2⟩, fun p hp j v hv => by rw [cell_sameP hk]; exact h.lies p hp j v hv⟩
theorem RowP.lt (h : RowP W g l) : g < W.heap.size := by obtain ⟨C, h1, _⟩ := h.ty; exact (Array.getElem?_eq_some_iff.1 h1).1
theorem RowP.below (h : RowP W g l) (hb : Below W.heap.size W W') : RowP W' g l := h.kept (hb.block g h.lt)
theorem RowP.there (h : RowP W g l) (p : Nat) (hp : p < l.length) : W.there g (p * 2) 2 := by
  obtain ⟨C, h1, h2⟩ := h.ty
  intro j hj
  have h3 : p * 2 + j < C.size := by omega
  refine ⟨?_, ?_⟩
  · rw [cell_of_row _ _ _ _ _ _ h1, Array.getElem?_eq_getElem h3]; rfl
  · simp [World.frozen?, h1]
theorem RowP.set (h : RowP W g l) (p : Nat) (hp : p < l.length) (x : Int × Int) : RowP (W.setCells g (p * 2) (pv x)) g (l.set p x) := by
  obtain ⟨C, h1, h2⟩ := h.ty
  obtain ⟨C', h3, h4⟩ := setCells_heapP (pv x) (p * 2) W g C _ _ h1
  refine ⟨⟨C', h3, by rw [h4, h2, List.length_set]⟩, fun q hq => ?_⟩
  rw [List.length_set] at hq
  by_cases hqp : q = p
  · subst hqp
    have e : (l.set q x).getD q (0, 0) = x := by simp [hp]
    rw [e]
    exact World.rangeAt_setCells_same W g (q * 2) _ (h.there q hp)
  · have e : (l.set p x).getD q (0, 0) = l.getD q (0, 0) := by
      rw [List.getD_eq_getElem?_getD, List.getD_eq_getElem?_getD, List.getElem?_set_ne (fun e => hqp e.symm)]
    rw [e]
    refine World.rangeAt_setCells_apart (h.lies q hq) g (p * 2) _ (.inr ?_)
    simp only [pv, List.length_cons, List.length_nil]
    omega
end
theorem exec_pairT_at {a : Act} {o : Oper} {W : World} (x y : Operand) (ho : o.op = .indexAddr 67 x y) (c n cap i : Nat) (hx : a.eval x = .slice (some ⟨c, 0, none⟩) n cap) (hy : a.eval y = .int .i64 (i : Int)) (hi : i < n) : (execOp a.eval o).run Tryd.prog W = .ok (.value (.pointer (some ⟨c, i * 2, none⟩))) W := by
  have hadd := add_plain c 0 (i * 2)
  rw [Nat.zero_add] at hadd
  cases hq : Tryd.prog.info? 72 with
  | none => have := size_pairT; simp [hq] at this
  | some j =>
    have hj : j.size = 2 := by have := size_pairT; simpa [hq] using this
    unfold execOp
    simp [ho, hx, hy, Instr.indexAt, asIntOf, run_underlying Tryd.underlying67, sizeOf, typeInfo, hq, hj, hi, hadd]
theorem size_pairT2 : (Tryd.prog.info? 72).map (·.size) = some [Value.int .i64 0, .int .i64 0].length := by kernel_rfl
theorem size_pv (p : Int × Int) : (Tryd.prog.info? 72).map (·.size) = some (pv p).length := size_pairT2
theorem info_pairT : (Tryd.prog.info? 72).map (fun i => (i.zero, i.size, i.bytes)) = some (some (.agg #[.int .i64 0, .int .i64 0]), 2, 16) := by kernel_rfl
/-- make([]pair, n) -/
theorem wpList_makeP {w : World} {ops : Array Oper} {rest : List Oper} {o : Oper} {a : Act} {Q : Exit → Act → World → Prop} (hgd : o.guard = none) (s x : Operand) (ho : o.op = .makeSlice 67 s x) (c : Nat) (hs : a.eval s = .int .i64 (c : Int)) (hx : a.eval x = .int .i64 (c : Int)) (hc : c ≤ 1000)
    (h : ∀ w', RowP w' w.heap.size (List.replicate c (0, 0)) → w'.heap.size = w.heap.size + 1 → Below w.heap.size w w' → wpList Tryd.prog ops Q rest (a.put o.dst (.slice (some ⟨w.heap.size, 0, none⟩) c c)) w') : wpList Tryd.prog ops Q (o :: rest) a w := by
  obtain ⟨i0, hi, hz0, hz1, hz2⟩ := info_parts info_pairT
  have hb : (i0.bytes : Int) * (c : Int) ≤ 281474976710656 := by rw [hz2]; omega
  have hrun := run_makeSlice (P := Tryd.prog) w 67 72 i0 _ Tryd.underlying67 hi hz0 .i64 .i64 (c : Int) (c : Int) (by omega) (by omega) (by rw [hz1]; simp; omega) hb (by omega)
  rw [hz1] at hrun
  simp only [Int.toNat_natCast] at hrun
  refine wpList_plain hgd fun K hK => ?_
  unfold Oper.wp
  simp [execOp, ho, hs, hx, hrun, Result.andThen]
  refine hK _ _ (h _ ⟨⟨_, heap_alloc_new _ _, ?_⟩, fun p hp j v hv => ?_⟩ (by simp) ((Below.refl _ _).alloc (Nat.le_refl _) _))
  · rw [size_madeCells, List.length_replicate]
  · rw [List.length_replicate] at hp
    have e : (List.replicate c ((0, 0) : Int × Int)).getD p (0, 0) = (0, 0) := by simp [hp]
    rw [e] at hv
    have hj : j < 2 := (List.getElem?_eq_some_iff.1 hv).1
    rw [cell_of_row _ _ _ _ _ _ (heap_alloc_new _ _), ← hv]
    have hsz : p * 2 + j < c * 2 := by omega
    have hcl : (Value.agg #[.int .i64 0, .int .i64 0]).cells = #[.int .i64 0, .int .i64 0] := rfl
    unfold madeCells
    rw [hcl, Array.getElem?_map, Array.getElem?_range, if_pos hsz]
    have hm : (p * 2 + j) % 2 = j := by omega
    rcases j with _ | _ | j
    · simp [pv]
    · simp [hm, pv]
    · omega
/-! ### an angle, so many times -/
structure RepP (w : World) (p q : Int × Int) (W : World) : Prop where
  below : Below w.heap.size w W
  by_ : W.heap[w.heap.size]? = some (.cells (pairC p) 72 (0, 0))
  res : W.heap[w.heap.size + 1]? = some (.cells #[.int .i64 0, .int .i64 0] 72 (0, 0))
  sum : W.heap[w.heap.size + 1 + 1]? = some (.cells (pairC q) 72 (0, 0))
theorem RepP.made (w : World) (p q : Int × Int) (X Y Z : Array Value) (hX : X = pairC p) (hY : Y = #[.int .i64 0, .int .i64 0]) (hZ : Z = pairC q) : RepP w p q (((w.alloc (.cells X 72)).alloc (.cells Y 72)).alloc (.cells Z 72)) := by
  subst hX hY hZ
  have b1 := heap_alloc_new w (.cells (pairC p) 72)
  have b2 := heap_alloc_new (w.alloc (.cells (pairC p) 72)) (.cells #[.int .i64 0, .int .i64 0] 72)
  rw [World.size_alloc] at b2
  refine ⟨below3 _ _ _ _, ?_, ?_, top3 _ _ _ _ _⟩
  · rw [Below.heap_alloc _ _ _ (by simp; omega), Below.heap_alloc _ _ _ (by simp)]
    exact b1
  · rw [Below.heap_alloc _ _ _ (by simp)]
    exact b2
theorem RepP.later {w W W' : World} {p q : Int × Int} (h : RepP w p q W) (hb : Below W.heap.size W W') : RepP w p q W' :=
  ⟨h.below.trans (hb.mono h.below.size), (hb.block _ (Array.getElem?_eq_some_iff.1 h.by_).1).trans h.by_, (hb.block _ (Array.getElem?_eq_some_iff.1 h.res).1).trans h.res, (hb.block _ (Array.getElem?_eq_some_iff.1 h.sum).1).trans h.sum⟩
theorem RepP.next {w W : World} {p q : Int × Int} (h : RepP w p q W) (r : Int × Int) : RepP w p r (W.setRow (w.heap.size + 1 + 1) (pairC r)) := by
  refine ⟨below_setRow h.below (by omega) _, ?_, ?_, setRow_heap _ _ _ _ _ _ h.sum⟩
  · rw [setRow_other _ _ _ _ (by omega)]; exact h.by_
  · rw [setRow_other _ _ _ _ (by omega)]; exact h.res
theorem ang_upto {c d : Int} {n k : Nat} (h : (ang c d n).isSome = true) (hk : k ≤ n) : (ang c d k).isSome = true := by
  cases he : ang c d k with
  | some p => rfl
  | none =>
    have := ang_stays c d k he (n - k)
    rw [show k + (n - k) = n by omega] at this
    rw [this] at h
    cases h
theorem ang_next {c d : Int} {k : Nat} {p : Int × Int} (h : ang c d k = some p) : ang c d (k + 1) = trn p.1 p.2 c d := by
  rw [ang, h]; rfl
theorem size_pairC (p : Int × Int) : (Tryd.prog.info? 72).map (·.size) = some (pairC p).size := size_pairT
set_option maxHeartbeats 4000000 in
theorem repeated_any (w : World) (c d : Int) (n : Nat) (hn : n ≤ 1000000) (hc : isN c) (hd : isN d) (q : Int × Int) (hq : ang c d n = some q) :
    Calls Tryd.prog 75 #[.agg #[.int .i64 c, .int .i64 d], .int .i64 (n : Int)] w fun e w' => e = .returned (.agg (pairC q)) ∧ Below w.heap.size w w' := by
  have HA : Hid (∀ k, k ≤ n → (ang c d k).isSome = true) := Lib.hid (fun k hk => ang_upto (by rw [hq]; rfl) hk)
  have HT := Lib.hid (fun W (p : Int × Int) (hp : isN p.1 ∧ isN p.2) => turned_any W p.1 p.2 c d hp.1 hp.2 hc hd)
  have HQ := Lib.hid hq
  clear hc hd hq
  go_enter Tryd.func75, Tryd.ntmps75
  go_upto_region 2 with fail
  refine gen_world (Q := fun w => Code.wp _ _ _ _ w) _ (RepP w (c, d) (65536, 0)) (RepP.made w _ _ _ _ _ rfl rfl rfl) ?_
  intro W hW
  have HW := Lib.hid hW
  clear hW
  go_wp2
  go_loopw [8] (fun t wr => ∃ (k : Nat) (p : Int × Int), k ≤ n ∧ t = .int .i64 k ∧ ang c d k = some p ∧ RepP w (c, d) p wr) (fun t _ => n - (intOf t).toNat)
  case atStart => exact ⟨0, _, by omega, rfl, rfl, HW.out⟩
  case round =>
    clear HW
    obtain ⟨k, p, hk, rfl, hp, hS⟩ := hrel
    have HS := Lib.hid hS
    have HP := Lib.hid hp
    clear hS hp
    by_cases hlt : k < n
    · have hdt : decide (k < n) = true := by simp; omega
      obtain ⟨r, hr⟩ := Option.isSome_iff_exists.1 (HA.out (k + 1) (by omega))
      have HR := Lib.hid hr
      have HC := Lib.hid (fun W => HT.out W p (ang_in c d k p HP.out))
      rw [← ang_next HP.out, hr] at HC
      dsimp only [pairV] at HC
      clear hr
      go_wp2_with (first
        | (refine wpList_load_row rfl 72 (.tmp 5) rfl (w.heap.size + 1 + 1) rfl 72 (pairC p) (0, 0) _ HS.out.sum Tryd.underlying72 rfl size_pairT ?_)
        | (refine wpList_load_row rfl 72 (.tmp 2) rfl w.heap.size rfl 72 (pairC (c, d)) (0, 0) _ HS.out.by_ Tryd.underlying72 rfl size_pairT ?_)
        | (go_at_call 57; refine (HC.out _).mono ?_; rintro e w3 ⟨rfl, hb3⟩; have HS2 := Lib.hid (HS.out.later hb3); clear hb3)
        | (refine wpList_store_row rfl 72 (.tmp 5) (.tmp 14) rfl (w.heap.size + 1 + 1) (pairC r) rfl rfl 72 _ HS2.out.sum size_pairT rfl (pairC_one _) ?_))
      go_wp2
      go_roundw
      case rel => exact ⟨k + 1, r, by omega, by go_num, HR.out, HS2.out.next r⟩
      case measure => simp [intOf]; omega
    · obtain rfl : k = n := by omega
      have hdf : decide (k < k) = false := by simp
      have he : p = q := by have := HP.out; rw [HQ.out] at this; exact (Option.some.inj this).symm
      subst he
      go_wp2_with (first
        | (refine wpList_load_row rfl 72 (.tmp 5) rfl (w.heap.size + 1 + 1) rfl 72 (pairC p) (0, 0) _ HS.out.sum Tryd.underlying72 rfl size_pairT ?_)
        | (refine wpList_store_row rfl 72 (.tmp 4) (.tmp 17) rfl (w.heap.size + 1) (pairC p) rfl rfl 72 _ HS.out.res size_pairT rfl (pairC_one _) ?_))
      (try simp only [Act.put])
      exact bodyPost_ret (v := .agg (pairC p)) (results_cell_row Tryd.results75 _ _ (w.heap.size + 1) 72 (pairC p) (0, 0) _ rfl (setRow_heap _ _ _ _ _ _ HS.out.res) Tryd.underlying72 rfl size_pairT) rfl ⟨rfl, below_setRow HS.out.below (by omega) _⟩
end Go.Proofs.YtchjijifmjbgoaaDoor.Tn
