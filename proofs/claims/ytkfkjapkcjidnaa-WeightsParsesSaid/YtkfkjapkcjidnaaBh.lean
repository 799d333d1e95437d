import Derived.Test.YtkfkjapkcjidnaaBx
import Derived.Lib.ConvBytes
import Derived.Lib.AtoiErrMem
-- from De
namespace Go.Proofs.Ytkfkjapkcjidnaa.Bp
set_option maxRecDepth 100000
open Go.ChangeShapes Go.WideShapes Go.ChangeAt Go.RowKit Go.Proofs.Ytkfkjapkcjidnaa.Tn
/-! ### texts are short, and of bytes -/
structure Good (T : List (List Int)) : Prop where
  rng : ∀ t ∈ T, ∀ x ∈ t, 0 ≤ x ∧ x < 256
  short : ∀ t ∈ T, t.length ≤ 16
section
variable {T : List (List Int)}
theorem Good.at_ (h : Good T) (k : Nat) : (∀ x ∈ T.getD k [], 0 ≤ x ∧ x < 256) ∧ (T.getD k []).length ≤ 16 := by
  by_cases hk : k < T.length
  · rw [List.getD_eq_getElem?_getD, List.getElem?_eq_getElem hk]
    exact ⟨h.rng _ (List.getElem_mem hk), h.short _ (List.getElem_mem hk)⟩
  · rw [List.getD_eq_getElem?_getD, List.getElem?_eq_none (by omega)]
    simp
theorem Good.snoc (h : Good T) {p : Int × Int} (hl : (txt T p).length ≤ 16) : Good (T ++ [txt T p]) := by
  refine ⟨fun t ht x hx => ?_, fun t ht => ?_⟩
  · rcases List.mem_append.1 ht with h1 | h1
    · exact h.rng t h1 x hx
    · obtain rfl : t = txt T p := by simpa using h1
      rcases List.mem_append.1 hx with h2 | h2
      · exact (h.at_ _).1 x h2
      · exact (h.at_ _).1 x h2
  · rcases List.mem_append.1 ht with h1 | h1
    · exact h.short t h1
    · obtain rfl : t = txt T p := by simpa using h1
      exact hl
theorem good_newT : ∀ (r seen : List (Int × Int)) (T : List (List Int)), Good T → Good (newT T seen r).2
  | [], _, _, h => h
  | p :: r, seen, T, h => by
    rw [newT]
    by_cases hs : stepE T seen p = 0
    · rw [if_neg (by omega)]
      exact good_newT r _ _ (h.snoc (stepE_zero hs).2.2.2)
    · rw [if_pos hs]
      exact ⟨by simp, by simp⟩
theorem good_newD {al : List Int} (ps : List (Int × Int)) (h : ∀ x ∈ al, 0 ≤ x ∧ x < 256) : Good (newD al ps).2 := by
  have he : Good [] := ⟨by simp, by simp⟩
  unfold newD
  split
  · exact he
  · split
    · exact he
    · refine good_newT _ _ _ ⟨fun t ht x hx => ?_, fun t ht => ?_⟩
      · obtain ⟨y, hy, rfl⟩ := List.mem_map.1 ht
        obtain rfl : x = y := by simpa using hx
        exact h x hy
      · obtain ⟨y, hy, rfl⟩ := List.mem_map.1 ht
        simp
end
/-- a row of bytes of one's own -/
def Own5 (b n : Nat) (W : World) : Prop := ∃ cs fr, W.heap[b]? = some (.cells cs 5 fr) ∧ n ≤ fr.1 ∧ ∀ j, j < n → ∃ x : Int, cs[j]? = some (.int .u8 x)
section
variable {b n : Nat} {W W' : World}
theorem Own5.later (h : Own5 b n W) (hb : Below W.heap.size W W') : Own5 b n W' := by
  obtain ⟨cs, fr, h1, h2, h3⟩ := h
  exact ⟨cs, fr, (hb.block _ (Array.getElem?_eq_some_iff.1 h1).1).trans h1, h2, h3⟩
theorem Own5.at_ (h : Own5 b n W) {j : Nat} (hj : j < n) : (∃ x : Int, W.cell? ⟨b, j, none⟩ = some (.int .u8 x)) ∧ W.frozen? ⟨b, j, none⟩ = false := by
  obtain ⟨cs, fr, h1, h2, h3⟩ := h
  obtain ⟨x, hx⟩ := h3 j hj
  refine ⟨⟨x, ?_⟩, ?_⟩
  · rw [cell_of_row _ _ _ _ _ _ h1]
    exact hx
  · simp [World.frozen?, h1]
    omega
end
end Go.Proofs.Ytkfkjapkcjidnaa.Bp
-- from Bj
namespace Go.Proofs.Ytkfkjapkcjidnaa.Bp
set_option maxRecDepth 100000
open Go.ChangeShapes Go.WideShapes Go.ChangeAt Go.RowKit Go.Proofs.Ytkfkjapkcjidnaa.Tn
/-! ### the document's New: tools of its second loop -/
/-- a pair of the document's in a block of its own -/
structure P2 (b : Nat) (x y : Int) (W : World) : Prop where
  row : W.heap[b]? = some (.cells #[.int .i64 x, .int .i64 y] 54 (0, 0))
section
variable {W W' : World} {b : Nat} {x y : Int}
theorem P2.later (h : P2 b x y W) (hb : Below W.heap.size W W') : P2 b x y W' := ⟨(hb.block _ (Array.getElem?_eq_some_iff.1 h.row).1).trans h.row⟩
theorem P2.lt (h : P2 b x y W) : b < W.heap.size := (Array.getElem?_eq_some_iff.1 h.row).1
theorem P2.cells (h : P2 b x y W) : W.cell? ⟨b, 0, none⟩ = some (.int .i64 x) ∧ W.cell? ⟨b, 1, none⟩ = some (.int .i64 y) := by
  constructor
  · rw [cell_of_row _ _ _ _ _ _ h.row]; rfl
  · rw [cell_of_row _ _ _ _ _ _ h.row]; rfl
end
theorem size_3 (W : World) : (sizeOf 3).run Try.prog W = .ok 1 W := by kernel_rfl
theorem eq_arr2 (a b c d : Int) (W : World) : (Op.equalIn 10000 54 (.agg #[.int .i64 a, .int .i64 b]) (.agg #[.int .i64 c, .int .i64 d])).run Try.prog W = .ok (decide ((a, b) = (c, d))) W := by
  show (Op.equalIn (9999 + 1) 54 (.agg #[.int .i64 a, .int .i64 b]) (.agg #[.int .i64 c, .int .i64 d])).run Try.prog W = _
  have e1 := eq_int 9998 a c W
  have e2 := eq_int 9998 b d W
  unfold Op.equalIn
  simp only [Sem.run_bind, run_underlying Try.underlying54, Result.andThen_ok, size_3]
  rw [Std.Legacy.Range.forIn_eq_forIn_range']
  by_cases h1 : a = c
  · subst h1
    by_cases h2 : b = d
    · subst h2
      simp [Std.Legacy.Range.size, List.range', part3_0, part3_1, e1, e2]
    · have h2' : (b == d) = false := by simpa using h2
      rw [h2'] at e2
      simp [Std.Legacy.Range.size, List.range', part3_0, part3_1, e1, e2, h2]
  · have h1' : (a == c) = false := by simpa using h1
    rw [h1'] at e1
    simp [Std.Legacy.Range.size, List.range', part3_0, e1, h1]
theorem ptake_get {ps : List (Int × Int)} {j k : Nat} (h : j < k) : (ps.take k).getD j (0, 0) = ps.getD j (0, 0) := by
  rw [List.getD_eq_getElem?_getD, List.getElem?_take, if_pos h, ← List.getD_eq_getElem?_getD]
theorem ptake_mem {ps : List (Int × Int)} {j k : Nat} (hj : j < ps.length) (h : j < k) : (ps.take k).getD j (0, 0) ∈ ps.take k := by
  have hl : j < (ps.take k).length := by rw [List.length_take]; omega
  rw [List.getD_eq_getElem?_getD, List.getElem?_eq_getElem hl]
  exact List.getElem_mem hl
theorem ptake_notin {ps : List (Int × Int)} {k : Nat} {p : Int × Int} (hk : k ≤ ps.length) (h : ∀ z, z < k → ps.getD z (0, 0) ≠ p) : p ∉ ps.take k := fun hm => by
  obtain ⟨j, hj, e⟩ := List.mem_iff_getElem.1 hm
  have hjk : j < k := by rw [List.length_take] at hj; omega
  apply h j hjk
  rw [← ptake_get hjk, List.getD_eq_getElem?_getD, List.getElem?_eq_getElem hj]
  exact e
theorem prs_of_own {W : World} {base n : Nat} {v : Value} {ps : List (Int × Int)} (h : W.ownsRow base 54 2 v n (pcs ps)) : ∃ sq cq, v = .slice sq n cq ∧ ps.length = n ∧ Prs W sq cq ps := by
  have hl := pcs_length ps
  obtain ⟨h0, ⟨rfl, rfl⟩ | ⟨g, cap, cur, rfl, hb, hg, hle, hmx, hsz, htk⟩⟩ := h
  · have : ps.length = 0 := by omega
    exact ⟨none, 0, rfl, this, by omega, by unfold maxLen; omega, fun _ => rfl, fun h => by omega⟩
  · refine ⟨_, cap, rfl, by omega, by omega, hmx, fun e => by (cases e), fun _ => ⟨g, 0, rfl, fun k hk => ?_⟩⟩
    have hat := pcs_at ps k hk
    have hcell : ∀ j, j < n * 2 → W.cell? ⟨g, j, none⟩ = (pcs ps)[j]? := fun j hj => by
      rw [cell_of_row _ _ _ _ _ _ hg, ← htk, List.getElem?_take, if_pos hj, Array.getElem?_toList]
    intro j u hu
    rcases j with _ | _ | j
    · rw [Nat.zero_add, Nat.add_zero, hcell _ (by omega), hat.1]
      simpa using hu
    · rw [Nat.zero_add, Nat.zero_add, hcell _ (by omega), hat.2]
      simpa using hu
    · simp at hu
end Go.Proofs.Ytkfkjapkcjidnaa.Bp
-- from Bh
namespace Go.Proofs.Ytkfkjapkcjidnaa.Bp
set_option maxRecDepth 100000
open Go.ChangeShapes Go.WideShapes Go.ChangeAt Go.RowKit Go.Proofs.Ytkfkjapkcjidnaa.Tn
/-! ### the document's New -/
def noC : Value := .agg #[.slice none 0 0, .slice none 0 0, .int .i64 0]
theorem size_coder : (Try.prog.info? 73).map (·.size) = some 3 := by kernel_rfl
/-- what New answers: a coder, or what is wrong -/
def NewA (w : World) (al : List Int) (ps : List (Int × Int)) (e : Ending) (w' : World) : Prop :=
  ∃ cv, e = .returned (.tuple #[cv, .int .i64 (newD al ps).1]) ∧ Below w.heap.size w w' ∧
    (((newD al ps).1 ≠ 0 ∧ cv = noC) ∨ ((newD al ps).1 = 0 ∧ ∃ st ct sq cq, cv = .agg #[.slice st (newD al ps).2.length ct, .slice sq ps.length cq, .int .i64 (al.length : Int)] ∧ Strs w' st ct (newD al ps).2 ∧ Prs w' sq cq ps))
/-- the result's cell -/
structure Rc (w W : World) : Prop where
  below : Below w.heap.size w W
  res : W.heap[w.heap.size]? = some (.cells #[.slice none 0 0, .slice none 0 0, .int .i64 0] 73 (0, 0))
theorem Rc.later {w W W' : World} (h : Rc w W) (hb : Below W.heap.size W W') : Rc w W' := ⟨h.below.trans (hb.mono h.below.size), (hb.block _ (Array.getElem?_eq_some_iff.1 h.res).1).trans h.res⟩
theorem one_coder (a b c : Value) (h1 : a.oneCell' = true) (h2 : b.oneCell' = true) (h3 : c.oneCell' = true) : (#[a, b, c] : Array Value).all (·.oneCell') = true := by simp [h1, h2, h3]
theorem size_coder3 (a b c : Value) : (Try.prog.info? 73).map (·.size) = some (#[a, b, c] : Array Value).size := size_coder
theorem Nw.made (w : World) (n : Nat) : Nw w n [] [] (.slice none 0 0) (.slice none 0 0) ((w.alloc (.cells #[.slice none 0 0, .slice none 0 0, .int .i64 0] 73)).alloc (.cells #[.slice none 0 0, .slice none 0 0, .int .i64 (n : Int)] 73)) :=
  ⟨((Below.refl _ _).alloc (Nat.le_refl _) _).alloc (by simp) _,
   by
    rw [heap_alloc_old _ _ (by simp)]
    exact heap_alloc_new _ _,
   top2 _ _ _ _, World.ownsRow_nil _ _ _ _, World.ownsRow_nil _ _ _ _⟩
set_option maxHeartbeats 8000000 in
theorem refNew_any (w : World) (ap qp : Option Addr) (ca cq n P : Nat) (al : List Int) (ps : List (Int × Int)) (ha : Byts w ap ca al) (hn : al.length = n) (hps : Prs w qp cq ps) (hP : ps.length = P) (hs : n ≤ 1000000) (hs2 : P ≤ 1000000) :
    Calls Try.prog 24 #[.slice ap n ca, .slice qp P cq] w (NewA w al ps) := by
  have Hn := Lib.hid hn
  have HP := Lib.hid hP
  have HAw := Lib.hid ha
  have HPw := Lib.hid hps
  have HR0 : Hid (Rc w (w.alloc (.cells #[.slice none 0 0, .slice none 0 0, .int .i64 0] 73))) := Lib.hid ⟨(Below.refl _ _).alloc (Nat.le_refl _) _, heap_alloc_new _ _⟩
  have w1 : IntKind.i64.wrap ((n : Int) + (P : Int)) = (n : Int) + (P : Int) := IntWalk.i64_in _ (by omega)
  by_cases hsz : n < 1 ∨ 512 < n + P
  · have HD : Hid (newD al ps = (13, [])) := Lib.hid (by unfold newD; rw [if_pos (by omega)])
    by_cases h1 : n < 1
    · have e1 : decide (n < 1) = true := by simpa using h1
      have e2 : decide ((n : Int) < 1) = true := by simp; omega
      clear ha hn hps hP
      go_enter Try.func24, Try.ntmps24
      go_upto_region 1 with fail
      refine gen_w (Q := fun w => Code.wp _ _ _ _ w) _ (Rc w) HR0.out ?_
      intro w1 hr1
      have HR1 := Lib.hid hr1
      clear hr1
      go_wp2_with (refine wpList_store_row rfl 73 (.tmp 4) (.tmp 24) rfl w.heap.size #[.slice none 0 0, .slice none 0 0, .int .i64 0] rfl rfl 73 _ HR1.out.res (size_coder3 _ _ _) rfl (one_coder _ _ _ rfl rfl rfl) ?_)
      exact bodyPost_ret (v := .tuple #[noC, .int .i64 13]) (results_two Try.results24 _ _ w.heap.size 73 #[.slice none 0 0, .slice none 0 0, .int .i64 0] (0, 0) _ _ rfl rfl (setRow_heap _ _ _ _ _ _ HR1.out.res) Try.underlying73 rfl size_coder) rfl ⟨noC, by rw [HD.out], below_setRow HR1.out.below (Nat.le_refl _) _, Or.inl ⟨by rw [HD.out]; decide, rfl⟩⟩
    · have e1 : decide (n < 1) = false := by simpa using h1
      have e2 : decide ((n : Int) < 1) = false := by simp; omega
      have e3 : decide ((512 : Int) < (n : Int) + (P : Int)) = true := by simp; omega
      clear ha hn hps hP
      go_enter Try.func24, Try.ntmps24
      go_upto_region 1 with fail
      refine gen_w (Q := fun w => Code.wp _ _ _ _ w) _ (Rc w) HR0.out ?_
      intro w1 hr1
      have HR1 := Lib.hid hr1
      clear hr1
      go_wp2_with (refine wpList_store_row rfl 73 (.tmp 4) (.tmp 24) rfl w.heap.size #[.slice none 0 0, .slice none 0 0, .int .i64 0] rfl rfl 73 _ HR1.out.res (size_coder3 _ _ _) rfl (one_coder _ _ _ rfl rfl rfl) ?_)
      exact bodyPost_ret (v := .tuple #[noC, .int .i64 13]) (results_two Try.results24 _ _ w.heap.size 73 #[.slice none 0 0, .slice none 0 0, .int .i64 0] (0, 0) _ _ rfl rfl (setRow_heap _ _ _ _ _ _ HR1.out.res) Try.underlying73 rfl size_coder) rfl ⟨noC, by rw [HD.out], below_setRow HR1.out.below (Nat.le_refl _) _, Or.inl ⟨by rw [HD.out]; decide, rfl⟩⟩
  have h1 : ¬ n < 1 := by omega
  have e1 : decide (n < 1) = false := by simpa using h1
  have e2 : decide ((n : Int) < 1) = false := by simp; omega
  have e3 : decide ((512 : Int) < (n : Int) + (P : Int)) = false := by simp; omega
  have HS : Hid (1 ≤ n ∧ n + P ≤ 512) := Lib.hid (by omega)
  have HN0 := Lib.hid (Nw.made w n)
  clear ha hn hps hP hsz h1
  go_enter Try.func24, Try.ntmps24
  go_upto_region 4 with fail
  refine gen_w (Q := fun w => Code.wp _ _ _ _ w) _ (Nw w n [] [] (.slice none 0 0) (.slice none 0 0)) HN0.out ?_
  intro w1 hn1
  have HN1 := Lib.hid hn1
  clear hn1 HN0
  go_wp2
  go_loopw [7, 8] (fun iv _ wr => ∃ (i : Nat) (sv : Value), i ≤ n ∧ iv = .int .i64 i ∧ (al.take i).Nodup ∧ Nw w n (one (al.take i)) [] sv (.slice none 0 0) wr) (fun iv _ _ => n - (intOf iv).toNat)
  case atStart => exact ⟨0, _, by omega, rfl, by simp, HN1.out⟩
  case round =>
    clear HN1
    obtain ⟨i, sv, hi, rfl, hnd, hnw⟩ := hrel
    have HNd := Lib.hid hnd
    have HNw := Lib.hid hnw
    clear hnd hnw
    by_cases hil : i < n
    · have hd1 : decide (i < n) = true := by simpa using hil
      have hd2 : decide ((i : Int) < (n : Int)) = true := by simp; omega
      obtain ⟨d, p, e, h8⟩ := HAw.out.at_ i (by rw [Hn.out]; exact hil)
      obtain ⟨x, hx⟩ : ∃ x, al.getD i 0 = x := ⟨_, rfl⟩
      rw [hx] at h8
      have HAt := Lib.hid h8
      have h9 := (HNw.out.below.cell (block_lt_of_cell h8)).trans h8
      clear h8
      have HXx := Lib.hid hx
      have Hci := Lib.hid h9
      have HiN : Hid (i < n) := Lib.hid hil
      clear hx h9
      subst e
      go_upto_region 7 with fail
      obtain ⟨w2, hw2⟩ : ∃ w2, w2 = wr := ⟨_, rfl⟩
      subst hw2
      go_wp2
      go_loopw [8] (fun kv wr => ∃ (k q : Nat), k ≤ i ∧ kv = .int .i64 k ∧ wr = w2.drewN q ∧ ∀ j, j < k → al.getD j 0 ≠ x) (fun kv _ => i - (intOf kv).toNat)
      case atStart => exact ⟨0, 0, by omega, rfl, rfl, fun j hj => by omega⟩
      case round =>
        obtain ⟨k, q, hk, rfl, rfl, hno⟩ := hrel
        have HNo := Lib.hid hno
        clear hno
        by_cases hlt : k < i
        · have hdt : decide (k < i) = true := by simpa using hlt
          have hdt2 : decide ((k : Int) < (i : Int)) = true := by simp; omega
          have c1 := (HAw.out.below HNw.out.below).cell k (by rw [Hn.out]; omega)
          have c2 := Hci.out
          obtain ⟨y, hy⟩ : ∃ y, al.getD k 0 = y := ⟨_, rfl⟩
          rw [hy] at c1
          have HYy := Lib.hid hy
          clear hy
          by_cases hyx : y = x
          · have HD : Hid (newD al ps = (15, [])) := Lib.hid (by
              unfold newD
              have hh := HS.out
              have hl := Hn.out
              rw [if_neg (by rw [Hn.out, HP.out]; omega), if_pos (dup_not (k := k) (i := i) hlt (by omega) (by rw [HYy.out, HXx.out]; exact hyx))])
            subst hyx
            have e5 := same_beq y
            clear HXx HYy
            go_wp2
            go_quiet (fail)
            have HN3 := Lib.hid (HNw.out.later (below_drewN (below_drewN (Below.refl w2.heap.size w2) q) nq))
            generalize (w2.drewN q).drewN nq = w3 at HN3 ⊢
            clear c1 c2
            go_wp2_with (refine wpList_store_row rfl 73 (.tmp 4) (.tmp 48) rfl w.heap.size #[.slice none 0 0, .slice none 0 0, .int .i64 0] rfl rfl 73 _ HN3.out.res (size_coder3 _ _ _) rfl (one_coder _ _ _ rfl rfl rfl) ?_)
            exact bodyPost_ret (v := .tuple #[noC, .int .i64 15]) (results_two Try.results24 _ _ w.heap.size 73 #[.slice none 0 0, .slice none 0 0, .int .i64 0] (0, 0) _ _ rfl rfl (setRow_heap _ _ _ _ _ _ HN3.out.res) Try.underlying73 rfl size_coder) rfl ⟨noC, by rw [HD.out], below_setRow HN3.out.below (Nat.le_refl _) _, Or.inl ⟨by rw [HD.out]; decide, rfl⟩⟩
          · have e5 : (y == x) = false := by simpa using hyx
            go_wp2
            go_quiet (fail)
            go_wp2
            go_roundw
            case rel => exact ⟨k + 1, _, by omega, by go_num, rfl, fun j hj => by
              by_cases h : j < k
              · exact HNo.out j h
              · obtain rfl : j = k := by omega
                rw [HYy.out]
                exact hyx⟩
            case measure => simp [intOf]; omega
        · obtain rfl : k = i := by omega
          have hdf : decide (k < k) = false := by simp
          have HNn : Hid (Nw w n (one (al.take k)) [] sv (.slice none 0 0) (w2.drewN q)) := Lib.hid (HNw.out.later (below_drewN (Below.refl w2.heap.size w2) q))
          generalize w2.drewN q = w3 at HNn ⊢
          have HLk : Hid ((one (al.take k)).length = k) := Lib.hid (by simp [one]; have := Hn.out; omega)
          have Hlo : Hid (∀ b, sv.ownBlock = some b → b < w3.heap.size) := Lib.hid (fun b hb => (HNn.out.texts.lt b hb).2)
          have Hdw : Hid (d < w.heap.size) := Lib.hid (block_lt_of_cell (HAt.out))
          have HcN : Hid (w3.cell? ⟨d, p + k, none⟩ = some (.int .u8 x)) := Lib.hid ((HNn.out.below.cell (block_lt_of_cell HAt.out)).trans HAt.out)
          go_upto_region 12 with fail
          refine Tn.wp_region_spec_at (C := fun W => w3.grownBy W sv.ownBlock) (Le := Le12 sv.ownBlock) (Pre := fun j W => j = 9 → Below w3.heap.size w3 W) 11 (fun _ => (neP (w.heap.size + 2) w3.heap.size (strV [x]) (.int .u8 x) (k + 1) ((one (al.take k) ++ [[x]]).map strV) (neX w.heap.size sv (some ⟨d, p, none⟩) n ca d p k x))) (by kernel_rfl) (by kernel_rfl) ⟨rfl, rfl, rfl, Nat.le_refl _, fun _ _ _ => rfl⟩ (fun _ _ _ _ _ _ h => h) (fun _ j i W W' y hne hle h => neP_later Hlo.out hne hle h) (fun j i W W' hne hle hp e => (hp e).trans ((hle.2 (by omega)).mono (hp e).size)) (fun j _ => ⟨rfl, rfl, rfl, Nat.le_refl _, fun _ _ => rfl⟩) (fun ixx yy => ∀ z, neX w.heap.size sv (some ⟨d, p, none⟩) n ca d p k x ixx = some z → yy = z) (fun _ _ _ _ h => h.2.2.2) (fun ixx => (neX w.heap.size sv (some ⟨d, p, none⟩) n ca d p k x ixx).getD undef) (fun ixx z h => by simp [h]) ?_ ?_
          · intro u hu
            have h0 : u 0 = .pointer (some ⟨w.heap.size + 1, 0, none⟩) := hu 0 _ rfl
            have h1 : u 1 = sv := hu 1 _ rfl
            have h2 : u 2 = .slice (some ⟨d, p, none⟩) n ca := hu 2 _ rfl
            have h3 : u 3 = .int .i64 (k : Int) := hu 3 _ rfl
            have h4 : u 4 = .pointer (some ⟨d, p + k, none⟩) := hu 4 _ rfl
            have h5 : u 5 = .int .u8 x := hu 5 _ rfl
            have h7 : u 7 = strV [x] := hu 7 _ rfl
            have h10 : u 10 = .pointer (some ⟨w.heap.size + 1, 0, none⟩) := hu 10 _ rfl
            simp only [List.take_succ_cons, List.take_zero]
            refine Tn.spec_cons (fun W hC hd => ⟨by rfl, ?_⟩) ?_
            · exact Tn.gives_val (.pointer (some ⟨w.heap.size + 1, 0, none⟩)) W (exec_fld0 (.tmp 6) rfl (w.heap.size + 1) rfl) ⟨hC, le_b (by decide) (Below.refl _ _), (fun h => absurd h (by decide)), (fun h => absurd h (by decide)), (fun h => absurd h (by decide)), fun z hz => by cases hz; rfl⟩
            simp only [Act.put, List.setIfInBounds_toArray, List.set_cons_succ, List.set_cons_zero, Nat.reduceAdd]
            rw [h0]
            refine Tn.spec_cons (fun W hC hd => ⟨by rfl, ?_⟩) ?_
            · exact Tn.gives_val (sv) W (exec_load1 70 (.tmp 49) rfl ⟨w.heap.size + 1, 0, none⟩ rfl _ (cell_grown hC HNn.out.cells.1 (fun k hk => by have := (own_block HNn.out.texts hk).1; omega)) _ Try.underlying70 rfl) ⟨hC, le_b (by decide) (Below.refl _ _), (fun h => absurd h (by decide)), (fun h => absurd h (by decide)), (fun h => absurd h (by decide)), fun z hz => by cases hz; rfl⟩
            simp only [Act.put, List.setIfInBounds_toArray, List.set_cons_succ, List.set_cons_zero, Nat.reduceAdd]
            rw [h1]
            refine Tn.spec_cons (fun W hC hd => ⟨by rfl, ?_⟩) ?_
            · exact Tn.gives_val (.slice (some ⟨d, p, none⟩) n ca) W (by rfl) ⟨hC, le_b (by decide) (Below.refl _ _), (fun h => absurd h (by decide)), (fun h => absurd h (by decide)), (fun h => absurd h (by decide)), fun z hz => by cases hz; rfl⟩
            simp only [Act.put, List.setIfInBounds_toArray, List.set_cons_succ, List.set_cons_zero, Nat.reduceAdd]
            rw [h2]
            refine Tn.spec_cons (fun W hC hd => ⟨by rfl, ?_⟩) ?_
            · exact Tn.gives_val (.int .i64 (k : Int)) W (by rfl) ⟨hC, le_b (by decide) (Below.refl _ _), (fun h => absurd h (by decide)), (fun h => absurd h (by decide)), (fun h => absurd h (by decide)), fun z hz => by cases hz; rfl⟩
            simp only [Act.put, List.setIfInBounds_toArray, List.set_cons_succ, List.set_cons_zero, Nat.reduceAdd]
            rw [h3]
            refine Tn.spec_cons (fun W hC hd => ⟨by rfl, ?_⟩) ?_
            · exact Tn.gives_val (.pointer (some ⟨d, p + k, none⟩)) W (exec_at1 24 5 Try.underlying24 (by kernel_rfl) (.tmp 51) (.tmp 52) rfl d p n ca k rfl rfl HiN.out) ⟨hC, le_b (by decide) (Below.refl _ _), (fun h => absurd h (by decide)), (fun h => absurd h (by decide)), (fun h => absurd h (by decide)), fun z hz => by cases hz; rfl⟩
            simp only [Act.put, List.setIfInBounds_toArray, List.set_cons_succ, List.set_cons_zero, Nat.reduceAdd]
            rw [h4]
            refine Tn.spec_cons (fun W hC hd => ⟨by rfl, ?_⟩) ?_
            · exact Tn.gives_val (.int .u8 x) W (exec_load1 5 (.tmp 53) rfl ⟨d, p + k, none⟩ rfl _ (cell_grown hC HcN.out (fun k hk => by have := (own_block HNn.out.texts hk).1; have := Hdw.out; omega)) _ Try.underlying5 rfl) ⟨hC, le_b (by decide) (Below.refl _ _), (fun h => absurd h (by decide)), (fun h => absurd h (by decide)), (fun h => absurd h (by decide)), fun z hz => by cases hz; rfl⟩
            simp only [Act.put, List.setIfInBounds_toArray, List.set_cons_succ, List.set_cons_zero, Nat.reduceAdd]
            rw [h5]
            refine Tn.spec_cons (fun W hC hd => ⟨by rfl, ?_⟩) ?_
            · exact Tn.gives_val _ _ (exec_byte1 (.tmp 54) rfl x rfl) ⟨grown_trans hC (grown_of ((Below.refl W.heap.size W).alloc (Nat.le_refl _) _) _), le_b (by decide) ((Below.refl W.heap.size W).alloc (Nat.le_refl _) _), (fun _ => OneV.made _ W 5 hC.size), (fun h => absurd h (by decide)), (fun h => absurd h (by decide)), fun z hz => by cases hz⟩
            simp only [Act.put, List.setIfInBounds_toArray, List.set_cons_succ, List.set_cons_zero, Nat.reduceAdd]
            refine Tn.spec_cons (fun W hC hd => ⟨by rfl, ?_⟩) ?_
            · obtain ⟨b9, e9, _, c9⟩ := (hd ⟨6, .data⟩ (by simp) rfl).1 rfl
              exact Tn.gives_val (strV [x]) W (exec_str1 (.tmp 55) rfl b9 x e9 c9) ⟨hC, le_b (by decide) (Below.refl _ _), (fun h => absurd h (by decide)), (fun h => absurd h (by decide)), (fun h => absurd h (by decide)), fun z hz => by cases hz; rfl⟩
            simp only [Act.put, List.setIfInBounds_toArray, List.set_cons_succ, List.set_cons_zero, Nat.reduceAdd]
            rw [h7]
            refine Tn.spec_cons (fun W hC hd => ⟨by rfl, ?_⟩) ?_
            · exact Tn.gives_val _ _ (exec_slstr (.tmp 56) rfl [x] rfl) ⟨grown_trans hC (grown_of ((Below.refl W.heap.size W).alloc (Nat.le_refl _) _) _), le_b (by decide) ((Below.refl W.heap.size W).alloc (Nat.le_refl _) _), (fun h => absurd h (by decide)), (fun _ => OneV.made _ W 9 hC.size), (fun h => absurd h (by decide)), fun z hz => by cases hz⟩
            simp only [Act.put, List.setIfInBounds_toArray, List.set_cons_succ, List.set_cons_zero, Nat.reduceAdd]
            refine Tn.spec_cons_at (fun W hC hp hd => ⟨by rfl, ?_⟩) ?_
            · obtain ⟨b8, e8, hl8, c8⟩ := (hd ⟨8, .data⟩ (by simp) rfl).2.1 rfl
              have hown := HNn.out.texts.kept (row := none) (grown_of (hp rfl) none) (by cases sv.ownBlock <;> simp)
              rw [HLk.out] at hown
              exact gives_append_str (.tmp 50) (.tmp 57) rfl (w.heap.size + 2) sv k (one (al.take k)) [x] rfl hown b8 e8 c8 (by omega) (Nat.le_trans HNn.out.big hC.size) (fun v' W' hown hg => ⟨grown_trans hC hg, le_g hg, (fun h => absurd h (by decide)), (fun h => absurd h (by decide)), (fun _ => hown), fun z hz => by cases hz⟩)
            simp only [Act.put, List.setIfInBounds_toArray, List.set_cons_succ, List.set_cons_zero, Nat.reduceAdd]
            refine Tn.spec_cons (fun W hC hd => ⟨by rfl, ?_⟩) ?_
            · exact Tn.gives_val (.pointer (some ⟨w.heap.size + 1, 0, none⟩)) W (exec_fld0 (.tmp 6) rfl (w.heap.size + 1) rfl) ⟨hC, le_b (by decide) (Below.refl _ _), (fun h => absurd h (by decide)), (fun h => absurd h (by decide)), (fun h => absurd h (by decide)), fun z hz => by cases hz; rfl⟩
            simp only [Act.put, List.setIfInBounds_toArray, List.set_cons_succ, List.set_cons_zero, Nat.reduceAdd]
            rw [h10]
            exact Tn.spec_nil
          · intro u W hu hC hP
            have h0 : u 0 = .pointer (some ⟨w.heap.size + 1, 0, none⟩) := hu 0 _ rfl
            have h1 : u 1 = sv := hu 1 _ rfl
            have h2 : u 2 = .slice (some ⟨d, p, none⟩) n ca := hu 2 _ rfl
            have h3 : u 3 = .int .i64 (k : Int) := hu 3 _ rfl
            have h4 : u 4 = .pointer (some ⟨d, p + k, none⟩) := hu 4 _ rfl
            have h5 : u 5 = .int .u8 x := hu 5 _ rfl
            have h7 : u 7 = strV [x] := hu 7 _ rfl
            have h10 : u 10 = .pointer (some ⟨w.heap.size + 1, 0, none⟩) := hu 10 _ rfl
            obtain ⟨b6, e6, _⟩ := (hP 6 (by omega)).1 rfl
            obtain ⟨b8, e8, _⟩ := (hP 8 (by omega)).2.1 rfl
            have o9 := (hP 9 (by omega)).2.2.1 rfl
            obtain ⟨v9, hv9⟩ : ∃ v9, u 9 = v9 := ⟨_, rfl⟩
            rw [hv9] at o9
            simp only [List.take_succ_cons, List.take_zero, List.drop_succ_cons, List.drop_zero, Tn.putAll, Act.put, List.setIfInBounds_toArray, List.set_cons_succ, List.set_cons_zero, Nat.reduceAdd]
            rw [h0, h1, h2, h3, h4, h5, e6, h7, e8, hv9, h10]
            have HO9 := Lib.hid o9
            have HG9 : Hid (w3.grownBy W sv.ownBlock) := Lib.hid hC
            clear hu h0 h1 h2 h3 h4 h5 h7 h10 e6 e8 hC hP o9 hv9
            have HRw : Hid (W.heap[w.heap.size + 1]? = some (.cells #[sv, .slice none 0 0, .int .i64 (n : Int)] 73 (0, 0))) := Lib.hid ((HG9.out.block _ (by have := HNn.out.big; omega) (fun e => by have := (own_block HNn.out.texts e.symm).1; omega)).trans HNn.out.row)
            have q1 : W.cell? ⟨w.heap.size + 1, 0, none⟩ = some sv := by rw [cell_of_row _ _ _ _ _ _ HRw.out]; rfl
            have q2 : W.frozen? ⟨w.heap.size + 1, 0, none⟩ = false := frozen_of_row _ _ _ _ _ HRw.out
            have HT9 : Hid (Nw w n (one (al.take k) ++ [[x]]) [] v9 (.slice none 0 0) (W.setCell ⟨w.heap.size + 1, 0, none⟩ v9)) := Lib.hid (HNn.out.text HG9.out (by rw [HLk.out]; exact HO9.out))
            have HOn : Hid (one (al.take (k + 1)) = one (al.take k) ++ [[x]]) := Lib.hid (by rw [take_at (by rw [Hn.out]; exact HiN.out), HXx.out]; simp [one])
            have HDn : Hid ((al.take (k + 1)).Nodup) := Lib.hid (by
              rw [take_at (by rw [Hn.out]; exact HiN.out), HXx.out, List.nodup_append]
              refine ⟨HNd.out, by simp, fun a ha b hb => ?_⟩
              obtain rfl : b = x := by simpa using hb
              intro e
              subst e
              obtain ⟨j, hj, e⟩ := List.mem_iff_getElem.1 ha
              have hjl : j < al.length := by simp at hj; omega
              have hjk : j < k := by simp at hj; omega
              apply HNo.out j hjk
              rw [List.getElem_take] at e
              simp [hjl, e])
            obtain ⟨s9, c9, rfl, _, _, _⟩ := Tn.Sl.all1 HO9.out
            go_wp2
            go_roundw
            case rel => exact ⟨k + 1, _, by omega, by go_num, HDn.out, by rw [HOn.out]; exact HT9.out⟩
            case measure => simp [intOf]; omega
    · obtain rfl : i = n := by omega
      have hdf : decide (i < i) = false := by simp
      have e9 : al.take i = al := List.take_of_length_le (by rw [Hn.out]; exact Nat.le_refl _)
      have HNa : Hid (Nw w i (one al) [] sv (.slice none 0 0) wr) := Lib.hid (by have := HNw.out; rwa [e9] at this)
      have hnd : al.Nodup := by have := HNd.out; rwa [e9] at this
      have HDn : Hid (newD al ps = newT (one al) [] ps) := Lib.hid (newD_go (by have := HS.out; rw [Hn.out, HP.out]; omega) hnd)
      clear e9 hnd HNd HNw
      go_wp2
      go_loopw [9] (fun iv wr => ∃ (k : Nat) (T : List (List Int)) (sv qv : Value), k ≤ P ∧ iv = .int .i64 k ∧ Nw w i T (ps.take k) sv qv wr ∧ T.length = i + k ∧ (∀ j, (T.getD j []).length ≤ 16) ∧ newD al ps = newT T (ps.take k) (ps.drop k)) (fun iv _ => P - (intOf iv).toNat)
      case atStart => exact ⟨0, one al, sv, .slice none 0 0, by omega, rfl, by simpa using HNa.out, by simp [one, Hn.out], short_one al, by simpa using HDn.out⟩
      case round =>
        clear HNa HDn hdf
        obtain ⟨k, T, sv, qv, hk, rfl, hnw, hTl, hsh, hdn⟩ := hrel
        have HNw := Lib.hid hnw
        have HTl := Lib.hid hTl
        have HSh := Lib.hid hsh
        have HDn := Lib.hid hdn
        clear hnw hTl hsh hdn
        have hiP : i + P ≤ 512 := HS.out.2
        by_cases hkl : k < P
        · have hd1 : decide (k < P) = true := by simpa using hkl
          have hd2 : decide ((k : Int) < (P : Int)) = true := by simp; omega
          have HPr := Lib.hid (HPw.out.below HNw.out.below)
          obtain ⟨d, p, e, hrg0⟩ := HPw.out.at_ k (by rw [HP.out]; exact hkl)
          clear hrg0
          subst e
          obtain ⟨pk, hpk⟩ : ∃ pk, ps.getD k (0, 0) = pk := ⟨_, rfl⟩
          obtain ⟨x, y⟩ := pk
          have HRg : Hid (∀ j, j < P → wr.rangeAt d (p + j * 2) [.int .i64 (ps.getD j (0, 0)).1, .int .i64 (ps.getD j (0, 0)).2]) := Lib.hid (fun j hj => by
            obtain ⟨d', p', e', h'⟩ := HPr.out.at_ j (by rw [HP.out]; exact hj)
            cases e'
            exact h')
          have hrg := HRg.out k hkl
          rw [hpk] at hrg
          dsimp only at hrg
          have HPk := Lib.hid hpk
          have HRk := Lib.hid hrg
          clear hpk hrg
          have hba : Below wr.heap.size wr (wr.alloc (.cells #[.int .i64 x, .int .i64 y] 54)) := (Below.refl _ _).alloc (Nat.le_refl _) _
          have HX1 : Hid (Nw w i T (ps.take k) sv qv (wr.alloc (.cells #[.int .i64 x, .int .i64 y] 54)) ∧ P2 wr.heap.size x y (wr.alloc (.cells #[.int .i64 x, .int .i64 y] 54)) ∧ (∀ j, j < P → (wr.alloc (.cells #[.int .i64 x, .int .i64 y] 54)).rangeAt d (p + j * 2) [.int .i64 (ps.getD j (0, 0)).1, .int .i64 (ps.getD j (0, 0)).2])) := Lib.hid ⟨HNw.out.later hba, ⟨heap_alloc_new _ _⟩, fun j hj q v hv => (hba.cell (block_lt_of_cell (HRg.out j hj q v hv))).trans (HRg.out j hj q v hv)⟩
          clear hba
          go_wp2_with (refine wpList_load_mid rfl 54 (.tmp 68) rfl d (p + k * 2) rfl [.int .i64 x, .int .i64 y] _ HRk.out Try.underlying54 rfl size_pair ?_; refine Hid.out ?_)
          refine Lib.hid ?_
          go_upto_region 17 with fail
          refine gen_w (Q := fun w => Code.wp _ _ _ _ w) _ (fun W => Nw w i T (ps.take k) sv qv W ∧ P2 wr.heap.size x y W ∧ ∀ j, j < P → W.rangeAt d (p + j * 2) [.int .i64 (ps.getD j (0, 0)).1, .int .i64 (ps.getD j (0, 0)).2]) HX1.out ?_
          obtain ⟨gb, hgb⟩ : ∃ gb, wr.heap.size = gb := ⟨_, rfl⟩
          rw [hgb]
          have HGb : Hid (w.heap.size + 2 ≤ gb) := Lib.hid (by rw [← hgb]; exact HNw.out.big)
          have HGq : Hid (∀ q, qv.ownBlock = some q → q < gb) := Lib.hid (fun q hq => by rw [← hgb]; exact (HNw.out.pairs.lt q hq).2)
          clear HX1 HNw HRg HRk HPr hgb
          rintro w2 ⟨hn2, hp2, hr2⟩
          have HN2 := Lib.hid hn2
          have HP2 := Lib.hid hp2
          have HR2 := Lib.hid hr2
          obtain ⟨q1, q2⟩ := hp2.cells
          have c0 := hn2.cells.1
          obtain ⟨s, ct, rfl, _, hst, _⟩ := Tn.Sl.all1 hn2.texts
          have HSt : Hid (Strs w2 s ct T) := Lib.hid hst
          clear hn2 hp2 hr2 hst
          have HDr : Hid (ps.drop k = (x, y) :: ps.drop (k + 1)) := Lib.hid (by rw [pdrop_at (by rw [HP.out]; exact hkl), HPk.out])
          have HTk : Hid (ps.take (k + 1) = ps.take k ++ [(x, y)]) := Lib.hid (by rw [ptake_at (by rw [HP.out]; exact hkl), HPk.out])
          have hMs : T.length ≤ 512 := by have := HTl.out; omega
          by_cases hx0 : x < 0
          · have d1 : decide (x < 0) = true := by simpa using hx0
            have HE : Hid (stepE T (ps.take k) (x, y) = 10) := Lib.hid (by
              unfold stepE
              rw [if_pos (by have h1 := hx0; dsimp only; omega)])
            have HN3 := HN2
            have HD : Hid (newD al ps = (10, [])) := Lib.hid (by rw [HDn.out, HDr.out, newT_no (by rw [HE.out]; decide), HE.out])
            clear hx0
            go_upto_region 18 with fail
            go_wp2_with (refine wpList_store_row rfl 73 (.tmp 4) (.tmp 94) rfl w.heap.size #[.slice none 0 0, .slice none 0 0, .int .i64 0] rfl rfl 73 _ HN3.out.res (size_coder3 _ _ _) rfl (one_coder _ _ _ rfl rfl rfl) ?_)
            exact bodyPost_ret (v := .tuple #[noC, .int .i64 10]) (results_two Try.results24 _ _ w.heap.size 73 #[.slice none 0 0, .slice none 0 0, .int .i64 0] (0, 0) _ _ rfl rfl (setRow_heap _ _ _ _ _ _ HN3.out.res) Try.underlying73 rfl size_coder) rfl ⟨noC, by rw [HD.out], below_setRow HN3.out.below (Nat.le_refl _) _, Or.inl ⟨by rw [HD.out]; decide, rfl⟩⟩
          have d1 : decide (x < 0) = false := by simpa using hx0
          obtain ⟨xn, rfl⟩ := Int.eq_ofNat_of_zero_le (show 0 ≤ x by omega)
          clear hx0
          by_cases hx1 : T.length ≤ xn
          · have d2 : decide ((T.length : Int) ≤ (xn : Int)) = true := by simp; omega
            have d3 : decide (T.length ≤ xn) = true := by simpa using hx1
            have HE : Hid (stepE T (ps.take k) ((xn : Int), y) = 10) := Lib.hid (by
              unfold stepE
              rw [if_pos (by have h1 := hx1; dsimp only; omega)])
            have HN3 := HN2
            have HD : Hid (newD al ps = (10, [])) := Lib.hid (by rw [HDn.out, HDr.out, newT_no (by rw [HE.out]; decide), HE.out])
            clear hx1
            go_upto_region 18 with fail
            go_wp2_with (refine wpList_store_row rfl 73 (.tmp 4) (.tmp 94) rfl w.heap.size #[.slice none 0 0, .slice none 0 0, .int .i64 0] rfl rfl 73 _ HN3.out.res (size_coder3 _ _ _) rfl (one_coder _ _ _ rfl rfl rfl) ?_)
            exact bodyPost_ret (v := .tuple #[noC, .int .i64 10]) (results_two Try.results24 _ _ w.heap.size 73 #[.slice none 0 0, .slice none 0 0, .int .i64 0] (0, 0) _ _ rfl rfl (setRow_heap _ _ _ _ _ _ HN3.out.res) Try.underlying73 rfl size_coder) rfl ⟨noC, by rw [HD.out], below_setRow HN3.out.below (Nat.le_refl _) _, Or.inl ⟨by rw [HD.out]; decide, rfl⟩⟩
          have d2 : decide ((T.length : Int) ≤ (xn : Int)) = false := by simp; omega
          have d3 : decide (T.length ≤ xn) = false := by simpa using hx1
          by_cases hy0 : y < 0
          · have d4 : decide (y < 0) = true := by simpa using hy0
            have HE : Hid (stepE T (ps.take k) ((xn : Int), y) = 10) := Lib.hid (by
              unfold stepE
              rw [if_pos (by have h1 := hy0; dsimp only; omega)])
            have HN3 := HN2
            have HD : Hid (newD al ps = (10, [])) := Lib.hid (by rw [HDn.out, HDr.out, newT_no (by rw [HE.out]; decide), HE.out])
            clear hy0 hx1
            go_upto_region 18 with fail
            go_wp2_with (refine wpList_store_row rfl 73 (.tmp 4) (.tmp 94) rfl w.heap.size #[.slice none 0 0, .slice none 0 0, .int .i64 0] rfl rfl 73 _ HN3.out.res (size_coder3 _ _ _) rfl (one_coder _ _ _ rfl rfl rfl) ?_)
            exact bodyPost_ret (v := .tuple #[noC, .int .i64 10]) (results_two Try.results24 _ _ w.heap.size 73 #[.slice none 0 0, .slice none 0 0, .int .i64 0] (0, 0) _ _ rfl rfl (setRow_heap _ _ _ _ _ _ HN3.out.res) Try.underlying73 rfl size_coder) rfl ⟨noC, by rw [HD.out], below_setRow HN3.out.below (Nat.le_refl _) _, Or.inl ⟨by rw [HD.out]; decide, rfl⟩⟩
          have d4 : decide (y < 0) = false := by simpa using hy0
          obtain ⟨yn, rfl⟩ := Int.eq_ofNat_of_zero_le (show 0 ≤ y by omega)
          clear hy0
          by_cases hy1 : T.length ≤ yn
          · have d5 : decide ((T.length : Int) ≤ (yn : Int)) = true := by simp; omega
            have d6 : decide (T.length ≤ yn) = true := by simpa using hy1
            have HE : Hid (stepE T (ps.take k) ((xn : Int), (yn : Int)) = 10) := Lib.hid (by
              unfold stepE
              rw [if_pos (by have h1 := hy1; dsimp only; omega)])
            have HN3 := HN2
            have HD : Hid (newD al ps = (10, [])) := Lib.hid (by rw [HDn.out, HDr.out, newT_no (by rw [HE.out]; decide), HE.out])
            clear hy1 hx1
            go_upto_region 18 with fail
            go_wp2_with (refine wpList_store_row rfl 73 (.tmp 4) (.tmp 94) rfl w.heap.size #[.slice none 0 0, .slice none 0 0, .int .i64 0] rfl rfl 73 _ HN3.out.res (size_coder3 _ _ _) rfl (one_coder _ _ _ rfl rfl rfl) ?_)
            exact bodyPost_ret (v := .tuple #[noC, .int .i64 10]) (results_two Try.results24 _ _ w.heap.size 73 #[.slice none 0 0, .slice none 0 0, .int .i64 0] (0, 0) _ _ rfl rfl (setRow_heap _ _ _ _ _ _ HN3.out.res) Try.underlying73 rfl size_coder) rfl ⟨noC, by rw [HD.out], below_setRow HN3.out.below (Nat.le_refl _) _, Or.inl ⟨by rw [HD.out]; decide, rfl⟩⟩
          have d5 : decide ((T.length : Int) ≤ (yn : Int)) = false := by simp; omega
          have d6 : decide (T.length ≤ yn) = false := by simpa using hy1
          have HXn : Hid (xn < T.length) := Lib.hid (by omega)
          have HYn : Hid (yn < T.length) := Lib.hid (by omega)
          clear hx1 hy1
          go_upto_region 19 with fail
          clear d1 d2 d3 d4 d5 d6
          go_wp2
          go_loopw [11] (fun kv wr => ∃ (j q : Nat), j ≤ k ∧ kv = .int .i64 j ∧ wr = w2.drewN q ∧ ∀ z, z < j → ps.getD z (0, 0) ≠ ((xn : Int), (yn : Int))) (fun kv _ => k - (intOf kv).toNat)
          case atStart => exact ⟨0, 0, by omega, rfl, rfl, fun z hz => by omega⟩
          case round =>
            obtain ⟨j, q, hj, rfl, rfl, hno⟩ := hrel
            have HNo := Lib.hid hno
            clear hno
            by_cases hlt : j < k
            · have hdt : decide (j < k) = true := by simpa using hlt
              have hdt2 : decide ((j : Int) < (k : Int)) = true := by simp; omega
              have hrj := HR2.out j (by omega)
              obtain ⟨pj, hpj⟩ : ∃ pj, ps.getD j (0, 0) = pj := ⟨_, rfl⟩
              rw [hpj] at hrj
              obtain ⟨u, v⟩ := pj
              dsimp only at hrj
              have HPj := Lib.hid hpj
              have c1 : w2.cell? ⟨d, p + j * 2, none⟩ = some (.int .i64 u) := hrj 0 _ rfl
              have c2 : w2.cell? ⟨d, p + j * 2 + 1, none⟩ = some (.int .i64 v) := hrj 1 _ rfl
              have hjP : j < P := by omega
              have HjK : Hid (j < k) := Lib.hid hlt
              clear hpj hrj
              by_cases he : (u, v) = ((xn : Int), (yn : Int))
              · have heq : ∀ W, (Op.equalIn 10000 54 (.agg #[.int .i64 u, .int .i64 v]) (.agg #[.int .i64 (xn : Int), .int .i64 (yn : Int)])).run Try.prog W = .ok true W := fun W => by rw [eq_arr2, decide_eq_true he]
                have HE : Hid (stepE T (ps.take k) ((xn : Int), (yn : Int)) = 15) := Lib.hid (by
                  have h1 := HXn.out
                  have h2 := HYn.out
                  unfold stepE
                  rw [if_neg (by dsimp only; omega), if_pos (by
                    rw [← he, ← HPj.out, ← ptake_get HjK.out]
                    exact ptake_mem (by rw [HP.out]; omega) HjK.out)])
                clear he
                go_wp2
                go_quiet (fail)
                have HN3 := Lib.hid (HN2.out.later (below_drewN (drawn_below q) nq))
                generalize (w2.drewN q).drewN nq = w3 at HN3 ⊢
                clear c1 c2 heq c0 q1 q2
                have HD : Hid (newD al ps = (15, [])) := Lib.hid (by rw [HDn.out, HDr.out, newT_no (by rw [HE.out]; decide), HE.out])
                go_upto_region 23 with fail
                go_wp2_with (refine wpList_store_row rfl 73 (.tmp 4) (.tmp 106) rfl w.heap.size #[.slice none 0 0, .slice none 0 0, .int .i64 0] rfl rfl 73 _ HN3.out.res (size_coder3 _ _ _) rfl (one_coder _ _ _ rfl rfl rfl) ?_)
                exact bodyPost_ret (v := .tuple #[noC, .int .i64 15]) (results_two Try.results24 _ _ w.heap.size 73 #[.slice none 0 0, .slice none 0 0, .int .i64 0] (0, 0) _ _ rfl rfl (setRow_heap _ _ _ _ _ _ HN3.out.res) Try.underlying73 rfl size_coder) rfl ⟨noC, by rw [HD.out], below_setRow HN3.out.below (Nat.le_refl _) _, Or.inl ⟨by rw [HD.out]; decide, rfl⟩⟩
              · have heq : ∀ W, (Op.equalIn 10000 54 (.agg #[.int .i64 u, .int .i64 v]) (.agg #[.int .i64 (xn : Int), .int .i64 (yn : Int)])).run Try.prog W = .ok false W := fun W => by rw [eq_arr2, decide_eq_false he]
                have HNe := Lib.hid he
                clear he
                go_wp2
                go_quiet (fail)
                go_wp2
                go_roundw
                case rel => exact ⟨j + 1, _, by omega, by go_num, rfl, fun z hz => by
                  by_cases h : z < j
                  · exact HNo.out z h
                  · obtain rfl : z = j := by omega
                    rw [HPj.out]
                    exact HNe.out⟩
                case measure => simp [intOf]; omega
            · obtain rfl : j = k := by omega
              have hdf : decide (j < j) = false := by simp
              have hdf2 : decide ((j : Int) < (j : Int)) = false := by simp
              have HNm : Hid (((xn : Int), (yn : Int)) ∉ ps.take j) := Lib.hid (ptake_notin (by rw [HP.out]; omega) HNo.out)
              generalize hw4 : w2.drewN q = w4
              have HN4 : Hid (Nw w i T (ps.take j) (.slice s T.length ct) qv w4) := Lib.hid (by rw [← hw4]; exact HN2.out.later (drawn_below q))
              have HP4 : Hid (P2 gb (xn : Int) (yn : Int) w4) := Lib.hid (by rw [← hw4]; exact HP2.out.later (drawn_below q))
              have HS4 : Hid (Strs w4 s ct T) := Lib.hid (by rw [← hw4]; exact HSt.out.below (drawn_below q))
              clear q1 q2 c0 hw4 HN2 HP2 HSt HNo HR2
              obtain ⟨q1, q2⟩ := HP4.out.cells
              have c0 := HN4.out.cells.1
              have hxn : xn < T.length := HXn.out
              have hyn : yn < T.length := HYn.out
              obtain ⟨d2, o2, e, t1⟩ := HS4.out.at_ xn hxn
              obtain ⟨d3, o3, e', t2⟩ := HS4.out.at_ yn hyn
              subst e
              cases e'
              obtain ⟨tx, htx⟩ : ∃ tx, T.getD xn [] = tx := ⟨_, rfl⟩
              obtain ⟨ty, hty⟩ : ∃ ty, T.getD yn [] = ty := ⟨_, rfl⟩
              rw [htx] at t1
              rw [hty] at t2
              unfold strV at t1 t2
              obtain ⟨X, hX⟩ : ∃ X, strOfNums tx = X := ⟨_, rfl⟩
              obtain ⟨Y, hY⟩ : ∃ Y, strOfNums ty = Y := ⟨_, rfl⟩
              rw [hX] at t1
              rw [hY] at t2
              obtain ⟨Z, hZ⟩ : ∃ Z, X ++ Y = Z := ⟨_, rfl⟩
              obtain ⟨t, ht⟩ : ∃ t, txt T ((xn : Int), (yn : Int)) = t := ⟨_, rfl⟩
              have Ht := Lib.hid ht
              have HZ : Hid (Z = strOfNums t) := Lib.hid (by
                rw [← hZ, ← hX, ← hY, str_append, ← htx, ← hty, ← ht]
                rfl)
              clear ht
              have hsz : X.size + Y.size ≤ 32 := by
                rw [← hX, ← hY, str_size, str_size, ← htx, ← hty]
                have h1 := HSh.out xn
                have h2 := HSh.out yn
                omega
              have hbig : (X.size + Y.size > 9223372036854775807) = False := by
                apply eq_false
                omega
              clear htx hty hX hY hsz
              go_wp2
              go_quiet (fail)
              clear hZ hbig
              generalize hw5 : w4.drewN nq = w5
              have HN5 : Hid (Nw w i T (ps.take j) (.slice (some ⟨d2, o2, none⟩) T.length ct) qv w5) := Lib.hid (by rw [← hw5]; exact HN4.out.later (drawn_below nq))
              have HP5 : Hid (P2 gb (xn : Int) (yn : Int) w5) := Lib.hid (by rw [← hw5]; exact HP4.out.later (drawn_below nq))
              clear q1 q2 c0 t1 t2 hw5 HN4 HP4 HS4
              obtain ⟨L, hL⟩ : ∃ L, Z.size = L := ⟨_, rfl⟩
              have HL : Hid (L = t.length) := Lib.hid (by rw [← hL, HZ.out, str_size])
              by_cases hlong : 16 < L
              · have d1 : decide (16 < L) = true := by simpa using hlong
                have d2 : decide ((16 : Int) < (L : Int)) = true := by simp; omega
                have HE : Hid (stepE T (ps.take j) ((xn : Int), (yn : Int)) = 20) := Lib.hid (by
                  have h1 := HXn.out
                  have h2 := HYn.out
                  have h3 := HL.out
                  unfold stepE
                  rw [if_neg (by dsimp only; omega), if_neg HNm.out, if_pos (by rw [Ht.out]; omega)])
                have HN3 := HN5
                have HD : Hid (newD al ps = (20, [])) := Lib.hid (by rw [HDn.out, HDr.out, newT_no (by rw [HE.out]; decide), HE.out])
                clear hlong
                go_upto_region 26 with fail
                go_wp2_with (refine wpList_store_row rfl 73 (.tmp 4) (.tmp 123) rfl w.heap.size #[.slice none 0 0, .slice none 0 0, .int .i64 0] rfl rfl 73 _ HN3.out.res (size_coder3 _ _ _) rfl (one_coder _ _ _ rfl rfl rfl) ?_)
                exact bodyPost_ret (v := .tuple #[noC, .int .i64 20]) (results_two Try.results24 _ _ w.heap.size 73 #[.slice none 0 0, .slice none 0 0, .int .i64 0] (0, 0) _ _ rfl rfl (setRow_heap _ _ _ _ _ _ HN3.out.res) Try.underlying73 rfl size_coder) rfl ⟨noC, by rw [HD.out], below_setRow HN3.out.below (Nat.le_refl _) _, Or.inl ⟨by rw [HD.out]; decide, rfl⟩⟩
              · have d1 : decide (16 < L) = false := by simpa using hlong
                have d2 : decide ((16 : Int) < (L : Int)) = false := by simp; omega
                have HE : Hid (stepE T (ps.take j) ((xn : Int), (yn : Int)) = 0) := Lib.hid (by
                  have h1 := HXn.out
                  have h2 := HYn.out
                  have h3 := HL.out
                  unfold stepE
                  rw [if_neg (by dsimp only; omega), if_neg HNm.out, if_neg (by rw [Ht.out]; omega)])
                clear hlong
                go_upto_region 27 with fail
                clear hL d1 d2
                have hz := HZ.out
                subst hz
                have c0 := HN5.out.cells.1
                have HMs : Hid (T.length ≤ 999999) := Lib.hid (by omega)
                go_wp2_with (refine wpList_push_str rfl (.tmp 125) (.tmp 127) rfl (w.heap.size + 2) _ T.length T t rfl HN5.out.texts rfl HMs.out HN5.out.big ?_; intro v9 w9 ho9 hg9; have HO9 := Lib.hid ho9; have HG9 := Lib.hid hg9; clear ho9 hg9; refine Hid.out ?_)
                refine Lib.hid ?_
                obtain ⟨s9, c9, rfl, _, _, _⟩ := Tn.Sl.all1 HO9.out
                have HRw : Hid (w9.heap[w.heap.size + 1]? = some (.cells #[.slice (some ⟨d2, o2, none⟩) T.length ct, qv, .int .i64 (i : Int)] 73 (0, 0))) := Lib.hid ((HG9.out.block _ (by have := HN5.out.big; omega) (fun e => by have := (own_block HN5.out.texts e.symm).1; omega)).trans HN5.out.row)
                have q1 : w9.cell? ⟨w.heap.size + 1, 0, none⟩ = some (.slice (some ⟨d2, o2, none⟩) T.length ct) := by rw [cell_of_row _ _ _ _ _ _ HRw.out]; rfl
                have q2 : w9.frozen? ⟨w.heap.size + 1, 0, none⟩ = false := frozen_of_row _ _ _ _ _ HRw.out
                have HN6 : Hid (Nw w i (T ++ [t]) (ps.take j) (.slice s9 (T.length + 1) c9) qv (w9.setCell ⟨w.heap.size + 1, 0, none⟩ (.slice s9 (T.length + 1) c9))) := Lib.hid (HN5.out.text HG9.out HO9.out)
                have HP6 : Hid (P2 gb (xn : Int) (yn : Int) (w9.setCell ⟨w.heap.size + 1, 0, none⟩ (.slice s9 (T.length + 1) c9))) := Lib.hid ⟨by
                  rw [heap_setCell_other _ _ _ _ (by have := HGb.out; simp; omega), HG9.out.block gb HP5.out.lt (fun e => by
                    obtain ⟨_, cur, hcur⟩ := own_block HN5.out.texts e.symm
                    rw [HP5.out.row] at hcur
                    cases hcur)]
                  exact HP5.out.row⟩
                clear c0
                go_upto_region 28 with fail
                refine gen_w (Q := fun w => Code.wp _ _ _ _ w) _ (fun W => Nw w i (T ++ [t]) (ps.take j) (.slice s9 (T.length + 1) c9) qv W ∧ P2 gb (xn : Int) (yn : Int) W) ⟨HN6.out, HP6.out⟩ ?_
                clear q1 q2 HN6 HP6 HRw HO9 HG9 HN5 HP5
                rintro w6 ⟨hn6, hp6⟩
                obtain ⟨S6, hS6⟩ : ∃ S6, ps.take j = S6 := ⟨_, rfl⟩
                rw [hS6] at hn6
                have HS6 := Lib.hid hS6
                have HN6 := Lib.hid hn6
                have HP6 := Lib.hid hp6
                obtain ⟨q1, q2⟩ := hp6.cells
                have c0 := hn6.cells.2.1
                obtain ⟨sq6, cq6, rfl, hpl, _⟩ := prs_of_own hn6.pairs
                have HPl : Hid (S6.length ≤ 999999) := Lib.hid (by rw [← HS6.out, List.length_take, HP.out]; omega)
                clear hn6 hp6 hpl hS6
                go_wp2_with (refine wpList_push_pair rfl (.tmp 131) (.tmp 133) rfl (w.heap.size + 2) _ S6.length S6 ((xn : Int), (yn : Int)) rfl HN6.out.pairs rfl HPl.out HN6.out.big ?_; intro v7 w7 ho7 hg7; have HO7 := Lib.hid ho7; have HG7 := Lib.hid hg7; clear ho7 hg7; refine Hid.out ?_)
                refine Lib.hid ?_
                have hpv : ∃ s7 c7, v7 = .slice s7 (S6.length + 1) c7 := by
                  obtain ⟨s7, c7, e7, _, _⟩ := prs_of_own (ps := S6 ++ [((xn : Int), (yn : Int))]) HO7.out
                  exact ⟨s7, c7, e7⟩
                obtain ⟨s7, c7, rfl⟩ := hpv
                have HRw : Hid (w7.heap[w.heap.size + 1]? = some (.cells #[.slice s9 (T.length + 1) c9, .slice sq6 S6.length cq6, .int .i64 (i : Int)] 73 (0, 0))) := Lib.hid ((HG7.out.block _ (by have := HN6.out.big; omega) (fun e => by have := (own_block HN6.out.pairs e.symm).1; omega)).trans HN6.out.row)
                have q3 : w7.cell? ⟨w.heap.size + 1, 1, none⟩ = some (.slice sq6 S6.length cq6) := by rw [cell_of_row _ _ _ _ _ _ HRw.out]; rfl
                have q4 : w7.frozen? ⟨w.heap.size + 1, 1, none⟩ = false := frozen_of_row _ _ _ _ _ HRw.out
                have HN8 : Hid (Nw w i (T ++ [t]) (S6 ++ [((xn : Int), (yn : Int))]) (.slice s9 (T.length + 1) c9) (.slice s7 (S6.length + 1) c7) (w7.setCell ⟨w.heap.size + 1, 1, none⟩ (.slice s7 (S6.length + 1) c7))) := Lib.hid (HN6.out.pair HG7.out HO7.out)
                clear c0 q1 q2
                go_wp2
                go_roundw
                case rel => exact ⟨j + 1, T ++ [t], _, _, by omega, by go_num, by rw [HTk.out, HS6.out]; exact HN8.out, by rw [List.length_append, HTl.out]; simp; omega, by rw [← Ht.out]; exact short_snoc HSh.out (stepE_zero HE.out).2.2.2, by rw [HDn.out, HDr.out, newT_yes HE.out, HTk.out, Ht.out]⟩
                case measure => simp [intOf]; omega
        · obtain rfl : k = P := by omega
          have hdf : decide (k < k) = false := by simp
          have hdf2 : decide ((k : Int) < (k : Int)) = false := by simp
          have e9 : ps.take k = ps := List.take_of_length_le (by rw [HP.out]; exact Nat.le_refl _)
          have e8 : ps.drop k = [] := List.drop_of_length_le (by rw [HP.out]; exact Nat.le_refl _)
          have HD : Hid (newD al ps = (0, T)) := Lib.hid (by rw [HDn.out, e8]; rfl)
          have hnz := HNw.out
          rw [e9] at hnz
          obtain ⟨s, ct, rfl, _, _, _⟩ := Tn.Sl.all1 hnz.texts
          obtain ⟨sq, cq, rfl, _, _⟩ := prs_of_own hnz.pairs
          rw [HP.out] at hnz
          have HNz := Lib.hid hnz
          have hgr : wr.grownBy (wr.setRow w.heap.size #[.slice s T.length ct, .slice sq ps.length cq, .int .i64 (i : Int)]) (some w.heap.size) := ⟨rfl, rfl, rfl, by simp, fun k hk hne => setRow_other _ _ _ _ (fun e => hne (by rw [e]))⟩
          have HSs : Hid (Strs (wr.setRow w.heap.size #[.slice s T.length ct, .slice sq ps.length cq, .int .i64 (i : Int)]) s ct T) := Lib.hid (by
            have h := hnz.texts.kept hgr (by
              rcases hs : (Value.slice s T.length ct).ownBlock with _ | b
              · exact Or.inl rfl
              · exact Or.inr (fun e => by have := (own_block hnz.texts hs).1; cases e; omega))
            obtain ⟨s', c', e, _, h1, _⟩ := Tn.Sl.all1 h
            cases e
            exact h1)
          have HPs : Hid (Prs (wr.setRow w.heap.size #[.slice s T.length ct, .slice sq ps.length cq, .int .i64 (i : Int)]) sq cq ps) := Lib.hid (by
            have hp := hnz.pairs
            rw [HP.out] at hp
            have h := hp.kept hgr (by
              rcases hs : (Value.slice sq k cq).ownBlock with _ | b
              · exact Or.inl rfl
              · exact Or.inr (fun e => by have := (own_block hp hs).1; cases e; omega))
            obtain ⟨s', c', e, _, h1⟩ := prs_of_own h
            cases e
            exact h1)
          rw [HP.out] at HSs HPs
          clear e9 e8 hkl hnz hgr HNw
          go_wp2_with (first
            | (refine wpList_load_row rfl 73 (.tmp 6) rfl (w.heap.size + 1) rfl 73 #[.slice s T.length ct, .slice sq k cq, .int .i64 (i : Int)] (0, 0) _ HNz.out.row Try.underlying73 rfl (size_coder3 _ _ _) ?_)
            | (refine wpList_store_row rfl 73 (.tmp 4) (.tmp 136) rfl w.heap.size #[.slice s T.length ct, .slice sq k cq, .int .i64 (i : Int)] rfl rfl 73 _ HNz.out.res (size_coder3 _ _ _) rfl (one_coder _ _ _ rfl rfl rfl) ?_))
          exact bodyPost_ret (v := .tuple #[.agg #[.slice s T.length ct, .slice sq k cq, .int .i64 (i : Int)], .int .i64 0]) (results_two Try.results24 _ _ w.heap.size 73 #[.slice s T.length ct, .slice sq k cq, .int .i64 (i : Int)] (0, 0) _ _ rfl rfl (setRow_heap _ _ _ _ _ _ HNz.out.res) Try.underlying73 rfl (size_coder3 _ _ _)) rfl ⟨_, by rw [HD.out], below_setRow HNz.out.below (Nat.le_refl _) _, Or.inr ⟨by rw [HD.out], s, ct, sq, cq, by rw [HD.out, HP.out, Hn.out], by rw [HD.out]; exact HSs.out, HPs.out⟩⟩
end Go.Proofs.Ytkfkjapkcjidnaa.Bp
