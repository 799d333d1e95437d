/- Steps: how many there are. -/
import Derived.Test.YtdffbjjiojheoaaSj
namespace Go.Proofs.Ytdffbjjiojheoaa.St
set_option maxRecDepth 100000
open Go.ChangeShapes Go.WideShapes Go.ChangeAt Go.RowKit Go.Shelf Go.Proofs.Ytdffbjjiojheoaa.Tn Go.Proofs.Ytdffbjjiojheoaa.Wg
attribute [local go_sem] Oper.semAt_some
def sumR (L : List Str) : Nat := (L.map (·.n)).sum
theorem sumR_append (A B : List Str) : sumR (A ++ B) = sumR A + sumR B := by simp [sumR]
theorem sumR_pre {A L : List Str} (h : A <+: L) : sumR A ≤ sumR L := by
  obtain ⟨t, rfl⟩ := h
  rw [sumR_append]; omega
theorem rows_le {s : PlN} (hs : s.B) (k : Int) (a : Nat) (ha : a ≤ 63) : s.rows k a ≤ 512 := by
  have := hs.d; have := hs.i; have := hs.v
  unfold PlN.rows
  repeat' split
  all_goals omega
theorem sum_rng (f : Nat → List Str) (b n : Nat) (h : ∀ i, i < n → sumR (f i) ≤ b) : sumR ((List.range n).flatMap f) ≤ n * b := by
  induction n with
  | zero => simp [sumR]
  | succ n ih =>
    rw [rng_succ, sumR_append, Nat.succ_mul]
    have := ih (fun i hi => h i (by omega))
    have := h n (by omega)
    omega
theorem sum_seg {s : PlN} (hs : s.B) (k n a y h : Nat) (ha : a ≤ 63) : sumR (segT s k n a y h) ≤ n * 512 := by
  induction n with
  | zero => simp [segT, sumR]
  | succ n ih =>
    rw [segT_succ, sumR_append, Nat.succ_mul]
    have := rows_le hs ((k + n : Nat) : Int) a ha
    simp only [sumR, List.map_cons, List.map_nil, List.sum_cons, List.sum_nil] at ih ⊢
    omega
theorem sum_all {s : PlN} (hs : s.B) : sumR (allT s s.t) ≤ 6000000 := by
  have ht := hs.t.2
  have h1 : ∀ a, a ≤ 63 → sumR (plT s a) ≤ 83968 := fun a ha => by
    have h2 : ∀ y, sumR (layT s a y) ≤ 20480 := fun y => by
      have h3 : sumR (headsT s a y s.h) ≤ s.h * 1536 := sum_rng _ 1536 _ (fun h _ => sum_seg hs 9 3 a y h ha)
      have h4 : s.h * 1536 ≤ 8 * 1536 := Nat.mul_le_mul_right _ hs.h.2
      have h5 := sum_seg hs 2 7 a y 0 ha
      have h6 := sum_seg hs 12 9 a y 0 ha
      unfold layT
      rw [sumR_append, sumR_append]
      omega
    have h3 : sumR (laysT s a s.l) ≤ s.l * 20480 := sum_rng _ 20480 _ (fun y _ => h2 y)
    have h4 : s.l * 20480 ≤ 4 * 20480 := Nat.mul_le_mul_right _ hs.l.2
    have h5 := sum_seg hs 1 1 a 0 0 ha
    have h6 := sum_seg hs 21 3 a 0 0 ha
    unfold plT
    rw [sumR_append, sumR_append]
    omega
  have h3 : sumR (allT s s.t) ≤ s.t * 83968 := sum_rng _ 83968 _ (fun a ha => h1 a (by omega))
  have h4 : s.t * 83968 ≤ 63 * 83968 := Nat.mul_le_mul_right _ ht
  omega
theorem strD_sum {q : Pl} {L : List Str} (h : strD q L) : sumR L ≤ 6000000 := by
  rcases h with ⟨_, rfl⟩ | ⟨s, hs, _, rfl⟩
  · simp [sumR]
  · exact sum_all hs
def Str.cells (x : Str) : Array Value := #[.int .i64 (x.k : Int), .int .i64 (x.a : Int), .int .i64 (x.y : Int), .int .i64 (x.h : Int), .int .i64 0, .int .i64 (x.n : Int)]
theorem size_str : (Try.prog.info? 95).map (·.size) = some 6 := by kernel_rfl
/-- a block of a type that iterators do not turn, or that lay ahead of their call -/
theorem ownC_row {α : Type} {B g : Nat} {f : α → Array Value} {t : TypeId} (h : g < B ∨ t ≠ 56) : OwnC B (fun (s : α) W => W.heap[g]? = some (.cells (f s) t (0, 0))) := fun s X Y row hs hg hr =>
  (hg.block g (Array.getElem?_eq_some_iff.1 hs).1 (fun e => by
    obtain ⟨h1, o, ho, hc⟩ := hr g e.symm
    rcases h with h | h
    · omega
    · rw [hs] at ho
      cases ho
      rcases hc with hc | ⟨cs, hc⟩
      · cases hc
      · exact h (Obj.cells.inj hc).2.1)).trans hs
theorem ownC_below {α : Type} {B : Nat} {w : World} (hB : w.heap.size ≤ B) : OwnC B (fun (_ : α) W => Below w.heap.size w W) := fun _ _ _ _ hs hg hr =>
  hs.trans (Below.ofGrown hg hs.size (fun r e => Nat.le_trans hB (hr r e).1))
theorem ownC_pure {α : Type} {B : Nat} (p : α → Prop) : OwnC B (fun (s : α) (_ : World) => p s) := fun _ _ _ _ hs _ _ => hs
theorem ownC_size {α : Type} {B N : Nat} : OwnC B (fun (_ : α) W => N ≤ W.heap.size) := fun _ _ _ _ hs hg _ => Nat.le_trans hs hg.size
theorem ownC_false {α : Type} {B : Nat} : OwnC B (fun (_ : α) (_ : World) => False) := fun _ _ _ _ hs _ _ => hs
set_option maxHeartbeats 8000000 in
theorem many_in (w : World) (q : Pl) (L : List Str) (hL : strD q L) :
    CallsIn Fence.wide 6 Try.prog 12 #[.agg q.cells] w fun e w' => e = .returned (.int .i64 (sumR L : Int)) ∧ Below w.heap.size w w' := by
  have HS := Lib.hid (strD_sum hL)
  have HSt := Lib.hid (fun W => stretches_any W q)
  have HTl := Lib.hid (fun (bc : Nat) (W : World) (hb : W.heap[bc]? = _) => str_tells 5 bc q L hL W hb)
  clear hL
  refine callsIn_of_wp_marks Try.func12 rfl trivial ?_ rfl
  simp only [Try.ntmps12, List.size_toArray, List.length_cons, List.length_nil, Nat.reduceAdd, Nat.reduceSub, Array.replicate_succ, Array.replicate_zero, List.push_toArray, List.append_toArray, List.nil_append, List.cons_append]
  gi_upto_region 2 with fail
  have hb1 : PlI w q ((w.alloc (.cells q.cells 40)).alloc (.cells #[.int .i64 0] 3)) := (PlI.made w q).later ((Below.refl _ _).alloc (Nat.le_refl _) _)
  have hbx : ((w.alloc (.cells q.cells 40)).alloc (.cells #[.int .i64 0] 3)).heap[w.heap.size + 1]? = some (.cells #[.int .i64 0] 3 (0, 0)) := by
    have e : (w.alloc (.cells q.cells 40)).heap.size = w.heap.size + 1 := by simp
    rw [← e]; exact heap_alloc_new _ _
  have hsz : ((w.alloc (.cells q.cells 40)).alloc (.cells #[.int .i64 0] 3)).heap.size = w.heap.size + 2 := by simp
  obtain ⟨W1, hW1⟩ : ∃ W1, ((w.alloc (.cells q.cells 40)).alloc (.cells #[.int .i64 0] 3)) = W1 := ⟨_, rfl⟩
  rw [hW1] at hb1 hbx hsz ⊢
  have HP1 := Lib.hid hb1
  have HX1 := Lib.hid hbx
  have HZ1 := Lib.hid hsz
  clear hb1 hbx hsz hW1
  gi_wp2_with (first
    | (refine wpListIn_load_row rfl 40 (.tmp 1) rfl w.heap.size rfl 40 _ (0, 0) _ HP1.out.row Try.underlying40 rfl size_pl ?_)
    | (refine ⟨trivial, ?_⟩; refine (callsIn_wide.2 (HSt.out _)).mono ?_; rintro e w' ⟨rfl, rfl⟩))
  have hal : Below W1.heap.size W1 (W1.alloc (.cells q.cells 40)) := (Below.refl _ _).alloc (Nat.le_refl _) _
  have hcb := heap_alloc_new W1 (.cells q.cells 40)
  have hbw : Below w.heap.size w (W1.alloc (.cells q.cells 40)) := HP1.out.below.trans (hal.mono HP1.out.below.size)
  have hxw : (W1.alloc (.cells q.cells 40)).heap[w.heap.size + 1]? = some (.cells #[.int .i64 0] 3 (0, 0)) := (hal.block _ (Array.getElem?_eq_some_iff.1 HX1.out).1).trans HX1.out
  have hsz : (W1.alloc (.cells q.cells 40)).heap.size = w.heap.size + 3 := by simp [HZ1.out]
  rw [HZ1.out] at hcb
  obtain ⟨W0, hW0⟩ : ∃ W0, W1.alloc (.cells q.cells 40) = W0 := ⟨_, rfl⟩
  rw [hW0] at hcb hbw hxw hsz ⊢
  rw [HZ1.out]
  have HBw := Lib.hid hbw
  have HSz := Lib.hid hsz
  clear hW0 hal HX1 HP1 HZ1 HSt hbw
  refine wpIn_rangeFunc_tellsC rfl (by omega) (gf := 56) (lb := #[.pointer (some ⟨w.heap.size + 2, 0, none⟩)]) rfl trivial (enters_of Try.func56 (by kernel_rfl) rfl)
    (HTl.out (w.heap.size + 2) W0 hcb) KpS.trans (fun W l o o' h1 h2 h3 h4 => KpS.put W l o o' h2 h3) (Below.refl _ _) (fun _ => rfl)
    (fun pre W => W.heap[w.heap.size + 1]? = some (.cells #[.int .i64 (sumR pre : Int)] 3 (0, 0)) ∧ Below w.heap.size w W ∧ W0.heap.size ≤ W.heap.size) (fun _ _ _ => False) (OwnC.and (ownC_row (f := fun pre => #[.int .i64 (sumR pre : Int)]) (Or.inl (by omega))) (OwnC.and (ownC_below (by omega)) ownC_size)) (fun _ => ownC_false)
    ⟨hxw, HBw.out, Nat.le_refl _⟩
    (fun pre x a' W => (pre ++ [x]) <+: L ∧ ∃ Bx, (W0.heap.size ≤ Bx ∧ W.heap[Bx]? = some (.cells x.cells 95 (0, 0))) ∧ a' = { tmps := #[.agg q.cells, .pointer (some ⟨w.heap.size, 0, none⟩), .int .i64 0, .pointer (some ⟨w.heap.size + 1, 0, none⟩), .pointer (some ⟨Bx, 0, none⟩), .agg q.cells, .func (.func 56) #[] #[.pointer (some ⟨w.heap.size + 2, 0, none⟩)], x.val, undef, undef, undef, undef, undef], defers := [] })
    (fun pre x a' s X Y row hs hg hr => ⟨hs.1, hs.2.imp fun Bx h => ⟨⟨h.1.1, ownC_row (f := fun (_ : Unit) => x.cells) (Or.inr (by decide)) s X Y row h.1.2 hg hr⟩, h.2⟩⟩)
    ?assign ?body ?done ?stop
  case assign =>
    rintro l pre x W K hI hG hK
    have HK := Lib.hid hK
    have HI := Lib.hid hI
    have HG := Lib.hid hG
    clear hG hK hI
    dsimp only [Str.val]
    gi_wp2_with (refine wpListIn_store_new rfl 95 (.tmp 4) (.tmp 7) rfl x.cells #[.int .i64 0, .int .i64 0, .int .i64 0, .int .i64 0, .int .i64 0, .int .i64 0] 95 rfl rfl rfl size_str rfl rfl ?_)
    have hal : Below W.heap.size W (W.alloc (.cells x.cells 95)) := (Below.refl _ _).alloc (Nat.le_refl _) _
    exact HK.out _ _ ((KeepsOthers.alloc _ _).from _) (KpS.of_below hal) ⟨(hal.block _ (Array.getElem?_eq_some_iff.1 HI.out.1).1).trans HI.out.1, HI.out.2.1.trans (hal.mono HI.out.2.1.size), Nat.le_trans HI.out.2.2 hal.size⟩ ⟨HG.out, W.heap.size, ⟨HI.out.2.2, heap_alloc_new _ _⟩, rfl⟩
  case body =>
    rintro l pre x a' W hl _ hI ⟨hG, Bx, ⟨hB1, hB2⟩, rfl⟩
    have HI := Lib.hid hI
    have HB2 := Lib.hid hB2
    have hle := sumR_pre hG
    rw [sumR_append] at hle
    have hsx : sumR [x] = x.n := by simp [sumR]
    rw [hsx] at hle
    have hs6 := HS.out
    have HEq : Hid (sumR (pre ++ [x]) = sumR pre + x.n) := Lib.hid (by rw [sumR_append, hsx])
    obtain ⟨A, hA⟩ : ∃ A, sumR pre = A := ⟨_, rfl⟩
    obtain ⟨R, hR⟩ : ∃ R, x.n = R := ⟨_, rfl⟩
    have c3 : W.cell? ⟨w.heap.size + 1, 0, none⟩ = some (.int .i64 (A : Int)) := by rw [cell_of_row _ _ _ _ _ _ hI.1, ← hA]; rfl
    have z3 : W.frozen? ⟨w.heap.size + 1, 0, none⟩ = false := frozen_of_row _ _ _ _ _ hI.1
    have c5 : W.cell? ⟨Bx, 5, none⟩ = some (.int .i64 (R : Int)) := by rw [cell_of_row _ _ _ _ _ _ hB2, ← hR]; rfl
    rw [hA, hR] at hle HEq
    have hb1 : A + R ≤ 6000000 := by omega
    clear hI hB2 hG hle hsx hs6 hA hR
    gi_wp2
    have hrow : (W.setCell ⟨w.heap.size + 1, 0, none⟩ (.int .i64 ((A : Int) + (R : Int)))).heap[w.heap.size + 1]? = some (.cells #[.int .i64 (sumR (pre ++ [x]) : Int)] 3 (0, 0)) := by
      rw [heap_setCell_same _ _ _ _ _ _ HI.out.1, HEq.out]
      simp
    refine ⟨(KeepsOthers.setCell _ _ _).from _, ?_, hrow, ?_, by simp; exact HI.out.2.2⟩
    · exact ⟨by simp, fun k cs t hk ht e => (heap_setCell_other _ _ _ _ (by simp; have := HSz.out; omega)).trans e⟩
    · exact HI.out.2.1.trans (Below.ofGrown (Mk.grownM_set _ _ _ _) HI.out.2.1.size (fun k hk => by cases hk; omega))
  case done =>
    rintro D2 ys W hD rfl ⟨hb, hw, _⟩ hK
    have c3 : W.cell? ⟨w.heap.size + 1, 0, none⟩ = some (.int .i64 (sumR ys : Int)) := by rw [cell_of_row _ _ _ _ _ _ hb]; rfl
    have HB := Lib.hid hw
    have HW0s : Hid (w.heap.size ≤ D2) := Lib.hid (by omega)
    clear hb hw
    gi_wp2
    refine ⟨by simp, .inl ⟨_, _, rfl, run_takeDeferred hK, ?_⟩⟩
    exact ⟨_, results_tmp rfl _ _ _, rfl, HB.out.trans (belowK_b (w := w) (Nat.le_refl _) W D2 _ _ HW0s.out hK rfl rfl)⟩
  case stop =>
    rintro D2 c pre W hD _ h
    exact h.elim
theorem many_any (w : World) (q : Pl) (L : List Str) (hL : strD q L) : Calls Try.prog 12 #[.agg q.cells] w fun e w' => e = .returned (.int .i64 (sumR L : Int)) ∧ Below w.heap.size w w' := callsIn_wide.1 (many_in w q L hL)
end Go.Proofs.Ytdffbjjiojheoaa.St
