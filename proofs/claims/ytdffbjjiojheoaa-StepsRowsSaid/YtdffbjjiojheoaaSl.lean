/- Steps: the chapter's example; plans that may not be have no steps. -/
import Derived.Test.YtdffbjjiojheoaaSk
namespace Go.Proofs.Ytdffbjjiojheoaa.St
set_option maxRecDepth 100000
open Go.ChangeShapes Go.WideShapes Go.ChangeAt Go.RowKit Go.Shelf Go.Proofs.Ytdffbjjiojheoaa.Tn Go.Proofs.Ytdffbjjiojheoaa.Wg
attribute [local go_sem] Oper.semAt_some
theorem config_any (w : World) : Calls Try.prog 31 #[] w fun e w' => e = .returned (.agg #[.int .i64 3, .int .i64 2, .int .i64 1, .int .i64 1, .int .i64 2, .int .i64 2]) ∧ Below w.heap.size w w' := by
  go_enter Try.func31, Try.ntmps31
  go_wp2
  exact bodyPost_ret (v := .agg #[.int .i64 3, .int .i64 2, .int .i64 1, .int .i64 1, .int .i64 2, .int .i64 2]) (Mk.results_cellM Try.results31 _ _ w.heap.size 31 _ (0, 0) _ rfl (heap_alloc_new _ _) Try.underlying31 rfl size_cfg) rfl ⟨rfl, (Below.refl _ _).alloc (Nat.le_refl _) _⟩
def sAwake : PlN := ⟨3, 2, 1, 1, 2, 2, 1, 1, 1⟩
theorem sAwake_B : sAwake.B := ⟨by decide, by decide, by decide, by decide, by decide, by decide, by decide, by decide, by decide, by decide, by decide⟩
theorem awake_any (w : World) : Calls Try.prog 7 #[] w fun e w' => e = .returned (.bool true) ∧ Below w.heap.size w w' := by
  have HC := Lib.hid (config_any w)
  have HM := Lib.hid (fun W => many_any W sAwake.q (allT sAwake sAwake.t) (Or.inr ⟨_, sAwake_B, rfl, rfl⟩))
  have e : sumR (allT sAwake sAwake.t) = 32 := by decide
  rw [e] at HM
  clear e
  unfold sAwake PlN.q PlN.c Pl.cells at HM
  dsimp only at HM
  go_enter Try.func7, Try.ntmps7
  go_wp2_with (first
    | (go_at_call 31; refine HC.out.mono ?_; rintro e w2 ⟨rfl, hb2⟩; have HB := Lib.hid hb2; clear hb2 HC)
    | (go_at_call 12; refine (HM.out _).mono ?_; rintro e w3 ⟨rfl, hb3⟩; have HB3 := Lib.hid (HB.out.trans (hb3.mono HB.out.size)); clear hb3 HB))
  go_ret
  exact ⟨rfl, HB3.out⟩
theorem Steps_any (w : World) (q : Pl) : Calls Try.prog 10 #[.agg q.cells] w fun e w' => e = .returned (.func (.func 34) #[] #[.pointer (some ⟨w.heap.size, 0, none⟩)]) ∧ w' = w.alloc (.cells q.cells 40) := by
  go_enter Try.func10, Try.ntmps10
  go_wp2
  go_ret
  exact ⟨rfl, rfl⟩
set_option maxHeartbeats 4000000 in
/-- a range over the steps of a plan that may not be: no round -/
theorem steps1_no (m l : Nat) (q : Pl) (hq : q.chk ≠ 0) {α : Type} (J Jx : List α → World → Prop) (B0 bc : Nat) (hJ : OwnC B0 J) (hm : 3 ≤ m) (W : World) (hB0 : B0 ≤ W.heap.size) (hb : W.heap[bc]? = some (.cells q.cells 40 (0, 0))) (h0 : J [] W) :
    CallsIn Fence.wide m Try.prog 34 #[.func (.yield l) #[] #[], .pointer (some ⟨bc, 0, none⟩)] W fun e W' => (∃ v, e = .returned v) ∧ ((∃ xs, xs = [] ∧ J xs W') ∨ (∃ pre, True ∧ Jx pre W')) := by
  have HSt := Lib.hid (fun W => stretches_any W q)
  have HTl := Lib.hid (fun (bc : Nat) (W : World) (hb : W.heap[bc]? = _) => str_tells (m - 1) bc q [] (Or.inl ⟨hq, rfl⟩) W hb)
  have HJ : Hid (OwnC B0 J) := hJ
  have HB := Lib.hid hb
  have H0 := Lib.hid h0
  have HB0 := Lib.hid hB0
  clear hq hJ hb h0 hB0
  refine callsIn_of_wp_marks Try.func34 rfl trivial ?_ rfl
  simp only [Try.ntmps34, List.size_toArray, List.length_cons, List.length_nil, Nat.reduceAdd, Nat.reduceSub, Array.replicate_succ, Array.replicate_zero, List.push_toArray, List.append_toArray, List.nil_append, List.cons_append]
  gi_upto_region 1 with fail
  have hal : Below W.heap.size W (W.alloc (.cells #[.func (.yield l) #[] #[]] 90)) := (Below.refl _ _).alloc (Nat.le_refl _) _
  obtain ⟨W1, hW1⟩ : ∃ W1, W.alloc (.cells #[.func (.yield l) #[] #[]] 90) = W1 := ⟨_, rfl⟩
  rw [hW1] at hal
  have H1 := Lib.hid (HJ.out.below H0.out hal)
  have HBc := Lib.hid ((hal.block _ (Array.getElem?_eq_some_iff.1 HB.out).1).trans HB.out)
  have HS1 := Lib.hid hal.size
  rw [hW1]
  clear hal hW1 HB H0
  gi_wp2_with (first
    | (refine wpListIn_load_row rfl 40 (.tmp 1) rfl bc rfl 40 _ (0, 0) _ HBc.out Try.underlying40 rfl size_pl ?_)
    | (refine ⟨trivial, fun h => by simp [Fence.wide] at h, ?_⟩; refine (callsIn_wide.2 (HSt.out _)).mono ?_; rintro e w' ⟨rfl, rfl⟩))
  have hal : Below W1.heap.size W1 (W1.alloc (.cells q.cells 40)) := (Below.refl _ _).alloc (Nat.le_refl _) _
  refine wpIn_rangeFunc_tellsC rfl (by omega) (gf := 56) (lb := #[.pointer (some ⟨W1.heap.size, 0, none⟩)]) rfl trivial (enters_of Try.func56 (by kernel_rfl) rfl)
    (HTl.out W1.heap.size _ (heap_alloc_new _ _)) KpS.trans (fun W l o o' h1 h2 h3 h4 => KpS.put W l o o' h2 h3) (Below.refl _ _) (fun _ => rfl)
    (fun _ W => J [] W) (fun _ _ _ => False) (fun _ X Y row hs hg hr => HJ.out [] X Y row hs hg (fun r e => ⟨Nat.le_trans HB0.out (Nat.le_trans HS1.out (Nat.le_trans hal.size (hr r e).1)), (hr r e).2⟩)) (fun _ => ownC_false)
    (HJ.out.below H1.out hal)
    (fun _ _ _ _ => False) (fun _ _ _ => ownC_false)
    ?assign ?body ?done ?stop
  case assign =>
    rintro l pre x W K hI hG hK
    have := hG.length_le
    simp at this
  case body =>
    rintro l pre x a' W hl _ hI h
    exact h.elim
  case done =>
    rintro D2 ys W hD rfl hj hK
    have HJ3 := Lib.hid hj
    have hD0 : B0 ≤ D2 := Nat.le_trans HB0.out (Nat.le_trans HS1.out (Nat.le_trans hal.size hD))
    clear hj hal
    gi_wp2
    refine ⟨by simp, .inl ⟨_, _, rfl, run_takeDeferred hK, ?_⟩⟩
    exact ⟨_, results_none rfl _ _ _, ⟨_, rfl⟩, Or.inl ⟨_, rfl, HJ.out.putObj _ HJ3.out hD0 hK rfl⟩⟩
  case stop =>
    rintro D2 c pre W hD _ h
    exact h.elim
end Go.Proofs.Ytdffbjjiojheoaa.St
