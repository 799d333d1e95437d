/- Steps: all stretches of a plan, told one by one. -/
import Derived.Test.YtdffbjjiojheoaaSi
namespace Go.Proofs.Ytdffbjjiojheoaa.St
set_option maxRecDepth 100000
open Go.ChangeShapes Go.WideShapes Go.ChangeAt Go.RowKit Go.Shelf Go.Proofs.Ytdffbjjiojheoaa.Tn Go.Proofs.Ytdffbjjiojheoaa.Wg
attribute [local go_sem] Oper.semAt_some
theorem allT_succ (s : PlN) (n : Nat) : allT s (n + 1) = allT s n ++ plT s n := rng_succ _ n
theorem allT_pre (s : PlN) (n m : Nat) (h : n < m) : (allT s n ++ plT s n) <+: allT s m := by
  obtain ⟨r, hr⟩ := rng_split (fun a => plT s a) n m h
  exact pre_of r (List.prefix_refl _) (by unfold allT; rw [hr]; simp)
/-- the captured plan, and how far it went -/
structure Tq (W0 : World) (n0 bc : Nat) (q : Pl) (T : List Str) (J Jx : List Str → World → Prop) (p : List Str) (mr : Bool) (W : World) : Prop where
  pl : W.heap[bc]? = some (.cells q.cells 40 (0, 0))
  sz : W0.heap.size ≤ W.heap.size
  came : Came T J Jx p mr W
theorem Tq.go {W0 : World} {n0 bc : Nat} {q : Pl} {T : List Str} {J Jx : List Str → World → Prop} {p p' : List Str} {mr mr' : Bool} {W W' : World} (h : Tq W0 n0 bc q T J Jx p mr W) (hk : KpS n0 bc W W') (hc : Came T J Jx p' mr' W') : Tq W0 n0 bc q T J Jx p' mr' W' :=
  ⟨hk.same _ _ _ (Or.inr rfl) (Or.inr (Or.inl rfl)) h.pl, Nat.le_trans h.sz hk.size, hc⟩
theorem Tq.below {W0 : World} {n0 bc B0 : Nat} {q : Pl} {T : List Str} {J Jx : List Str → World → Prop} {p : List Str} {W W' : World} (h : Tq W0 n0 bc q T J Jx p true W) (hJ : OwnC B0 J) (hb : Below W.heap.size W W') : Tq W0 n0 bc q T J Jx p true W' :=
  ⟨(hb.block _ (Array.getElem?_eq_some_iff.1 h.pl).1).trans h.pl, Nat.le_trans h.sz hb.size, Or.inl ⟨rfl, hJ.below h.came.yes hb⟩⟩
set_option maxHeartbeats 4000000 in
theorem str1_in (m l n0 bc B0 : Nat) (s : PlN) (hs : s.B) (J Jx : List Str → World → Prop) (hJ : OwnC B0 J) (hJx : OwnC B0 Jx) (hY : YS n0 bc l (allT s s.t) J Jx)
    (W : World) (hn0 : n0 ≤ W.heap.size) (hB0 : B0 ≤ W.heap.size) (hb : W.heap[bc]? = some (.cells s.q.cells 40 (0, 0))) (h0 : J [] W) :
    CallsIn Fence.wide m Try.prog 56 #[.func (.yield l) #[] #[], .pointer (some ⟨bc, 0, none⟩)] W fun e W' => (∃ v, e = .returned v) ∧ ((∃ xs, xs = allT s s.t ∧ J xs W') ∨ (∃ pre, True ∧ Jx pre W')) := by
  obtain ⟨T, hT⟩ : ∃ T, allT s s.t = T := ⟨_, rfl⟩
  have HPp : Hid (∀ i, i < s.t → (allT s i ++ plT s i) <+: T) := Lib.hid (fun i hi => by rw [← hT]; exact allT_pre s i s.t hi)
  rw [hT] at hY ⊢
  have HTt := Lib.hid hT
  have HPl := Lib.hid (fun W => Places_yes W s hs)
  have ht := hs.t.2
  have HK := Lib.hid (fun (p : List Str) (i : Nat) (hi : i ≤ 64) (hp : (p ++ plT s i) <+: T) (W1 : World) (hs1 : W.heap.size ≤ W1.heap.size) (hj : J p W1) (m1 : Nat) => place_in m1 l n0 bc B0 s hs T J Jx hJ hJx hY p i hi hp W1 (Nat.le_trans hn0 hs1) (Nat.le_trans hB0 hs1) hj)
  have HJ : Hid (OwnC B0 J) := hJ
  have HQ : Hid (Tq W n0 bc s.q T J Jx [] true W) := Lib.hid ⟨hb, Nat.le_refl _, Or.inl ⟨rfl, h0⟩⟩
  obtain ⟨N, hN⟩ : ∃ N, s.t = N := ⟨_, rfl⟩
  rw [hN] at ht HPp HPl HTt
  have HN := Lib.hid hN
  clear hs hJ hJx hY hn0 hB0 hb h0 hT hN
  refine callsIn_of_wp Try.func56 rfl trivial ?_ rfl
  simp only [Try.ntmps56, List.size_toArray, List.length_cons, List.length_nil, Nat.reduceAdd, Nat.reduceSub, Array.replicate_succ, Array.replicate_zero, List.push_toArray, List.append_toArray, List.nil_append, List.cons_append]
  gi_wp2_with (first
    | (refine wpListIn_load_row rfl 40 (.tmp 1) rfl bc rfl 40 _ (0, 0) _ HQ.out.pl Try.underlying40 rfl size_pl ?_)
    | (refine ⟨trivial, fun h => by simp [Fence.wide] at h, ?_⟩; refine (callsIn_wide.2 (HPl.out _)).mono ?_; rintro e w2 ⟨rfl, k1⟩; have HQ2 := Lib.hid (HQ.out.below HJ.out k1); clear k1 HQ))
  gi_loopw [6] (fun iv wr => ∃ i : Nat, i ≤ N ∧ iv = .int .i64 i ∧ Tq W n0 bc s.q T J Jx (allT s i) true wr) (fun iv _ => N - (intOf iv).toNat)
  case atStart => exact ⟨0, by omega, rfl, HQ2.out⟩
  case round =>
    clear HQ2
    obtain ⟨i, hi, rfl, k1⟩ := hrel
    have HQ := Lib.hid k1
    clear k1
    by_cases hlt : i < N
    · have e1 : decide (i < N) = true := by simpa using hlt
      have e2 : decide ((i : Int) < (N : Int)) = true := by simp; omega
      have HC := HK.out _ i (by omega) (HPp.out i hlt) wr HQ.out.sz HQ.out.came.yes
      rw [← allT_succ] at HC
      have HCc := Lib.hid HC
      clear HC
      gi_wp2_with (first
        | (refine wpListIn_load_row rfl 40 (.tmp 1) rfl bc rfl 40 _ (0, 0) _ HQ.out.pl Try.underlying40 rfl size_pl ?_)
        | (refine ⟨trivial, fun h => by simp [Fence.wide] at h, ?_⟩; refine (HCc.out _).mono ?_; rintro e w3 ⟨mr, rfl, k1, k2⟩; have HQ3 := Lib.hid (HQ.out.go k1 k2); clear k1 k2 HQ; rcases mr with _ | _))
      · refine bodyPost_ret (results_none rfl _ _ _) rfl ?_
        exact ⟨⟨_, rfl⟩, Or.inr (by
          rcases HQ3.out.came with ⟨h, _⟩ | ⟨_, p, h⟩
          · cases h
          · exact ⟨p, trivial, h⟩)⟩
      · gi_wp2
        go_roundw
        case rel => exact ⟨i + 1, by omega, by go_num, HQ3.out⟩
        case measure => simp [intOf]; omega
    · obtain rfl : i = N := by omega
      have e1 : decide (i < i) = false := by simp
      have e2 : decide ((i : Int) < (i : Int)) = false := by simp
      gi_wp2
      go_end0
      exact ⟨⟨_, rfl⟩, Or.inl ⟨_, HTt.out, HQ.out.came.yes⟩⟩
theorem str1_no (m l : Nat) (q : Pl) (hq : q.chk ≠ 0) {α : Type} (J Jx : List α → World → Prop) (B0 bc : Nat) (hJ : OwnC B0 J) (W : World) (hb : W.heap[bc]? = some (.cells q.cells 40 (0, 0))) (h0 : J [] W) :
    CallsIn Fence.wide m Try.prog 56 #[.func (.yield l) #[] #[], .pointer (some ⟨bc, 0, none⟩)] W fun e W' => (∃ v, e = .returned v) ∧ ((∃ xs, xs = [] ∧ J xs W') ∨ (∃ pre, True ∧ Jx pre W')) := by
  have HPl := Lib.hid (fun W => Places_no W q hq)
  have HJ : Hid (OwnC B0 J) := hJ
  have HB := Lib.hid hb
  have H0 := Lib.hid h0
  clear hq hJ hb h0
  refine callsIn_of_wp Try.func56 rfl trivial ?_ rfl
  simp only [Try.ntmps56, List.size_toArray, List.length_cons, List.length_nil, Nat.reduceAdd, Nat.reduceSub, Array.replicate_succ, Array.replicate_zero, List.push_toArray, List.append_toArray, List.nil_append, List.cons_append]
  gi_wp2_with (first
    | (refine wpListIn_load_row rfl 40 (.tmp 1) rfl bc rfl 40 _ (0, 0) _ HB.out Try.underlying40 rfl size_pl ?_)
    | (refine ⟨trivial, fun h => by simp [Fence.wide] at h, ?_⟩; refine (callsIn_wide.2 (HPl.out _)).mono ?_; rintro e w2 ⟨rfl, k1⟩; have HJ2 := Lib.hid (HJ.out.below H0.out k1); clear k1 H0))
  gi_loopw [6] (fun iv wr => iv = .int .i64 0 ∧ J [] wr) (fun _ _ => 0)
  case atStart => exact ⟨rfl, HJ2.out⟩
  case round =>
    clear HJ2
    obtain ⟨rfl, k1⟩ := hrel
    have HJ3 := Lib.hid k1
    clear k1
    gi_wp2
    go_end0
    exact ⟨⟨_, rfl⟩, Or.inl ⟨_, rfl, HJ3.out⟩⟩
theorem stretches_any (w : World) (q : Pl) : Calls Try.prog 35 #[.agg q.cells] w fun e w' => e = .returned (.func (.func 56) #[] #[.pointer (some ⟨w.heap.size, 0, none⟩)]) ∧ w' = w.alloc (.cells q.cells 40) := by
  go_enter Try.func35, Try.ntmps35
  go_wp2
  go_ret
  exact ⟨rfl, rfl⟩
/-- the stretches of a plan -/
def strD (q : Pl) (L : List Str) : Prop := (q.chk ≠ 0 ∧ L = []) ∨ ∃ s : PlN, s.B ∧ q = s.q ∧ L = allT s s.t
theorem str_tells (m bc : Nat) (q : Pl) (L : List Str) (hL : strD q L) (w : World) (hb : w.heap[bc]? = some (.cells q.cells 40 (0, 0))) :
    SeqTellsC Fence.wide m Try.prog 56 #[.pointer (some ⟨bc, 0, none⟩)] (fun x : Str => #[x.val]) (KpS w.heap.size bc) (fun pre x _ => (pre ++ [x]) <+: L) (fun ys => ys = L) (fun _ => True) w := fun l J Jx W hW hJ hJx hY h0 => by
  have hb' := (hW.block _ (Array.getElem?_eq_some_iff.1 hb).1).trans hb
  rcases hL with ⟨hq, rfl⟩ | ⟨s, hs, rfl, rfl⟩
  · exact str1_no m l q hq J Jx _ bc hJ W hb' h0
  · exact str1_in m l w.heap.size bc W.heap.size s hs J Jx hJ hJx (fun pre x W1 hj hp => yieldAt_any (hY pre x W1 hj hp)) W hW.size (Nat.le_refl _) hb' h0
theorem strD_some (q : Pl) : ∃ L, strD q L := by
  by_cases h : q.chk = 0
  · obtain ⟨s, hq, hs⟩ := pl_ok h
    exact ⟨_, Or.inr ⟨s, hs, hq, rfl⟩⟩
  · exact ⟨[], Or.inl ⟨h, rfl⟩⟩
end Go.Proofs.Ytdffbjjiojheoaa.St
