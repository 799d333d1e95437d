import Derived.Test.YthjcjjppjjpjfaaSp
import Derived.Test.YthjcjjppjjpjfaaNbW
namespace Go.Proofs.Ythjcjjppjjpjfaa
open Go.ChangeShapes Go.WideShapes Go.ChangeAt Go.RowKit

/-- how Split of the document's answer stands -/
structure Rq (w : World) (l : List Int) (t : Nat) (dn : List (List Int)) (v : Value) (vs : List Value) (wr : World) : Prop where
  le : t ≤ l.length
  whole : l.take t = join dn
  below : Below w.heap.size w wr
  many : vs.length = dn.length
  own : wr.ownsRow w.heap.size 23 1 v dn.length vs
  vals : ∀ i u, vs[i]? = some u → PcVal w u (dn.getD i [])
  few : small dn
/-- what it answers -/
def RefPost (w : World) (l : List Int) (e : Ending) (w' : World) : Prop :=
  Below w.heap.size w w' ∧ ((∃ A cap ps, e = .returned (.tuple #[.slice A ps.length cap, .bool true]) ∧ Pieces w' A cap ps ∧ join ps = l ∧ small ps) ∨ (e = .returned (.tuple #[.slice none 0 0, .bool false]) ∧ ∀ ps, small ps → join ps ≠ l))
theorem val4 (r : List Int) (h : 4 ≤ r.length) : val (r.take 4) = r.getD 0 0 * 16777216 + r.getD 1 0 * 65536 + r.getD 2 0 * 256 + r.getD 3 0 := by
  match r, h with
  | a :: b :: c :: d :: r, _ => simp [val]; omega
theorem Rq.rest {w wr : World} {l : List Int} {t : Nat} {dn : List (List Int)} {v : Value} {vs : List Value} (h : Rq w l t dn v vs wr) : l = join dn ++ l.drop t := by rw [← h.whole, List.take_append_drop]
theorem Rq.step {w wr w' : World} {l : List Int} {t n : Nat} {dn : List (List Int)} {v v' u : Value} {vs : List Value} (h : Rq w l t dn v vs wr) (h4 : t + 4 + n ≤ l.length) (hr : rng l) (hv : val ((l.drop t).take 4) = n) (hn : n < 4294967296)
    (hb : Below w.heap.size w w') (ho : w'.ownsRow w.heap.size 23 1 v' (dn.length + 1) (vs ++ [u])) (hu : PcVal w u ((l.drop (t + 4)).take n)) : Rq w l (t + 4 + n) (dn ++ [(l.drop (t + 4)).take n]) v' (vs ++ [u]) w' := by
  have hPl : ((l.drop (t + 4)).take n).length = n := by simp; omega
  have hmy := h.many
  refine ⟨h4, ?_, hb, by simp [hmy], by rw [List.length_append]; exact ho, fun i x hx => ?_, fun x hx => ?_⟩
  · rw [join_snoc, hPl, ← h.whole, ← hv, be_val 4 _ (by simp; omega) (rng_take (rng_drop hr t) 4), List.take_add, List.take_add]
  · by_cases hi : i < vs.length
    · rw [List.getElem?_append_left hi] at hx
      have e : (dn ++ [(l.drop (t + 4)).take n]).getD i [] = dn.getD i [] := by simp [List.getElem?_append, show i < dn.length by omega]
      rw [e]
      exact h.vals i x hx
    · rw [List.getElem?_append_right (by omega)] at hx
      have hi2 : i = vs.length := by
        have := (List.getElem?_eq_some_iff.1 hx).1
        simp at this
        omega
      have e : (dn ++ [(l.drop (t + 4)).take n]).getD i [] = (l.drop (t + 4)).take n := by simp [hi2, hmy]
      rw [e]
      rw [hi2] at hx
      simp at hx
      rw [← hx]
      exact hu
  · rcases List.mem_append.1 hx with h' | h'
    · exact h.few x h'
    · obtain rfl : x = (l.drop (t + 4)).take n := by simpa using h'
      rw [hPl]
      exact hn
def RefRel (w : World) (l : List Int) (m : Nat) (v i : Value) (wr : World) : Prop := ∃ (t : Nat) (dn : List (List Int)) (vs : List Value), t ≤ m ∧ i = .int .i64 t ∧ Rq w l t dn v vs wr
set_option maxRecDepth 100000 in
set_option maxHeartbeats 8000000 in
theorem ref_split (w : World) (sp : Option Addr) (m cap : Nat) (l : List Int) (hm : l.length = m) (hb : Bytes w sp cap l) (hmx : m ≤ 100000) :
    Calls Try.prog 14 #[.slice sp m cap] w (RefPost w l) := by
  have HM := Lib.hid hm
  have HB := Lib.hid hb
  have hmc : m ≤ cap := by rw [← hm]; exact hb.le
  clear hm hb
  have hst : RefRel w l m (.slice none 0 0) (.int .i64 0) w := ⟨0, [], [], by omega, rfl, by omega, rfl, Below.refl _ _, rfl, World.ownsRow_nil _ _ _ _, fun i u hu => by simp at hu, fun x hx => by cases hx⟩
  go_enter Try.func14, Try.ntmps14
  go_wp2
  go_loopw [4, 5] (fun v i wr => RefRel w l m v i wr) (fun _ i _ => m - (intOf i).toNat)
  case atStart => exact hst
  case round =>
    clear hst
    obtain ⟨t, dn, vs, htm, rfl, hq⟩ := hrel
    obtain ⟨sv, cv, rfl, _, hslv, hbv⟩ := Sl.all1 hq.own
    have hdl : dn.length + 1 ≤ 1000000 := by
      have h1 := dn_le (dn := dn)
      have h2 := congrArg List.length hq.rest
      rw [List.length_append, HM.out] at h2
      omega
    have HQ := Lib.hid hq
    have HSlv := Lib.hid hslv
    clear hq hslv
    by_cases htl : t < m
    · have hdt : decide (t < m) = true := by simp; omega
      have HRne := Lib.hid (show l.drop t ≠ [] from fun e => by have := congrArg List.length e; rw [List.length_drop, HM.out] at this; simp at this; omega)
      have HRl := Lib.hid (show (l.drop t).length = m - t by rw [List.length_drop, HM.out])
      have HNo : Hid (∀ ps, small ps → join ps = l → 4 ≤ m - t ∧ val ((l.drop t).take 4) ≤ (m - t - 4 : Nat)) := Lib.hid (fun ps hps hj => by
        rw [HQ.out.rest] at hj
        obtain ⟨qs, rfl, hq2⟩ := join_cancel dn ps (l.drop t) HQ.out.few hps hj
        have := join_whole (fun x hx => hps x (by simp [hx])) hq2 HRne.out
        rwa [HRl.out] at this)
      by_cases h4 : m - t < 4
      · have hd4 : decide ((m : Int) - (t : Int) < 4) = true := by simp; omega
        have HNo2 : Hid (∀ ps, small ps → join ps ≠ l) := Lib.hid (fun ps hps hj => by have := (HNo.out ps hps hj).1; omega)
        go_wp2
        exact bodyPost_ret (v := .tuple #[.slice none 0 0, .bool false]) (by simp [results, Try.results14, go_sem]) rfl ⟨HQ.out.below, Or.inr ⟨rfl, HNo2.out⟩⟩
      · have hd4 : decide ((m : Int) - (t : Int) < 4) = false := by simp; omega
        have h4' : t + 4 ≤ m := by omega
        have HBr := Lib.hid (HB.out.below HQ.out.below)
        obtain ⟨c, o, rfl, hc0⟩ := HBr.out.at_ t (by rw [HM.out]; omega)
        obtain ⟨_, _, he1, hc1⟩ := HBr.out.at_ (t + 1) (by rw [HM.out]; omega)
        cases he1
        obtain ⟨_, _, he2, hc2⟩ := HBr.out.at_ (t + 2) (by rw [HM.out]; omega)
        cases he2
        obtain ⟨_, _, he3, hc3⟩ := HBr.out.at_ (t + 3) (by rw [HM.out]; omega)
        cases he3
        have hv4 := val4 (l.drop t) (by rw [HRl.out]; omega)
        have g0 : (l.drop t).getD 0 0 = l.getD t 0 := by simp
        have g1 : (l.drop t).getD 1 0 = l.getD (t + 1) 0 := by simp
        have g2 : (l.drop t).getD 2 0 = l.getD (t + 2) 0 := by simp
        have g3 : (l.drop t).getD 3 0 = l.getD (t + 3) 0 := by simp
        rw [g0, g1, g2, g3] at hv4
        have b0 := HBr.out.rng (l.getD t 0) (by have : t < l.length := (by rw [HM.out]; omega); simp [this])
        have b1 := HBr.out.rng (l.getD (t + 1) 0) (by have : t + 1 < l.length := (by rw [HM.out]; omega); simp [this])
        have b2 := HBr.out.rng (l.getD (t + 2) 0) (by have : t + 2 < l.length := (by rw [HM.out]; omega); simp [this])
        have b3 := HBr.out.rng (l.getD (t + 3) 0) (by have : t + 3 < l.length := (by rw [HM.out]; omega); simp [this])
        clear g0 g1 g2 g3
        obtain ⟨x0, hx0⟩ : ∃ x, l.getD t 0 = x := ⟨_, rfl⟩
        obtain ⟨x1, hx1⟩ : ∃ x, l.getD (t + 1) 0 = x := ⟨_, rfl⟩
        obtain ⟨x2, hx2⟩ : ∃ x, l.getD (t + 2) 0 = x := ⟨_, rfl⟩
        obtain ⟨x3, hx3⟩ : ∃ x, l.getD (t + 3) 0 = x := ⟨_, rfl⟩
        rw [hx0] at hc0 hv4 b0
        rw [hx1] at hc1 hv4 b1
        rw [hx2] at hc2 hv4 b2
        rw [hx3] at hc3 hv4 b3
        clear hx0 hx1 hx2 hx3
        have HV4 := Lib.hid hv4
        clear hv4
        obtain ⟨n, hn⟩ := Int.eq_ofNat_of_zero_le (show 0 ≤ x0 * 16777216 + x1 * 65536 + x2 * 256 + x3 by omega)
        have hnb : n < 4294967296 := by omega
        have q0 : IntKind.i64.wrap x0 = x0 := IntWalk.i64_in _ (by omega)
        have q1 : IntKind.i64.wrap x1 = x1 := IntWalk.i64_in _ (by omega)
        have q2 : IntKind.i64.wrap x2 = x2 := IntWalk.i64_in _ (by omega)
        have q3 : IntKind.i64.wrap x3 = x3 := IntWalk.i64_in _ (by omega)
        have p0 : IntKind.i64.wrap (x0 * 16777216) = x0 * 16777216 := IntWalk.i64_in _ (by omega)
        have p1 : IntKind.i64.wrap (x1 * 65536) = x1 * 65536 := IntWalk.i64_in _ (by omega)
        have p2 : IntKind.i64.wrap (x2 * 256) = x2 * 256 := IntWalk.i64_in _ (by omega)
        have s1 : IntKind.i64.wrap (x0 * 16777216 + x1 * 65536) = x0 * 16777216 + x1 * 65536 := IntWalk.i64_in _ (by omega)
        have s2 : IntKind.i64.wrap (x0 * 16777216 + x1 * 65536 + x2 * 256) = x0 * 16777216 + x1 * 65536 + x2 * 256 := IntWalk.i64_in _ (by omega)
        have s3 : IntKind.i64.wrap (x0 * 16777216 + x1 * 65536 + x2 * 256 + x3) = x0 * 16777216 + x1 * 65536 + x2 * 256 + x3 := IntWalk.i64_in _ (by omega)
        have t1 : IntKind.i64.wrap ((t : Int) + 1) = (t : Int) + 1 := IntWalk.i64_in _ (by omega)
        have t2 : IntKind.i64.wrap ((t : Int) + 2) = (t : Int) + 2 := IntWalk.i64_in _ (by omega)
        have t3 : IntKind.i64.wrap ((t : Int) + 3) = (t : Int) + 3 := IntWalk.i64_in _ (by omega)
        have z1 : 0 ≤ (t : Int) + 1 := by omega
        have z2 : 0 ≤ (t : Int) + 2 := by omega
        have z3 : 0 ≤ (t : Int) + 3 := by omega
        have y1 : (t : Int) + 1 < (m : Int) := by omega
        have y2 : (t : Int) + 2 < (m : Int) := by omega
        have y3 : (t : Int) + 3 < (m : Int) := by omega
        have n1 : ((t : Int) + 1).toNat = t + 1 := by omega
        have n2 : ((t : Int) + 2).toNat = t + 2 := by omega
        have n3 : ((t : Int) + 3).toNat = t + 3 := by omega
        have HNn := Lib.hid hn
        clear hn
        go_upto_region 6 with fail
        go_quiet (fail)
        clear hc0 hc1 hc2 hc3 q0 q1 q2 q3 p0 p1 p2 s1 s2 s3 t1 t2 t3 z1 z2 z3 y1 y2 y3 n1 n2 n3
        rw [HNn.out]
        have HQ2 : Hid (Below w.heap.size w (wr.drewN nq) ∧ (wr.drewN nq).ownsRow w.heap.size 23 1 (.slice sv dn.length cv) dn.length vs) := Lib.hid ⟨below_drewN HQ.out.below nq, owns_below HQ.out.own (below_drewN (Below.refl _ _) nq)⟩
        have HV : Hid (val ((l.drop t).take 4) = (n : Int)) := Lib.hid (HV4.out.trans HNn.out)
        clear HV4 HNn b0 b1 b2 b3 HBr
        generalize wr.drewN nq = W at HQ2 ⊢
        by_cases hnm : t + 4 + n ≤ m
        · have hdn : decide ((m : Int) - ((t : Int) + 4) < (n : Int)) = false := by simp; omega
          have kC := run_mid (some ⟨c, o, none⟩) m cap (t + 4) (t + 4 + n) (by omega) (by omega)
          rw [show ((t + 4 : Nat) : Int) = (t : Int) + 4 by omega, show ((t + 4 + n : Nat) : Int) = (t : Int) + 4 + (n : Int) by omega, show t + 4 + n - (t + 4) = n by omega] at kC
          have HPv : Hid (PcVal w (.slice (cutA (some ⟨c, o, none⟩) cap (t + 4)) n (cap - (t + 4))) ((l.drop (t + 4)).take n)) := Lib.hid ⟨_, _, by rw [List.length_take, List.length_drop, HM.out, Nat.min_eq_left (by omega)], (HB.out.cut (t + 4) (by rw [HM.out]; omega)).first n⟩
          obtain ⟨S, hS⟩ : ∃ S, cutA (some ⟨c, o, none⟩) cap (t + 4) = S := ⟨_, rfl⟩
          obtain ⟨C4, hC4⟩ : ∃ S, cap - (t + 4) = S := ⟨_, rfl⟩
          rw [hS, hC4] at kC HPv
          clear hS hC4
          have hsz1 : w.heap.size ≤ W.heap.size := HQ2.out.1.size
          have HS1 := Lib.hid (Sl.new W [.slice S n C4] #[.slice S n C4] 23 (0, 0) rfl (by simp))
          have HBa := Lib.hid ((Below.refl W.heap.size W).alloc (Nat.le_refl _) (.cells #[.slice S n C4] 23))
          have HO2 := Lib.hid (owns_below HQ2.out.2 HBa.out)
          obtain ⟨D, hD⟩ : ∃ x, dn.length = x := ⟨_, rfl⟩
          rw [hD] at HO2 hdl ⊢
          have HD := Lib.hid hD
          clear hD
          go_wp2_with (refine wpList_append_sl 22 23 24 (.slice none 0 0) Try.underlying22 info23 rfl (by decide) rfl (.tmp 53) (.tmp 60) rfl w.heap.size (.slice sv D cv) D 1 vs [.slice S n C4] rfl HO2.out (some ⟨W.heap.size, 0, none⟩) 1 rfl rfl HS1.out (by simp [Value.oneCell']) hdl (by rw [size_alloc']; omega) ?_; intro v3 w3 hown3 hg3)
          have HW3 := Lib.hid ((HQ2.out.1.trans (HBa.out.mono hsz1)).trans (Below.ofGrown hg3 (by rw [size_alloc']; omega) (fun k e => (HO2.out.lt k e).1)))
          have HO3 := Lib.hid hown3
          clear hg3 hown3 kC
          go_roundw
          case rel => exact ⟨t + 4 + n, _, _, hnm, by go_num, HQ.out.step (by rw [HM.out]; exact hnm) HB.out.rng HV.out hnb HW3.out (by rw [HD.out]; exact HO3.out) HPv.out⟩
          case measure => simp [intOf]; omega
        · have hdn : decide ((m : Int) - ((t : Int) + 4) < (n : Int)) = true := by simp; omega
          have HNo2 : Hid (∀ ps, small ps → join ps ≠ l) := Lib.hid (fun ps hps hj => by have := (HNo.out ps hps hj).2; rw [HV.out] at this; omega)
          go_wp2
          exact bodyPost_ret (v := .tuple #[.slice none 0 0, .bool false]) (by simp [results, Try.results14, go_sem]) rfl ⟨HQ2.out.1, Or.inr ⟨rfl, HNo2.out⟩⟩
    · obtain rfl : t = m := by omega
      have hdf : decide (t < t) = false := by simp
      go_wp2
      refine bodyPost_ret (v := .tuple #[.slice sv dn.length cv, .bool true]) (by simp [results, Try.results14, go_sem]) rfl ⟨HQ.out.below, Or.inl ⟨sv, cv, dn, rfl, ⟨vs, HQ.out.many, HSlv.out, fun i u hu => (HQ.out.vals i u hu).below HQ.out.below⟩, ?_, HQ.out.few⟩⟩
      rw [← HQ.out.whole, List.take_of_length_le (by rw [HM.out]; exact Nat.le_refl _)]
end Go.Proofs.Ythjcjjppjjpjfaa
