import Derived.Test.YtighmhoekbnagaaDoorNf
import Derived.Deep.DeepCutAuto
import Derived.BigQuiet
import Derived.Test.YtighmhoekbnagaaDoorKd
import Derived.Test.YtighmhoekbnagaaDoorPv
namespace Go.Proofs.YtighmhoekbnagaaDoor

section
open Go.ChangeShapes Go.WideShapes Go.ChangeAt Go.RowKit

theorem take_snocI (l : List Int) (k : Nat) (h : k < l.length) : l.take (k + 1) = l.take k ++ [l.getD k 0] := by
  have e : l.getD k 0 = l[k] := by simp [h]
  rw [e, List.take_succ_eq_append_getElem h]
set_option maxRecDepth 100000 in
set_option maxHeartbeats 2000000 in
theorem bytes_any (w : World) (sp sq : Option Addr) (n m cp cq : Nat) (a b : List Int) (hn : a.length = n) (hm : b.length = m) (ha : Byt w sp cp a) (hb : Byt w sq cq b) :
    Calls Tryd.prog 27 #[.slice sp n cp, .slice sq m cq] w (Told (decide (a = b)) w) := by
  have hnl : n ≤ 9223372036854775807 := by rw [← hn]; exact ha.len
  have hml : m ≤ 9223372036854775807 := by rw [← hm]; exact hb.len
  have HN := Lib.hid hn
  have HM := Lib.hid hm
  have HA := Lib.hid ha
  have HB := Lib.hid hb
  clear hn hm ha hb
  by_cases hne : n = m
  · have hd : ((n : Int) != (m : Int)) = false := by rw [hne]; simp
    subst hne
    go_enter Tryd.func27, Tryd.ntmps27
    go_wp2
    go_loopw [5] (fun i wr => ∃ k : Nat, k ≤ n ∧ i = .int .i64 k ∧ a.take k = b.take k ∧ ∃ q, wr = w.drewN q) (fun i _ => n - (intOf i).toNat)
    case atStart => exact ⟨0, by omega, rfl, rfl, 0, rfl⟩
    case round =>
      obtain ⟨k, hk, rfl, heq, q, rfl⟩ := hrel
      have HEq := Lib.hid heq
      clear heq
      by_cases hlt : k < n
      · have hdt : decide (k < n) = true := by simp; omega
        obtain ⟨c, o, rfl, hc1⟩ := HA.out.at_ k (by rw [HN.out]; exact hlt)
        obtain ⟨c', o', rfl, hc2⟩ := HB.out.at_ k (by rw [HM.out]; exact hlt)
        have HS1 := Lib.hid (take_snocI a k (by rw [HN.out]; exact hlt))
        have HS2 := Lib.hid (take_snocI b k (by rw [HM.out]; exact hlt))
        obtain ⟨x, hx⟩ : ∃ x, a.getD k 0 = x := ⟨_, rfl⟩
        obtain ⟨y, hy⟩ : ∃ y, b.getD k 0 = y := ⟨_, rfl⟩
        rw [hx] at hc1 HS1
        rw [hy] at hc2 HS2
        have HX := Lib.hid hx
        have HY := Lib.hid hy
        clear hx hy
        by_cases hxy : x = y
        · subst hxy
          have hd2 : (x != x) = false := by simp
          go_wp2
          go_quiet (fail)
          go_wp2
          go_roundw
          case rel => exact ⟨k + 1, by omega, by go_num, by rw [HS1.out, HS2.out, HEq.out], _, rfl⟩
          case measure => simp [intOf]; omega
        · have hd2 : (x != y) = true := by simpa using hxy
          have HNe : Hid (decide (a = b) = false) := by
            refine Lib.hid (decide_eq_false (fun e => hxy ?_))
            rw [← HX.out, ← HY.out, e]
          clear hxy
          go_wp2
          go_quiet (fail)
          go_wp2
          go_ret
          exact ⟨by rw [HNe.out]; rfl, q + nq, by rw [World.drewN_drewN]⟩
      · obtain rfl : k = n := by omega
        have hdf : decide (k < k) = false := by simp
        have HE : Hid (decide (a = b) = true) := by
          have := HEq.out
          rw [List.take_of_length_le (by rw [HN.out]; omega), List.take_of_length_le (by rw [HM.out]; omega)] at this
          exact Lib.hid (decide_eq_true this)
        go_wp2
        go_ret
        exact ⟨by rw [HE.out]; rfl, _, rfl⟩
  · have hd : ((n : Int) != (m : Int)) = true := by simp; omega
    have HNe : Hid (decide (a = b) = false) := Lib.hid (decide_eq_false (fun e => hne (by rw [← HN.out, ← HM.out, e])))
    clear hne
    go_enter Tryd.func27, Tryd.ntmps27
    go_wp2
    go_ret
    exact ⟨by rw [HNe.out]; rfl, 0, rfl⟩
end

section
open Go.ChangeShapes Go.WideShapes Go.ChangeAt Go.RowKit

/-- two rows of bytes that are not the same have one digest -/
def coll (a b : List Int) : Bool := !decide (a = b) && sum a == sum b
set_option maxRecDepth 100000 in
set_option maxHeartbeats 4000000 in
theorem collides_any (w : World) (sp sq : Option Addr) (n m cp cq : Nat) (a b : List Int) (hn : a.length = n) (hm : b.length = m) (ha : Byt w sp cp a) (hb : Byt w sq cq b) (he : Env w) (hn2 : n ≤ 1000000) (hm2 : m ≤ 1000000) :
    Calls Tryd.prog 46 #[.slice sp n cp, .slice sq m cq] w fun e w' => e = .returned (.bool (coll a b)) ∧ Below w.heap.size w w' := by
  have HB := Lib.hid (bytes_any w sp sq n m cp cq a b hn hm ha hb)
  have H1 := Lib.hid (fun W (hB : Below w.heap.size w W) => sum_any W sp n cp a hn (ha.below hB).by_ (he.below hB) (by omega))
  have H2 := Lib.hid (fun W (hB : Below w.heap.size w W) => sum_any W sq m cq b hm (hb.below hB).by_ (he.below hB) (by omega))
  have h1 := sum_length a
  have h2 := sum_length b
  have hc : coll a b = (!decide (a = b) && sum a == sum b) := rfl
  clear ha hb he hn hm
  obtain ⟨A, hA⟩ : ∃ A, sum a = A := ⟨_, rfl⟩
  obtain ⟨B, hB⟩ : ∃ A, sum b = A := ⟨_, rfl⟩
  rw [hA] at H1 h1 hc
  rw [hB] at H2 h2 hc
  clear hA hB
  have eR : ∀ W : World, (binOp .eql 24 (.agg (rowB A)) (.agg (rowB B))).run Tryd.prog W = .ok (.bool (A == B)) W := fun W => run_eql_row (P := Tryd.prog) 24 5 32 .u8 Tryd.underlying24 Tryd.underlying5 size5 A B h1 h2 W
  clear h1 h2
  by_cases hab : a = b
  · rw [decide_eq_true hab] at HB hc
    have HC : Hid (coll a b = false) := hc
    clear hc hab
    go_enter Tryd.func46, Tryd.ntmps46
    go_wp2_with (go_at_call 27; refine HB.out.mono ?_; rintro e w' ⟨rfl, q, rfl⟩)
    go_ret
    exact ⟨by rw [HC.out]; rfl, below_drewN (Below.refl _ _) q⟩
  · rw [decide_eq_false hab] at HB hc
    have HC : Hid (coll a b = (A == B)) := hc
    clear hc hab
    obtain ⟨z, hz⟩ : ∃ z, (A == B) = z := ⟨_, rfl⟩
    rw [hz] at HC eR
    clear hz
    go_enter Tryd.func46, Tryd.ntmps46
    go_wp2_with (first
      | (go_at_call 27; refine HB.out.mono ?_; rintro e w' ⟨rfl, q, rfl⟩; have H0 := Lib.hid (below_drewN (Below.refl w.heap.size w) q)))
    refine (H1.out _ H0.out).mono ?_
    rintro e w1 ⟨rfl, hb1⟩
    have HB1 := Lib.hid (H0.out.trans (hb1.mono H0.out.size))
    clear hb1
    go_wp2_with fail
    refine (H2.out _ HB1.out).mono ?_
    rintro e w2 ⟨rfl, hb2⟩
    have HB2 := Lib.hid (HB1.out.trans (hb2.mono HB1.out.size))
    clear hb2
    go_wp2
    go_ret
    exact ⟨by rw [HC.out]; rfl, HB2.out⟩
theorem coll_cons (k : Int) (a b : List Int) (h : coll (k :: a) (k :: b) = false) (he : sum (k :: a) = sum (k :: b)) : a = b := by
  unfold coll at h
  rw [he] at h
  simpa using h
/-! ### two ways to one digest -/
/-- the bytes of a node on the way -/
def nbytes (p : Nat) (own beside : List Int) : List Int := if p % 2 = 0 then 1 :: (beside ++ own) else 1 :: (own ++ beside)
theorem sum_nbytes (p : Nat) (a b : List Int) : sum (nbytes p a b) = jn nodeD p a b := by
  unfold nbytes jn
  split <;> rfl
theorem nbytes_inj {p : Nat} {a b a' b' : List Int} (h1 : a.length = 32) (h2 : b.length = 32) (h3 : a'.length = 32) (h4 : b'.length = 32) (h : nbytes p a b = nbytes p a' b') : a = a' ∧ b = b' := by
  unfold nbytes at h
  split at h
  · simp only [List.cons.injEq, true_and] at h
    have := List.append_inj h (by rw [h2, h4])
    exact ⟨this.2, this.1⟩
  · simp only [List.cons.injEq, true_and] at h
    exact List.append_inj h (by rw [h1, h3])
/-- what is left of two ways: they lead to one digest, and are not the same -/
def Left (xs : List (Nat × Nat)) (x y : List Int) (p q : List (List Int)) : Prop := go nodeD xs x p = go nodeD xs y q ∧ (x ≠ y ∨ p ≠ q)
theorem Left.none {x y : List Int} (h : Left [] x y [] []) : False := by
  rcases h.2 with h2 | h2
  · exact h2 h.1
  · exact h2 rfl
theorem Left.step {t : Nat × Nat} {xs : List (Nat × Nat)} {x y a b : List Int} {p q : List (List Int)} (h : Left (t :: xs) x y (a :: p) (b :: q)) (h1 : x.length = 32) (h2 : y.length = 32) (h3 : a.length = 32) (h4 : b.length = 32) (hc : coll (nbytes t.2 x a) (nbytes t.2 y b) = false) :
    Left xs (jn nodeD t.2 x a) (jn nodeD t.2 y b) p q := by
  refine ⟨h.1, ?_⟩
  by_cases he : jn nodeD t.2 x a = jn nodeD t.2 y b
  · right
    rintro rfl
    have h5 : nbytes t.2 x a = nbytes t.2 y b := by
      unfold coll at hc
      rw [sum_nbytes, sum_nbytes, he] at hc
      simpa using hc
    obtain ⟨rfl, rfl⟩ := nbytes_inj h1 h3 h2 h4 h5
    rcases h.2 with h6 | h6
    · exact h6 rfl
    · exact h6 rfl
  · exact .inl he
theorem Left.start {xs : List (Nat × Nat)} {la lx : List Int} {p q : List (List Int)} (hg : go nodeD xs (leafD la) p = go nodeD xs (leafD lx) q) (hne : ¬ (la = lx ∧ p = q)) (hc : coll (0 :: la) (0 :: lx) = false) : Left xs (leafD la) (leafD lx) p q := by
  refine ⟨hg, ?_⟩
  by_cases he : leafD la = leafD lx
  · right
    rintro rfl
    exact hne ⟨coll_cons 0 la lx hc he, rfl⟩
  · exact .inl he
end

section
open Go.ChangeShapes Go.WideShapes Go.ChangeAt Go.RowKit

theorem lf_more : ∀ (k H n i : Nat), n ≤ 2 ^ H → lf (H + k) n i = lf H n i
  | 0, _, _, _, _ => rfl
  | k + 1, H, n, i, h => by
    rw [← Nat.add_assoc, lf, if_pos (Nat.le_trans h (Nat.pow_le_pow_right (by omega) (by omega))), lf_more k H n i h]
theorem lf_any {H K n : Nat} (i : Nat) (h1 : n ≤ 2 ^ H) (h2 : n ≤ 2 ^ K) : lf H n i = lf K n i := by
  by_cases h : H ≤ K
  · obtain ⟨k, rfl⟩ := Nat.exists_eq_add_of_le h
    rw [lf_more k H n i h1]
  · obtain ⟨k, rfl⟩ := Nat.exists_eq_add_of_le (Nat.le_of_lt (Nat.lt_of_not_le h))
    rw [lf_more k K n i h2]
theorem lf_one (n i : Nat) (h : n < 2) : lf 63 n i = [] := by
  rw [lf_any (H := 63) (K := 0) i (by omega) (by omega)]; rfl
theorem lf_half (n i h k : Nat) (hh : 2 ^ h = k) (hk : k < n) (h2 : n ≤ 2 * k) (hn : n ≤ 9223372036854775807) : lf 63 n i = if i < k then false :: lf 63 k i else true :: lf 63 (n - k) (i - k) := by
  have e : n ≤ 2 ^ (h + 1) := by rw [Nat.pow_succ, hh]; omega
  have e2 : n - k ≤ 2 ^ h := by omega
  rw [lf_any (H := 63) (K := h + 1) i (by omega) e, lf_succ, hh, if_neg (by omega), lf_any (H := h) (K := 63) i (by omega) (by omega), lf_any (H := h) (K := 63) (i - k) e2 (by omega)]
/-- which side the way comes from at its j-th part -/
theorem lf_at (n i j : Nat) (hi : i < n) (hn : n ≤ 9223372036854775807) (hj : j < (wy n i 63).length) (t : Nat × Nat) (ht : (wy n i 63)[j]? = some t) : (lf 63 n i)[(wy n i 63).length - 1 - j]? = some (decide (t.2 % 2 = 0)) := by
  have h1 := lf_wy 63 n i hi (by omega)
  have h2 : (lf 63 n i).length = (wy n i 63).length := by rw [lf_length, dp_wy 63 n i hi (by omega)]
  have h3 : (lf 63 n i).reverse[j]? = some (decide (t.2 % 2 = 0)) := by rw [h1, List.getElem?_map, ht]; rfl
  rw [List.getElem?_reverse (by omega), h2] at h3
  exact h3
/-- two ways in boxes, and two digests in boxes behind them -/
structure Fs (w : World) (V1 V2 : Array Value) (g h : Nat) (x y : List Int) (W : World) : Prop where
  below : Below w.heap.size w W
  b1 : W.heap[w.heap.size]? = some (.cells V1 35 (0, 0))
  b2 : W.heap[w.heap.size + 1]? = some (.cells V2 35 (0, 0))
  dx : Dg W g x
  dy : Dg W h y
  lt1 : w.heap.size + 1 < g
  lt2 : g < h
section
variable {w W W' : World} {V1 V2 : Array Value} {g h : Nat} {x y : List Int}
theorem Fs.grown (f : Fs w V1 V2 g h x y W) {row : Option Nat} (hg : W.grownBy W' row) (hr : ∀ k, row = some k → h < k) : Fs w V1 V2 g h x y W' := by
  have n1 := f.lt1
  have n2 := f.lt2
  exact ⟨f.below.trans (Below.ofGrown hg f.below.size (fun k e => by have := hr k e; omega)), (hg.block _ (Array.getElem?_eq_some_iff.1 f.b1).1 (fun e => by have := hr _ e.symm; omega)).trans f.b1,
    (hg.block _ (Array.getElem?_eq_some_iff.1 f.b2).1 (fun e => by have := hr _ e.symm; omega)).trans f.b2, (hg.block _ (Array.getElem?_eq_some_iff.1 f.dx).1 (fun e => by have := hr _ e.symm; omega)).trans f.dx,
    (hg.block _ (Array.getElem?_eq_some_iff.1 f.dy).1 (fun e => by have := hr _ e.symm; omega)).trans f.dy, n1, n2⟩
theorem Fs.later (f : Fs w V1 V2 g h x y W) (hb : Below W.heap.size W W') : Fs w V1 V2 g h x y W' :=
  ⟨f.below.trans (hb.mono f.below.size), (hb.block _ (Array.getElem?_eq_some_iff.1 f.b1).1).trans f.b1, (hb.block _ (Array.getElem?_eq_some_iff.1 f.b2).1).trans f.b2, f.dx.below hb, f.dy.below hb, f.lt1, f.lt2⟩
theorem Fs.setx (f : Fs w V1 V2 g h x y W) (x' : List Int) : Fs w V1 V2 g h x' y (W.setRow g (rowB x')) := by
  have n1 := f.lt1
  have n2 := f.lt2
  have hg := grown_setRow (w := W) (p := g) (cs := rowB x')
  exact ⟨below_setRow f.below (by omega) _, (hg.block _ (Array.getElem?_eq_some_iff.1 f.b1).1 (by simp; omega)).trans f.b1, (hg.block _ (Array.getElem?_eq_some_iff.1 f.b2).1 (by simp; omega)).trans f.b2,
    setRow_heap _ _ _ _ _ _ f.dx, (hg.block _ (Array.getElem?_eq_some_iff.1 f.dy).1 (by simp; omega)).trans f.dy, n1, n2⟩
theorem Fs.sety (f : Fs w V1 V2 g h x y W) (y' : List Int) : Fs w V1 V2 g h x y' (W.setRow h (rowB y')) := by
  have n1 := f.lt1
  have n2 := f.lt2
  have hg := grown_setRow (w := W) (p := h) (cs := rowB y')
  exact ⟨below_setRow f.below (by omega) _, (hg.block _ (Array.getElem?_eq_some_iff.1 f.b1).1 (by simp; omega)).trans f.b1, (hg.block _ (Array.getElem?_eq_some_iff.1 f.b2).1 (by simp; omega)).trans f.b2,
    (hg.block _ (Array.getElem?_eq_some_iff.1 f.dx).1 (by simp; omega)).trans f.dx, setRow_heap _ _ _ _ _ _ f.dy, n1, n2⟩
theorem Fs.c1 (f : Fs w V1 V2 g h x y W) (k : Nat) (v : Value) (hv : V1[k]? = some v) : W.cell? ⟨w.heap.size, k, none⟩ = some v := by
  rw [cell_of_row _ _ _ _ _ _ f.b1]; exact hv
theorem Fs.c2 (f : Fs w V1 V2 g h x y W) (k : Nat) (v : Value) (hv : V2[k]? = some v) : W.cell? ⟨w.heap.size + 1, k, none⟩ = some v := by
  rw [cell_of_row _ _ _ _ _ _ f.b2]; exact hv
end
/-- a slice of bytes, wherever it lies -/
def Bv (B : Nat) (l : List Int) (n : Nat) (w : World) (v : Value) : Prop := ∃ sp cap, v = .slice sp n cap ∧ Byt w sp cap l ∧ ∀ c o, sp = some ⟨c, o, none⟩ → B ≤ c
theorem Bv.below {B : Nat} {l : List Int} {n : Nat} {w w' : World} {v : Value} (h : Bv B l n w v) (hb : Below w.heap.size w w') : Bv B l n w' v := by
  obtain ⟨sp, cap, e, h, h2⟩ := h
  exact ⟨sp, cap, e, h.below hb, h2⟩
/-- what the drawn regions tell: row p and row r are letters -/
def fvP (B : Nat) (l1 l2 : List Int) (n1 n2 p r : Nat) (X : List Value) (j : Nat) (w : World) (v : Value) : Prop :=
  if j = p then Bv B l1 n1 w v else if j = r then Bv B l2 n2 w v else v = X.getD j undef
theorem fvP_le {B : Nat} {l1 l2 : List Int} {n1 n2 p r : Nat} {X : List Value} (j : Nat) (w w' : World) (v : Value) (hb : Below w.heap.size w w') (h : fvP B l1 l2 n1 n2 p r X j w v) : fvP B l1 l2 n1 n2 p r X j w' v := by
  unfold fvP at *
  split
  · rename_i hj; rw [if_pos hj] at h; exact h.below hb
  · rename_i hj
    rw [if_neg hj] at h
    split
    · rename_i hj2; rw [if_pos hj2] at h; exact h.below hb
    · rename_i hj2; rw [if_neg hj2] at h; exact h
theorem fvP_v {B : Nat} {l1 l2 : List Int} {n1 n2 p r : Nat} {X : List Value} (j : Nat) (w : World) (v : Value) (h : fvP B l1 l2 n1 n2 p r X j w v) : pvV p r X j v := by
  unfold fvP at h
  split at h
  · exact .inl ‹_›
  · split at h
    · exact .inr (.inl ‹_›)
    · exact .inr (.inr h)
theorem cfLeafBytes (vs : Array Value) (W : World) : (callFunc 33 vs).run Tryd.prog W = .ok (.enter 33 vs) W := cf Tryd.func33 (by kernel_rfl) (by kernel_rfl) vs W
theorem cfNodeBytes (vs : Array Value) (W : World) : (callFunc 36 vs).run Tryd.prog W = .ok (.enter 36 vs) W := cf Tryd.func36 (by kernel_rfl) (by kernel_rfl) vs W
set_option maxRecDepth 100000 in
set_option maxHeartbeats 4000000 in
theorem nodeBytesO_any (w : World) (a b : List Int) (ha : a.length = 32) (hb : b.length = 32) :
    Calls Tryd.prog 36 #[.agg (rowB a), .agg (rowB b)] w fun e w' => ∃ sp' cap', e = .returned (.slice sp' 65 cap') ∧ Byt w' sp' cap' (1 :: (a ++ b)) ∧ Below w.heap.size w w' ∧ ∀ c o, sp' = some ⟨c, o, none⟩ → w.heap.size ≤ c := by
  have HA := Lib.hid ha
  have HB := Lib.hid hb
  clear ha hb
  go_enter Tryd.func36, Tryd.ntmps36
  go_upto_region 2 with fail
  simp only [Nat.add_assoc, Nat.reduceAdd]
  refine gen_world (Q := fun w => Code.wp _ _ _ _ w) _ (NdS w a b (.slice (some ⟨w.heap.size + 2, 0, none⟩) 1 1) 1 [1]) (NdS.made w a b) ?_
  intro w1 h1
  have H1 := Lib.hid h1
  clear h1
  have r1 := run_digest w.heap.size
  have r2 := run_digest (w.heap.size + 1)
  have T0 : w.heap.size + 2 ≤ w1.heap.size := by have h1 := (Array.getElem?_eq_some_iff.1 H1.out.rb).1; omega
  have T1 := Lib.hid (sl_row H1.out.ra HA.out)
  have T2 : Hid (∀ v ∈ a.map (Value.int .u8), v.oneCell' = true) := fun v hv => by obtain ⟨x, _, rfl⟩ := List.mem_map.1 hv; rfl
  have T3 : Hid ((a.map (Value.int .u8)).length = 32) := by rw [Hid, List.length_map]; exact HA.out
  have T4 : Hid (w1.ownsRow (w.heap.size + 2) 5 1 (.slice (some ⟨w.heap.size + 2, 0, none⟩) 1 1) 1 [.int .u8 1]) := H1.out.own
  go_upto_region 3 with (refine wpList_append_sl 28 5 1 (.int .u8 0) Tryd.underlying28 info5 rfl (by decide) rfl (.tmp 7) (.tmp 8) rfl (w.heap.size + 2) (.slice (some ⟨w.heap.size + 2, 0, none⟩) 1 1) 1 32 [.int .u8 1] (a.map (Value.int .u8)) rfl T4.out (some ⟨w.heap.size, 0, none⟩) 32 rfl T3.out T1.out T2.out (by omega) T0 ?_; intro v2 w2 hown hg; have H2 : Hid (NdS w a b v2 (1 + 32) (1 :: a) w2) := H1.out.grown hg hown; clear hown hg)
  go_wp2_with (refine wpList_append_sl 28 5 1 (.int .u8 0) Tryd.underlying28 info5 rfl (by decide) rfl (.tmp 10) (.tmp 11) rfl (w.heap.size + 2) v2 (1 + 32) 32 ((1 :: a).map (Value.int .u8)) (b.map (Value.int .u8)) rfl H2.out.own (some ⟨w.heap.size + 1, 0, none⟩) 32 rfl (by simpa using HB.out) (sl_row H2.out.rb HB.out) (fun v hv => by obtain ⟨x, _, rfl⟩ := List.mem_map.1 hv; rfl) (by omega) (by have h1 := (Array.getElem?_eq_some_iff.1 H2.out.rb).1; omega) ?_; intro v3 w3 hown hg; have H3 : Hid (NdS w a b v3 (1 + 32 + 32) (1 :: (a ++ b)) w3) := H2.out.grown hg (by rw [← List.map_append] at hown; exact hown); clear hown hg)
  obtain ⟨sp', cap', rfl, hlen, hby⟩ := own_byt H3.out.own
  have HBs : Hid (∀ c o, sp' = some ⟨c, o, none⟩ → w.heap.size ≤ c) := Lib.hid (fun c o e => by have := (H3.out.own.lt c (by rw [e]; rfl)).1; omega)
  have HY := Lib.hid hby
  clear hby hlen
  go_ret
  exact ⟨sp', cap', rfl, HY.out, H3.out.below, HBs.out⟩
theorem own_bools {w : World} {base n : Nat} {v : Value} {bs : List Bool} (h : w.ownsRow base 4 1 v n (bs.map Value.bool)) : ∃ sp cap, v = .slice sp n cap ∧ True := by
  rcases h.2 with ⟨rfl, rfl⟩ | ⟨g, cap, cur, rfl, _⟩
  · exact ⟨none, 0, rfl, trivial⟩
  · exact ⟨_, cap, rfl, trivial⟩
theorem own_bool_at {w : World} {base n : Nat} {sp : Option Addr} {cap : Nat} {bs : List Bool} (h : w.ownsRow base 4 1 (.slice sp n cap) n (bs.map Value.bool)) (k : Nat) (b : Bool) (hb : bs[k]? = some b) : ∃ c o, sp = some ⟨c, o, none⟩ ∧ w.cell? ⟨c, o + k, none⟩ = some (.bool b) := by
  have hk : k < bs.length := (List.getElem?_eq_some_iff.1 hb).1
  have hl := h.1
  rw [List.length_map] at hl
  rcases h.2 with ⟨_, rfl⟩ | ⟨g, cap', cur, e, _⟩
  · omega
  · cases e
    refine ⟨g, 0, rfl, ?_⟩
    rw [Nat.zero_add, h.cellAt k (by omega)]
    simp [hb]
theorem owns_setRow {w : World} {base e n size : Nat} {v : Value} {xs : List Value} (h : w.ownsRow base e size v n xs) (g : Nat) (cs : Array Value) (hg : g < base) : (w.setRow g cs).ownsRow base e size v n xs := by
  refine ⟨h.1, ?_⟩
  rcases h.2 with h1 | ⟨b, cap, cur, e1, hb, hgb, rest⟩
  · exact .inl h1
  · exact .inr ⟨b, cap, cur, e1, hb, ((grown_setRow (w := w) (p := g) (cs := cs)).block b (Array.getElem?_eq_some_iff.1 hgb).1 (by simp; omega)).trans hgb, rest⟩
theorem byt_setRow {w : World} {sp : Option Addr} {cap : Nat} {l : List Int} (h : Byt w sp cap l) (g : Nat) (cs : Array Value) (hg : ∀ c o, sp = some ⟨c, o, none⟩ → g < c) : Byt (w.setRow g cs) sp cap l := by
  refine byt_iff.2 ?_
  have hs := byt_iff.1 h
  refine ⟨hs.le, hs.max, hs.nul, fun h0 => ?_⟩
  obtain ⟨c, o, e, hl⟩ := hs.lies h0
  refine ⟨c, o, e, fun i v hv => ?_⟩
  have hc := hl i v hv
  have hlt := hg c o e
  obtain ⟨C, t, fr, hgc, hv'⟩ := cell_at hc
  rw [cell_of_row _ _ _ _ _ _ (((grown_setRow (w := w) (p := g) (cs := cs)).block c (Array.getElem?_eq_some_iff.1 hgc).1 (by simp; omega)).trans hgc)]
  exact hv'
theorem infoBool : (Tryd.prog.info? 4).map (fun i => (i.zero, i.size, i.bytes)) = some (some (.bool false), 1, 1) := by kernel_rfl
/-- two ways in boxes -/
structure Fw (w : World) (V1 V2 : Array Value) (W : World) : Prop where
  below : Below w.heap.size w W
  b1 : W.heap[w.heap.size]? = some (.cells V1 35 (0, 0))
  b2 : W.heap[w.heap.size + 1]? = some (.cells V2 35 (0, 0))
section
variable {w W W' : World} {V1 V2 : Array Value}
theorem Fw.made (w : World) (V1 V2 : Array Value) : Fw w V1 V2 ((w.alloc (.cells V1 35)).alloc (.cells V2 35)) := by
  refine ⟨((Below.refl _ _).alloc (Nat.le_refl _) _).alloc (by simp) _, (Below.heap_alloc _ _ _ (by simp)).trans (heap_alloc_new _ _), ?_⟩
  have := heap_alloc_new (w.alloc (.cells V1 35)) (.cells V2 35)
  simp only [World.size_alloc] at this
  exact this
theorem Fw.lt (f : Fw w V1 V2 W) : w.heap.size + 1 < W.heap.size := (Array.getElem?_eq_some_iff.1 f.b2).1
theorem Fw.later (f : Fw w V1 V2 W) (hb : Below W.heap.size W W') : Fw w V1 V2 W' :=
  ⟨f.below.trans (hb.mono f.below.size), (hb.block _ (Array.getElem?_eq_some_iff.1 f.b1).1).trans f.b1, (hb.block _ (Array.getElem?_eq_some_iff.1 f.b2).1).trans f.b2⟩
theorem Fw.c1 (f : Fw w V1 V2 W) (k : Nat) (v : Value) (hv : V1[k]? = some v) : W.cell? ⟨w.heap.size, k, none⟩ = some v := by
  rw [cell_of_row _ _ _ _ _ _ f.b1]; exact hv
theorem Fw.c2 (f : Fw w V1 V2 W) (k : Nat) (v : Value) (hv : V2[k]? = some v) : W.cell? ⟨w.heap.size + 1, k, none⟩ = some v := by
  rw [cell_of_row _ _ _ _ _ _ f.b2]; exact hv
theorem Fs.made (f : Fw w V1 V2 W) {g : Nat} {x : List Int} (hd : Dg W g x) (hlt : w.heap.size + 1 < g) (X : Array Value) (y : List Int) : Fs w V1 V2 g W.heap.size x y ((W.alloc (.cells X 24)).setRow W.heap.size (rowB y)) := by
  have hb : Below W.heap.size W ((W.alloc (.cells X 24)).setRow W.heap.size (rowB y)) := below_setRow ((Below.refl _ _).alloc (Nat.le_refl _) _) (Nat.le_refl _) _
  have f' := f.later hb
  exact ⟨f'.below, f'.b1, f'.b2, hd.below hb, Dg.made _ _ _, hlt, (Array.getElem?_eq_some_iff.1 hd).1⟩
end
end

section
open Go.ChangeShapes Go.WideShapes Go.ChangeAt Go.RowKit

set_option maxRecDepth 100000 in
set_option maxHeartbeats 4000000 in
theorem found_any (n i : Nat) (w : World) (NA IA NX IX : Int) (sA tA sX tX : Option Addr) (n1 n2 m cA dA cX dX : Nat) (la lx : List Int) (pa px : List (List Int)) (hi : i < n) (hn : n ≤ 1000) (hla : la.length = n1) (hlx : lx.length = n2) (h1 : n1 ≤ 100) (h2 : n2 ≤ 100)
    (hpa : pa.length = m) (hpx : px.length = m) (hm : m = (wy n i 63).length) (hba : Byt w sA cA la) (hbx : Byt w sX cX lx) (hda : Digs w tA dA pa) (hdx : Digs w tX dX px) (he : Env w)
    (hg : go nodeD (wy n i 63) (leafD la) pa = go nodeD (wy n i 63) (leafD lx) px) (hne : ¬ (la = lx ∧ pa = px)) :
    Calls Tryd.prog 28 #[.int .i64 n, .int .i64 i, .agg #[.int .i64 NA, .int .i64 IA, .slice sA n1 cA, .slice tA m dA], .agg #[.int .i64 NX, .int .i64 IX, .slice sX n2 cX, .slice tX m dX]] w fun e w' => e = .returned (.bool true) ∧ Below w.heap.size w w' := by
  have HE := Lib.hid he
  have HNa := Lib.hid hla
  have HNx := Lib.hid hlx
  have hm63 : m ≤ 63 := by rw [hm, ← dp_wy 63 n i hi (by omega)]; exact dp_le 63 n i
  have HFa := Lib.hid (fun W (hB : Below w.heap.size w W) => leaf_any W sA n1 cA la hla (hba.below hB) (he.below hB) (by omega))
  have HFx := Lib.hid (fun W (hB : Below w.heap.size w W) => leaf_any W sX n2 cX lx hlx (hbx.below hB) (he.below hB) (by omega))
  have HLa := Lib.hid (fun W (hB : Below w.heap.size w W) => leafBytes_any W sA n1 cA la hla (hba.below hB) (by omega))
  have HLx := Lib.hid (fun W (hB : Below w.heap.size w W) => leafBytes_any W sX n2 cX lx hlx (hbx.below hB) (by omega))
  have HSt := Lib.hid (fun hc => Left.start hg hne hc)
  have HDa := Lib.hid hda
  have HDx := Lib.hid hdx
  have HPa := Lib.hid hpa
  have HPx := Lib.hid hpx
  have HM := Lib.hid hm
  have hx0 := leafD_length la
  have hy0 := leafD_length lx
  obtain ⟨x0, hx⟩ : ∃ x, leafD la = x := ⟨_, rfl⟩
  obtain ⟨y0, hy⟩ : ∃ x, leafD lx = x := ⟨_, rfl⟩
  rw [hx] at HFa HSt hx0
  rw [hy] at HFx HSt hy0
  clear hx hy hba hbx he hg hne hla hlx hda hdx hpa hpx hm
  have ZX := Lib.hid (row_dig hx0)
  have YX := Lib.hid (row_dig0 hx0)
  have XX := Lib.hid (rowB_one x0)
  have ZY := Lib.hid (row_dig hy0)
  have YY := Lib.hid (row_dig0 hy0)
  have XY := Lib.hid (rowB_one y0)
  have e0 : ((m : Int) != (m : Int)) = false := by simp
  have e1 : decide ((1000000 : Int) < (n : Int)) = false := decide_eq_false (by omega)
  have e2 : decide ((n : Int) < 1) = false := decide_eq_false (by omega)
  have e3 : decide ((i : Int) < 0) = false := decide_eq_false (by omega)
  have e4 : decide ((n : Int) ≤ (i : Int)) = false := decide_eq_false (by omega)
  have e4' : decide (n ≤ i) = false := decide_eq_false (by omega)
  go_enter Tryd.func28, Tryd.ntmps28
  go_upto_region 1 with fail
  refine gen_world (Q := fun w => Code.wp _ _ _ _ w) _ (Fw w (wayV NA IA sA tA n1 m cA dA) (wayV NX IX sX tX n2 m cX dX)) (Fw.made w _ _) ?_
  intro w1 f1
  have F1 := Lib.hid f1
  have hc2 := f1.c1 2 (.slice sA n1 cA) rfl
  have hc3 := f1.c1 3 (.slice tA m dA) rfl
  have hc5 := f1.c2 3 (.slice tX m dX) rfl
  clear f1
  go_upto_region 4 with (first
    | (go_at_call 11; refine (HFa.out _ F1.out.below).mono ?_; rintro e w2 ⟨rfl, hb2⟩; have F2 := Lib.hid (F1.out.later hb2); clear hb2)
    | (refine wpList_store_row rfl 24 (.tmp 9) (.tmp 44) rfl w2.heap.size (rowB x0) rfl rfl 24 _ (heap_alloc_new _ _) ZX.out YX.out XX.out ?_))
  refine gen_world (Q := fun w => Code.wp _ _ _ _ w) _ (fun W => Fw w (wayV NA IA sA tA n1 m cA dA) (wayV NX IX sX tX n2 m cX dX) W ∧ Dg W w2.heap.size x0 ∧ w.heap.size + 1 < w2.heap.size) ⟨F2.out.later (below_setRow ((Below.refl _ _).alloc (Nat.le_refl _) _) (Nat.le_refl _) _), Dg.made _ _ _, F2.out.lt⟩ ?_
  rintro w3 ⟨f3, hdg, hlt1⟩
  obtain ⟨g, hg⟩ : ∃ g, w2.heap.size = g := ⟨_, rfl⟩
  rw [hg] at hdg hlt1 ⊢
  have F3 := Lib.hid f3
  have HG3 := Lib.hid hdg
  have hc6 := f3.c2 2 (.slice sX n2 cX) rfl
  clear f3 hdg hg hc2 hc3 hc5
  go_upto_region 5 with (first
    | (go_at_call 11; refine (HFx.out _ F3.out.below).mono ?_; rintro e w4 ⟨rfl, hb4⟩; have F4 := Lib.hid (F3.out.later hb4); have HG4 := Lib.hid (HG3.out.below hb4); clear hb4)
    | (refine wpList_store_row rfl 24 (.tmp 10) (.tmp 47) rfl w4.heap.size (rowB y0) rfl rfl 24 _ (heap_alloc_new _ _) ZY.out YY.out XY.out ?_))
  refine gen_world (Q := fun w => Code.wp _ _ _ _ w) _ (Fs w (wayV NA IA sA tA n1 m cA dA) (wayV NX IX sX tX n2 m cX dX) g w4.heap.size x0 y0) (Fs.made F4.out HG4.out hlt1 _ y0) ?_
  intro w5 f5
  obtain ⟨h, hh⟩ : ∃ g, w4.heap.size = g := ⟨_, rfl⟩
  rw [hh] at f5 ⊢
  have F5 := Lib.hid f5
  clear f5 hh hc6 F3 HG3 F4 HG4 F1 F2 e0 e1 e2 e3 e4 e4'
  have hw : ∀ W, Below w5.heap.size w5 W → Fs w (wayV NA IA sA tA n1 m cA dA) (wayV NX IX sX tX n2 m cX dX) g h x0 y0 W := fun W hb => F5.out.later hb
  refine wp_region_spec (C := fun W => Below w5.heap.size w5 W) (Le := fun w w' => Below w.heap.size w w') 6 (fun ix wz v => fvP 0 (0 :: la) (0 :: lx) (1 + n1) (1 + n2) 2 5 [.pointer (some ⟨w.heap.size, 2, none⟩), .slice sA n1 cA, undef, .pointer (some ⟨w.heap.size + 1, 2, none⟩), .slice sX n2 cX, undef] ix wz v) (by kernel_rfl) (by kernel_rfl) ⟨rfl, rfl, rfl, Nat.le_refl _, fun _ _ => rfl⟩ (fun j wa wb v hb h => fvP_le j wa wb v hb h) (pvV 2 5 [.pointer (some ⟨w.heap.size, 2, none⟩), .slice sA n1 cA, undef, .pointer (some ⟨w.heap.size + 1, 2, none⟩), .slice sX n2 cX, undef]) (fun j wa v h => fvP_v j wa v h) (fun ix => ([.pointer (some ⟨w.heap.size, 2, none⟩), .slice sA n1 cA, undef, .pointer (some ⟨w.heap.size + 1, 2, none⟩), .slice sX n2 cX, undef] : List Value).getD ix undef) (fun j => .inr (.inr rfl)) ?_ ?_
  · intro u hu
    have h0 : u 0 = .pointer (some ⟨w.heap.size, 2, none⟩) := pvV_eq (hu 0) (by decide) (by decide)
    have h1 : u 1 = .slice sA n1 cA := pvV_eq (hu 1) (by decide) (by decide)
    have h3 : u 3 = .pointer (some ⟨w.heap.size + 1, 2, none⟩) := pvV_eq (hu 3) (by decide) (by decide)
    have h4 : u 4 = .slice sX n2 cX := pvV_eq (hu 4) (by decide) (by decide)
    clear hu
    simp only [List.take_succ_cons, List.take_zero]
    refine spec_cons (fun W hC hd => ⟨by rfl, ?_⟩) ?_
    · exact gives_val _ W (exec_way_at (.tmp 6) 2 (by decide) rfl w.heap.size rfl) ⟨hC, Below.refl _ _, rfl⟩
    simp only [Act.put, List.setIfInBounds_toArray, List.set_cons_succ, List.set_cons_zero, Nat.reduceAdd]
    rw [h0]
    refine spec_cons (fun W hC hd => ⟨by rfl, ?_⟩) ?_
    · exact gives_val _ W (exec_load1 28 (.tmp 48) rfl ⟨w.heap.size, 2, none⟩ rfl _ ((hw W hC).c1 2 _ rfl) _ Tryd.underlying28 rfl) ⟨hC, Below.refl _ _, rfl⟩
    simp only [Act.put, List.setIfInBounds_toArray, List.set_cons_succ, List.set_cons_zero, Nat.reduceAdd]
    rw [h1]
    refine spec_cons (fun W hC hd => ⟨by rfl, ?_⟩) ?_
    · exact gives_call _ _ (exec_call1 33 (.tmp 49) #[28] _ rfl rfl (cfLeafBytes _ _)) ((HLa.out W (hw W hC).below).mono fun e W' h => by obtain ⟨sp', cap', e1, e2, e3⟩ := h; exact ⟨_, e1, hC.trans (e3.mono hC.size), e3, sp', cap', rfl, e2, fun _ _ _ => Nat.zero_le _⟩)
    simp only [Act.put, List.setIfInBounds_toArray, List.set_cons_succ, List.set_cons_zero, Nat.reduceAdd]
    refine spec_cons (fun W hC hd => ⟨by rfl, ?_⟩) ?_
    · exact gives_val _ W (exec_way_at (.tmp 7) 2 (by decide) rfl (w.heap.size + 1) rfl) ⟨hC, Below.refl _ _, rfl⟩
    simp only [Act.put, List.setIfInBounds_toArray, List.set_cons_succ, List.set_cons_zero, Nat.reduceAdd]
    rw [h3]
    refine spec_cons (fun W hC hd => ⟨by rfl, ?_⟩) ?_
    · exact gives_val _ W (exec_load1 28 (.tmp 51) rfl ⟨(w.heap.size + 1), 2, none⟩ rfl _ ((hw W hC).c2 2 _ rfl) _ Tryd.underlying28 rfl) ⟨hC, Below.refl _ _, rfl⟩
    simp only [Act.put, List.setIfInBounds_toArray, List.set_cons_succ, List.set_cons_zero, Nat.reduceAdd]
    rw [h4]
    refine spec_cons (fun W hC hd => ⟨by rfl, ?_⟩) ?_
    · exact gives_call _ _ (exec_call1 33 (.tmp 52) #[28] _ rfl rfl (cfLeafBytes _ _)) ((HLx.out W (hw W hC).below).mono fun e W' h => by obtain ⟨sp', cap', e1, e2, e3⟩ := h; exact ⟨_, e1, hC.trans (e3.mono hC.size), e3, sp', cap', rfl, e2, fun _ _ _ => Nat.zero_le _⟩)
    simp only [Act.put, List.setIfInBounds_toArray, List.set_cons_succ, List.set_cons_zero, Nat.reduceAdd]
    exact spec_nil
  · intro u W hu hC hF
    have h0 : u 0 = .pointer (some ⟨w.heap.size, 2, none⟩) := pvV_eq (hu 0) (by decide) (by decide)
    have h1 : u 1 = .slice sA n1 cA := pvV_eq (hu 1) (by decide) (by decide)
    have h3 : u 3 = .pointer (some ⟨w.heap.size + 1, 2, none⟩) := pvV_eq (hu 3) (by decide) (by decide)
    have h4 : u 4 = .slice sX n2 cX := pvV_eq (hu 4) (by decide) (by decide)
    simp only [List.take_succ_cons, List.take_zero, List.drop_succ_cons, List.drop_zero, putAll, Act.put, List.setIfInBounds_toArray, List.set_cons_succ, List.set_cons_zero, Nat.reduceAdd]
    rw [h0, h1, h3, h4]
    obtain ⟨p1, k1, hv1, hB1, _⟩ : Bv 0 (0 :: la) (1 + n1) W (u 2) := hF 2 (by omega)
    obtain ⟨p2, k2, hv2, hB2, _⟩ : Bv 0 (0 :: lx) (1 + n2) W (u 5) := hF 5 (by omega)
    rw [hv1, hv2]
    have F6 := Lib.hid (F5.out.later hC)
    have HCo := Lib.hid (collides_any W p1 p2 (1 + n1) (1 + n2) k1 k2 (0 :: la) (0 :: lx) (by rw [List.length_cons, HNa.out]; omega) (by rw [List.length_cons, HNx.out]; omega) hB1 hB2 (HE.out.below F6.out.below) (by omega) (by omega))
    clear hu hF hC hw hB1 hB2 hv1 hv2 h0 h1 h3 h4
    by_cases hco : coll (0 :: la) (0 :: lx) = true
    · rw [hco] at HCo
      clear hco
      go_wp2_with (go_at_call 46; refine HCo.out.mono ?_; rintro e w7 ⟨rfl, hb7⟩; have F7 := Lib.hid (F6.out.later hb7); clear hb7)
      go_ret
      exact ⟨rfl, F7.out.below⟩
    · have hcf : coll (0 :: la) (0 :: lx) = false := by simpa using hco
      have HLf := Lib.hid (HSt.out hcf)
      rw [hcf] at HCo
      clear hco hcf
      go_wp2_with (go_at_call 46; refine HCo.out.mono ?_; rintro e w7 ⟨rfl, hb7⟩; have F7 := Lib.hid (F6.out.later hb7); clear hb7)
      clear F5 F6 HCo
      have hlf63 : (lf 63 n i).length ≤ 63 := by rw [lf_length]; exact dp_le 63 n i
      have hlfm : (lf 63 n i).length = m := by rw [lf_length, HM.out, dp_wy 63 n i hi (by omega)]
      go_loopw [11, 12, 13] (fun v mm kk wr => ∃ (M K : Nat) (pre : List Bool), mm = .int .i64 M ∧ kk = .int .i64 K ∧ lf 63 n i = pre ++ lf 63 M K ∧ K < M ∧ M ≤ n ∧ wr.ownsRow (h + 1) 4 1 v pre.length (pre.map Value.bool) ∧ Fs w (wayV NA IA sA tA n1 m cA dA) (wayV NX IX sX tX n2 m cX dX) g h x0 y0 wr) (fun _ mm _ _ => (intOf mm).toNat)
      case atStart => exact ⟨n, i, [], rfl, rfl, rfl, hi, Nat.le_refl _, World.ownsRow_nil _ _ _ _, F7.out⟩
      case round =>
        obtain ⟨M, K, pre, rfl, rfl, hlf, hKM, hMn, hown, f⟩ := hrel
        have hpl : pre.length ≤ 63 := by rw [hlf, List.length_append] at hlf63; omega
        by_cases hM : 1 < M
        · have dM : decide ((1 : Int) < (M : Int)) = true := decide_eq_true (by omega)
          have dM' : decide (1 < M) = true := decide_eq_true (by omega)
          have HHf := Lib.hid (fun W => halfW_any M W (by omega) (by omega))
          have F8 := Lib.hid f
          have HO := Lib.hid hown
          have HLF := Lib.hid hlf
          clear f hown hlf
          go_upto_region 12 with (go_at_call 35; refine (HHf.out _).mono ?_; rintro e w8 ⟨k, hx, rfl, hh, hk, hk2, hb8⟩; have F9 := Lib.hid (F8.out.later hb8); have HO9 := Lib.hid (owns_below HO.out hb8); clear hb8)
          have hs := lf_half M K hx k hh hk hk2 (by omega)
          have hk0 : 0 < k := by rw [← hh]; exact pow_pos2 hx
          have hbase : h + 1 ≤ w8.heap.size := (Array.getElem?_eq_some_iff.1 F9.out.dy).1
          clear hh F8 HO
          by_cases hKk : k ≤ K
          · have dK : decide ((k : Int) ≤ (K : Int)) = true := decide_eq_true (by omega)
            have dK' : decide (k ≤ K) = true := decide_eq_true (by omega)
            rw [if_neg (by omega)] at hs
            have HS := Lib.hid hs
            clear hs
            have T1 := Lib.hid (Sl.new w8 [.bool true] #[.bool true] 4 (0, 0) rfl (by simp))
            have T2 := Lib.hid (owns_below HO9.out ((Below.refl w8.heap.size w8).alloc (Nat.le_refl _) (.cells #[.bool true] 4)))
            have T3 : ∀ z ∈ [Value.bool true], z.oneCell' = true := fun z hz => by rcases List.mem_singleton.1 hz with rfl; rfl
            have T4 : pre.length + 1 ≤ 1000000 := by omega
            have T5 : h + 1 ≤ (w8.alloc (.cells #[.bool true] 4)).heap.size := by simp; omega
            go_upto_region 13 with (refine wpList_append_sl 79 4 1 (.bool false) Tryd.underlying79 infoBool rfl (by decide) rfl (.tmp 61) (.tmp 65) rfl (h + 1) u11 pre.length 1 (pre.map Value.bool) [.bool true] rfl T2.out (some ⟨w8.heap.size, 0, none⟩) 1 rfl rfl T1.out T3 T4 T5 ?_; intro v' w9 hown' hgr; have HO2 := Lib.hid hown'; have F10 := Lib.hid ((F9.out.later ((Below.refl _ _).alloc (Nat.le_refl _) _)).grown hgr (fun k' e => by have := (T2.out.lt k' e).1; omega)); clear hown' hgr)
            clear T1 T2 T3 T4 T5 F9 HO9
            go_wp2
            go_roundw
            case rel => exact ⟨(M - k), (K - k), pre ++ [true], by go_num, by go_num, by rw [HLF.out, HS.out, List.append_assoc]; rfl, by omega, by omega, by rw [List.length_append, List.map_append]; exact HO2.out, F10.out⟩
            case measure => simp [intOf]; omega
          · have dK : decide ((k : Int) ≤ (K : Int)) = false := decide_eq_false (by omega)
            have dK' : decide (k ≤ K) = false := decide_eq_false (by omega)
            rw [if_pos (by omega)] at hs
            have HS := Lib.hid hs
            clear hs
            have T1 := Lib.hid (Sl.new w8 [.bool false] #[.bool false] 4 (0, 0) rfl (by simp))
            have T2 := Lib.hid (owns_below HO9.out ((Below.refl w8.heap.size w8).alloc (Nat.le_refl _) (.cells #[.bool false] 4)))
            have T3 : ∀ z ∈ [Value.bool false], z.oneCell' = true := fun z hz => by rcases List.mem_singleton.1 hz with rfl; rfl
            have T4 : pre.length + 1 ≤ 1000000 := by omega
            have T5 : h + 1 ≤ (w8.alloc (.cells #[.bool false] 4)).heap.size := by simp; omega
            go_upto_region 13 with (refine wpList_append_sl 79 4 1 (.bool false) Tryd.underlying79 infoBool rfl (by decide) rfl (.tmp 61) (.tmp 65) rfl (h + 1) u11 pre.length 1 (pre.map Value.bool) [.bool false] rfl T2.out (some ⟨w8.heap.size, 0, none⟩) 1 rfl rfl T1.out T3 T4 T5 ?_; intro v' w9 hown' hgr; have HO2 := Lib.hid hown'; have F10 := Lib.hid ((F9.out.later ((Below.refl _ _).alloc (Nat.le_refl _) _)).grown hgr (fun k' e => by have := (T2.out.lt k' e).1; omega)); clear hown' hgr)
            clear T1 T2 T3 T4 T5 F9 HO9
            go_wp2
            go_roundw
            case rel => exact ⟨k, K, pre ++ [false], by go_num, by go_num, by rw [HLF.out, HS.out, List.append_assoc]; rfl, by omega, by omega, by rw [List.length_append, List.map_append]; exact HO2.out, F10.out⟩
            case measure => simp [intOf]; omega
        · have dM : decide ((1 : Int) < (M : Int)) = false := decide_eq_false (by omega)
          have dM' : decide (1 < M) = false := decide_eq_false (by omega)
          rw [lf_one M K (by omega), List.append_nil] at hlf
          subst hlf
          rw [hlfm] at hown
          obtain ⟨sp, cap, hv, hcel⟩ := own_bools hown
          subst hv
          have F8 := Lib.hid f
          have HO := Lib.hid hown
          have hc3 := f.c1 3 (.slice tA m dA) rfl
          have e0 : ((m : Int) != (m : Int)) = false := by simp
          clear f hown hcel hKM hMn
          go_wp2
          go_loopw [15] (fun t wr => ∃ (j : Nat) (x y : List Int), t = .int .i64 j ∧ j ≤ m ∧ x.length = 32 ∧ y.length = 32 ∧ Left ((wy n i 63).drop j) x y (pa.drop j) (px.drop j) ∧ wr.ownsRow (h + 1) 4 1 (.slice sp m cap) m ((lf 63 n i).map Value.bool) ∧ Fs w (wayV NA IA sA tA n1 m cA dA) (wayV NX IX sX tX n2 m cX dX) g h x y wr) (fun t _ => m - (intOf t).toNat)
          case atStart => exact ⟨0, x0, y0, rfl, by omega, hx0, hy0, HLf.out, HO.out, F8.out⟩
          case round =>
            clear F8 HO hc3
            obtain ⟨j, x, y, rfl, hjm, hx32, hy32, hleft, hown, f⟩ := hrel
            by_cases hlt : j < m
            · have dj : decide ((j : Int) < (m : Int)) = true := decide_eq_true (by omega)
              have dj' : decide (j < m) = true := decide_eq_true (by omega)
              have hjw : j < (wy n i 63).length := by rw [← HM.out]; exact hlt
              obtain ⟨t, ht⟩ : ∃ t, (wy n i 63)[j] = t := ⟨_, rfl⟩
              have hdw : (wy n i 63).drop j = t :: (wy n i 63).drop (j + 1) := by rw [List.drop_eq_getElem_cons hjw, ht]
              have hat := lf_at n i j hi (by omega) hjw t (by rw [List.getElem?_eq_getElem hjw, ht])
              rw [← HM.out] at hat
              rw [hdw, drop_one pa j (by rw [HPa.out]; exact hlt), drop_one px j (by rw [HPx.out]; exact hlt)] at hleft
              have ha32 : (pa.getD j []).length = 32 := HDa.out.all _ (getD_mem pa j (by rw [HPa.out]; exact hlt))
              have hb32 : (px.getD j []).length = 32 := HDx.out.all _ (getD_mem px j (by rw [HPx.out]; exact hlt))
              obtain ⟨cA', oA', htA, hra⟩ := HDa.out.at_ j (by rw [HPa.out]; exact hlt)
              obtain ⟨cX', oX', htX, hrb⟩ := HDx.out.at_ j (by rw [HPx.out]; exact hlt)
              have HtA := Lib.hid htA
              have HtX := Lib.hid htX
              obtain ⟨a, hae⟩ : ∃ a, pa.getD j [] = a := ⟨_, rfl⟩
              obtain ⟨b, hbe⟩ : ∃ a, px.getD j [] = a := ⟨_, rfl⟩
              rw [hae] at ha32 hra hleft
              rw [hbe] at hb32 hrb hleft
              have HRa := Lib.hid (fun W (hB : Below w.heap.size w W) (k' : Nat) v' (hv' : (a.map (Value.int .u8))[k']? = some v') => ((hB.cell (block_lt_of_cell (hra k' v' hv'))).trans (hra k' v' hv') : W.cell? ⟨cA', oA' + 32 * j + k', none⟩ = some v'))
              have HRb := Lib.hid (fun W (hB : Below w.heap.size w W) (k' : Nat) v' (hv' : (b.map (Value.int .u8))[k']? = some v') => ((hB.cell (block_lt_of_cell (hrb k' v' hv'))).trans (hrb k' v' hv') : W.cell? ⟨cX', oX' + 32 * j + k', none⟩ = some v'))
              have HSt1 := Lib.hid (fun hc => hleft.step hx32 hy32 ha32 hb32 hc)
              have zx := Lib.hid (row_dig hx32)
              have zy := Lib.hid (row_dig hy32)
              have FA := Lib.hid f
              have HOw := Lib.hid hown
              have HAt := Lib.hid hat
              have hc3 := f.c1 3 (.slice tA m dA) rfl
              clear f hown hat hdw ht hleft htA htX hra hrb hae hbe
              go_upto_region 22 with fail
              have hw : ∀ W, Below wr.heap.size wr W → Fs w (wayV NA IA sA tA n1 m cA dA) (wayV NX IX sX tX n2 m cX dX) g h x y W := fun W hb => FA.out.later hb
              refine wp_region_spec (C := fun W => Below wr.heap.size wr W) (Le := fun w w' => Below w.heap.size w w') 7 (fun ix wz v => fvP (h + 1) (1 :: (x ++ a)) [] 65 0 6 99 [.agg (rowB x), .pointer (some ⟨w.heap.size, 3, none⟩), .slice tA m dA, .int .i64 (j : Nat), .pointer (some ⟨cA', oA' + 32 * j, none⟩), .agg (rowB a), undef] ix wz v) (by kernel_rfl) (by kernel_rfl) ⟨rfl, rfl, rfl, Nat.le_refl _, fun _ _ => rfl⟩ (fun j wa wb v hb h => fvP_le j wa wb v hb h) (pvV 6 99 [.agg (rowB x), .pointer (some ⟨w.heap.size, 3, none⟩), .slice tA m dA, .int .i64 (j : Nat), .pointer (some ⟨cA', oA' + 32 * j, none⟩), .agg (rowB a), undef]) (fun j wa v h => fvP_v j wa v h) (fun ix => ([.agg (rowB x), .pointer (some ⟨w.heap.size, 3, none⟩), .slice tA m dA, .int .i64 (j : Nat), .pointer (some ⟨cA', oA' + 32 * j, none⟩), .agg (rowB a), undef] : List Value).getD ix undef) (fun j => .inr (.inr rfl)) ?_ ?_
              · intro u hu
                have h0 : u 0 = .agg (rowB x) := pvV_eq (hu 0) (by decide) (by decide)
                have h1 : u 1 = .pointer (some ⟨w.heap.size, 3, none⟩) := pvV_eq (hu 1) (by decide) (by decide)
                have h2 : u 2 = .slice tA m dA := pvV_eq (hu 2) (by decide) (by decide)
                have h3 : u 3 = .int .i64 (j : Nat) := pvV_eq (hu 3) (by decide) (by decide)
                have h4 : u 4 = .pointer (some ⟨cA', oA' + 32 * j, none⟩) := pvV_eq (hu 4) (by decide) (by decide)
                have h5 : u 5 = .agg (rowB a) := pvV_eq (hu 5) (by decide) (by decide)
                clear hu
                simp only [List.take_succ_cons, List.take_zero]
                refine spec_cons (fun W hC hd => ⟨by rfl, ?_⟩) ?_
                · exact gives_val _ W (exec_load_row 24 (.tmp 9) rfl g rfl 24 (rowB x) (0, 0) _ ((hw W hC).dx) Tryd.underlying24 rfl zx.out) ⟨hC, Below.refl _ _, rfl⟩
                simp only [Act.put, List.setIfInBounds_toArray, List.set_cons_succ, List.set_cons_zero, Nat.reduceAdd]
                rw [h0]
                refine spec_cons (fun W hC hd => ⟨by rfl, ?_⟩) ?_
                · exact gives_val _ W (exec_way_at (.tmp 6) 3 (by decide) rfl w.heap.size rfl) ⟨hC, Below.refl _ _, rfl⟩
                simp only [Act.put, List.setIfInBounds_toArray, List.set_cons_succ, List.set_cons_zero, Nat.reduceAdd]
                rw [h1]
                refine spec_cons (fun W hC hd => ⟨by rfl, ?_⟩) ?_
                · exact gives_val _ W (exec_load1 33 (.tmp 91) rfl ⟨w.heap.size, 3, none⟩ rfl _ ((hw W hC).c1 3 _ rfl) _ Tryd.underlying33 rfl) ⟨hC, Below.refl _ _, rfl⟩
                simp only [Act.put, List.setIfInBounds_toArray, List.set_cons_succ, List.set_cons_zero, Nat.reduceAdd]
                rw [h2]
                refine spec_cons (fun W hC hd => ⟨by rfl, ?_⟩) ?_
                · exact gives_val _ W (rfl) ⟨hC, Below.refl _ _, rfl⟩
                simp only [Act.put, List.setIfInBounds_toArray, List.set_cons_succ, List.set_cons_zero, Nat.reduceAdd]
                rw [h3]
                refine spec_cons (fun W hC hd => ⟨by rfl, ?_⟩) ?_
                · exact gives_val _ W (exec_dig_at (.tmp 92) (.tmp 93) rfl cA' oA' m dA j (congrArg (fun s => Value.slice s m dA) HtA.out) rfl hlt) ⟨hC, Below.refl _ _, rfl⟩
                simp only [Act.put, List.setIfInBounds_toArray, List.set_cons_succ, List.set_cons_zero, Nat.reduceAdd]
                rw [h4]
                refine spec_cons (fun W hC hd => ⟨by rfl, ?_⟩) ?_
                · exact gives_val _ W (exec_load_mid (.tmp 94) rfl cA' (oA' + 32 * j) rfl a ha32 (HRa.out W (hw W hC).below)) ⟨hC, Below.refl _ _, rfl⟩
                simp only [Act.put, List.setIfInBounds_toArray, List.set_cons_succ, List.set_cons_zero, Nat.reduceAdd]
                rw [h5]
                refine spec_cons (fun W hC hd => ⟨by rfl, ?_⟩) ?_
                · exact gives_call _ _ (exec_call2 36 (.tmp 90) (.tmp 95) #[24, 24] _ _ rfl rfl rfl (cfNodeBytes _ _)) ((nodeBytesO_any W x a hx32 ha32).mono fun e W' h => by obtain ⟨sp', cap', e1, e2, e3, e4⟩ := h; exact ⟨_, e1, hC.trans (e3.mono hC.size), e3, sp', cap', rfl, e2, fun c o he => Nat.le_trans (Array.getElem?_eq_some_iff.1 (hw W hC).dy).1 (e4 c o he)⟩)
                simp only [Act.put, List.setIfInBounds_toArray, List.set_cons_succ, List.set_cons_zero, Nat.reduceAdd]
                exact spec_nil
              · intro u W hu hC hF
                have h0 : u 0 = .agg (rowB x) := pvV_eq (hu 0) (by decide) (by decide)
                have h1 : u 1 = .pointer (some ⟨w.heap.size, 3, none⟩) := pvV_eq (hu 1) (by decide) (by decide)
                have h2 : u 2 = .slice tA m dA := pvV_eq (hu 2) (by decide) (by decide)
                have h3 : u 3 = .int .i64 (j : Nat) := pvV_eq (hu 3) (by decide) (by decide)
                have h4 : u 4 = .pointer (some ⟨cA', oA' + 32 * j, none⟩) := pvV_eq (hu 4) (by decide) (by decide)
                have h5 : u 5 = .agg (rowB a) := pvV_eq (hu 5) (by decide) (by decide)
                simp only [List.take_succ_cons, List.take_zero, List.drop_succ_cons, List.drop_zero, putAll, Act.put, List.setIfInBounds_toArray, List.set_cons_succ, List.set_cons_zero, Nat.reduceAdd]
                rw [h0, h1, h2, h3, h4, h5]
                obtain ⟨p1, q1, hv, hB, hNE⟩ : Bv (h + 1) (1 :: (x ++ a)) 65 W (u 6) := hF 6 (by omega)
                rw [hv]
                have HB1 := Lib.hid hB
                have NE1 := Lib.hid hNE
                have FB := Lib.hid (FA.out.later hC)
                have HOw := Lib.hid (owns_below HOw.out hC)
                clear hu hF hC hw hB hv hNE h0 h1 h2 h3 h4 h5
                obtain ⟨v3, hWe⟩ : ∃ x, W = x := ⟨_, rfl⟩
                rw [hWe] at HB1 FB HOw  ⊢
                clear hWe
                clear FA hc3
                go_upto_region 23 with fail
                have hw : ∀ W, Below v3.heap.size v3 W → Fs w (wayV NA IA sA tA n1 m cA dA) (wayV NX IX sX tX n2 m cX dX) g h x y W := fun W hb => FB.out.later hb
                refine wp_region_spec (C := fun W => Below v3.heap.size v3 W) (Le := fun w w' => Below w.heap.size w w') 7 (fun ix wz v => fvP (h + 1) (1 :: (y ++ b)) [] 65 0 6 99 [.agg (rowB y), .pointer (some ⟨w.heap.size + 1, 3, none⟩), .slice tX m dX, .int .i64 (j : Nat), .pointer (some ⟨cX', oX' + 32 * j, none⟩), .agg (rowB b), undef] ix wz v) (by kernel_rfl) (by kernel_rfl) ⟨rfl, rfl, rfl, Nat.le_refl _, fun _ _ => rfl⟩ (fun j wa wb v hb h => fvP_le j wa wb v hb h) (pvV 6 99 [.agg (rowB y), .pointer (some ⟨w.heap.size + 1, 3, none⟩), .slice tX m dX, .int .i64 (j : Nat), .pointer (some ⟨cX', oX' + 32 * j, none⟩), .agg (rowB b), undef]) (fun j wa v h => fvP_v j wa v h) (fun ix => ([.agg (rowB y), .pointer (some ⟨w.heap.size + 1, 3, none⟩), .slice tX m dX, .int .i64 (j : Nat), .pointer (some ⟨cX', oX' + 32 * j, none⟩), .agg (rowB b), undef] : List Value).getD ix undef) (fun j => .inr (.inr rfl)) ?_ ?_
                · intro u hu
                  have h0 : u 0 = .agg (rowB y) := pvV_eq (hu 0) (by decide) (by decide)
                  have h1 : u 1 = .pointer (some ⟨w.heap.size + 1, 3, none⟩) := pvV_eq (hu 1) (by decide) (by decide)
                  have h2 : u 2 = .slice tX m dX := pvV_eq (hu 2) (by decide) (by decide)
                  have h3 : u 3 = .int .i64 (j : Nat) := pvV_eq (hu 3) (by decide) (by decide)
                  have h4 : u 4 = .pointer (some ⟨cX', oX' + 32 * j, none⟩) := pvV_eq (hu 4) (by decide) (by decide)
                  have h5 : u 5 = .agg (rowB b) := pvV_eq (hu 5) (by decide) (by decide)
                  clear hu
                  simp only [List.take_succ_cons, List.take_zero]
                  refine spec_cons (fun W hC hd => ⟨by rfl, ?_⟩) ?_
                  · exact gives_val _ W (exec_load_row 24 (.tmp 10) rfl h rfl 24 (rowB y) (0, 0) _ ((hw W hC).dy) Tryd.underlying24 rfl zy.out) ⟨hC, Below.refl _ _, rfl⟩
                  simp only [Act.put, List.setIfInBounds_toArray, List.set_cons_succ, List.set_cons_zero, Nat.reduceAdd]
                  rw [h0]
                  refine spec_cons (fun W hC hd => ⟨by rfl, ?_⟩) ?_
                  · exact gives_val _ W (exec_way_at (.tmp 7) 3 (by decide) rfl (w.heap.size + 1) rfl) ⟨hC, Below.refl _ _, rfl⟩
                  simp only [Act.put, List.setIfInBounds_toArray, List.set_cons_succ, List.set_cons_zero, Nat.reduceAdd]
                  rw [h1]
                  refine spec_cons (fun W hC hd => ⟨by rfl, ?_⟩) ?_
                  · exact gives_val _ W (exec_load1 33 (.tmp 98) rfl ⟨(w.heap.size + 1), 3, none⟩ rfl _ ((hw W hC).c2 3 _ rfl) _ Tryd.underlying33 rfl) ⟨hC, Below.refl _ _, rfl⟩
                  simp only [Act.put, List.setIfInBounds_toArray, List.set_cons_succ, List.set_cons_zero, Nat.reduceAdd]
                  rw [h2]
                  refine spec_cons (fun W hC hd => ⟨by rfl, ?_⟩) ?_
                  · exact gives_val _ W (rfl) ⟨hC, Below.refl _ _, rfl⟩
                  simp only [Act.put, List.setIfInBounds_toArray, List.set_cons_succ, List.set_cons_zero, Nat.reduceAdd]
                  rw [h3]
                  refine spec_cons (fun W hC hd => ⟨by rfl, ?_⟩) ?_
                  · exact gives_val _ W (exec_dig_at (.tmp 99) (.tmp 100) rfl cX' oX' m dX j (congrArg (fun s => Value.slice s m dX) HtX.out) rfl hlt) ⟨hC, Below.refl _ _, rfl⟩
                  simp only [Act.put, List.setIfInBounds_toArray, List.set_cons_succ, List.set_cons_zero, Nat.reduceAdd]
                  rw [h4]
                  refine spec_cons (fun W hC hd => ⟨by rfl, ?_⟩) ?_
                  · exact gives_val _ W (exec_load_mid (.tmp 101) rfl cX' (oX' + 32 * j) rfl b hb32 (HRb.out W (hw W hC).below)) ⟨hC, Below.refl _ _, rfl⟩
                  simp only [Act.put, List.setIfInBounds_toArray, List.set_cons_succ, List.set_cons_zero, Nat.reduceAdd]
                  rw [h5]
                  refine spec_cons (fun W hC hd => ⟨by rfl, ?_⟩) ?_
                  · exact gives_call _ _ (exec_call2 36 (.tmp 97) (.tmp 102) #[24, 24] _ _ rfl rfl rfl (cfNodeBytes _ _)) ((nodeBytesO_any W y b hy32 hb32).mono fun e W' h => by obtain ⟨sp', cap', e1, e2, e3, e4⟩ := h; exact ⟨_, e1, hC.trans (e3.mono hC.size), e3, sp', cap', rfl, e2, fun c o he => Nat.le_trans (Array.getElem?_eq_some_iff.1 (hw W hC).dy).1 (e4 c o he)⟩)
                  simp only [Act.put, List.setIfInBounds_toArray, List.set_cons_succ, List.set_cons_zero, Nat.reduceAdd]
                  exact spec_nil
                · intro u W hu hC hF
                  have h0 : u 0 = .agg (rowB y) := pvV_eq (hu 0) (by decide) (by decide)
                  have h1 : u 1 = .pointer (some ⟨w.heap.size + 1, 3, none⟩) := pvV_eq (hu 1) (by decide) (by decide)
                  have h2 : u 2 = .slice tX m dX := pvV_eq (hu 2) (by decide) (by decide)
                  have h3 : u 3 = .int .i64 (j : Nat) := pvV_eq (hu 3) (by decide) (by decide)
                  have h4 : u 4 = .pointer (some ⟨cX', oX' + 32 * j, none⟩) := pvV_eq (hu 4) (by decide) (by decide)
                  have h5 : u 5 = .agg (rowB b) := pvV_eq (hu 5) (by decide) (by decide)
                  simp only [List.take_succ_cons, List.take_zero, List.drop_succ_cons, List.drop_zero, putAll, Act.put, List.setIfInBounds_toArray, List.set_cons_succ, List.set_cons_zero, Nat.reduceAdd]
                  rw [h0, h1, h2, h3, h4, h5]
                  obtain ⟨p2, q2, hv, hB, hNE⟩ : Bv (h + 1) (1 :: (y ++ b)) 65 W (u 6) := hF 6 (by omega)
                  rw [hv]
                  have HB2 := Lib.hid hB
                  have NE2 := Lib.hid hNE
                  have FC := Lib.hid (FB.out.later hC)
                  have HB1 := Lib.hid (HB1.out.below hC)
                  have HOw := Lib.hid (owns_below HOw.out hC)
                  clear hu hF hC hw hB hv hNE h0 h1 h2 h3 h4 h5
                  obtain ⟨v4, hWe⟩ : ∃ x, W = x := ⟨_, rfl⟩
                  rw [hWe] at HB2 FC HOw HB1 ⊢
                  clear hWe
                  clear FB
                  have eL : ((m : Int) - 1 - (j : Int)) = ((m - 1 - j : Nat) : Int) := by omega
                  obtain ⟨cb, ob, hsp, hcel⟩ := own_bool_at HOw.out (m - 1 - j) _ HAt.out
                  subst hsp
                  have dx1 : decide ((m - 1 - j : Nat) < m) = true := decide_eq_true (by omega)
                  by_cases hev : t.2 % 2 = 0
                  · rw [decide_eq_true hev] at hcel
                    have ebytes : nbytes t.2 x a = 1 :: (a ++ x) := if_pos hev
                    have ebytes2 : nbytes t.2 y b = 1 :: (b ++ y) := if_pos hev
                    have hl65 : (nbytes t.2 x a).length = 65 := by rw [ebytes]; simp [hx32, ha32]
                    have hl65' : (nbytes t.2 y b).length = 65 := by rw [ebytes2]; simp [hy32, hb32]
                    clear HB1 HB2
                    go_upto_region 25 with fail
                    have hw : ∀ W, Below v4.heap.size v4 W → Fs w (wayV NA IA sA tA n1 m cA dA) (wayV NX IX sX tX n2 m cX dX) g h x y W := fun W hb => FC.out.later hb
                    refine wp_region_spec (C := fun W => Below v4.heap.size v4 W) (Le := fun w w' => Below w.heap.size w w') 7 (fun ix wz v => fvP (h + 1) (1 :: (a ++ x)) [] 65 0 6 99 [.pointer (some ⟨w.heap.size, 3, none⟩), .slice tA m dA, .int .i64 (j : Nat), .pointer (some ⟨cA', oA' + 32 * j, none⟩), .agg (rowB a), .agg (rowB x), undef] ix wz v) (by kernel_rfl) (by kernel_rfl) ⟨rfl, rfl, rfl, Nat.le_refl _, fun _ _ => rfl⟩ (fun j wa wb v hb h => fvP_le j wa wb v hb h) (pvV 6 99 [.pointer (some ⟨w.heap.size, 3, none⟩), .slice tA m dA, .int .i64 (j : Nat), .pointer (some ⟨cA', oA' + 32 * j, none⟩), .agg (rowB a), .agg (rowB x), undef]) (fun j wa v h => fvP_v j wa v h) (fun ix => ([.pointer (some ⟨w.heap.size, 3, none⟩), .slice tA m dA, .int .i64 (j : Nat), .pointer (some ⟨cA', oA' + 32 * j, none⟩), .agg (rowB a), .agg (rowB x), undef] : List Value).getD ix undef) (fun j => .inr (.inr rfl)) ?_ ?_
                    · intro u hu
                      have h0 : u 0 = .pointer (some ⟨w.heap.size, 3, none⟩) := pvV_eq (hu 0) (by decide) (by decide)
                      have h1 : u 1 = .slice tA m dA := pvV_eq (hu 1) (by decide) (by decide)
                      have h2 : u 2 = .int .i64 (j : Nat) := pvV_eq (hu 2) (by decide) (by decide)
                      have h3 : u 3 = .pointer (some ⟨cA', oA' + 32 * j, none⟩) := pvV_eq (hu 3) (by decide) (by decide)
                      have h4 : u 4 = .agg (rowB a) := pvV_eq (hu 4) (by decide) (by decide)
                      have h5 : u 5 = .agg (rowB x) := pvV_eq (hu 5) (by decide) (by decide)
                      clear hu
                      simp only [List.take_succ_cons, List.take_zero]
                      refine spec_cons (fun W hC hd => ⟨by rfl, ?_⟩) ?_
                      · exact gives_val _ W (exec_way_at (.tmp 6) 3 (by decide) rfl w.heap.size rfl) ⟨hC, Below.refl _ _, rfl⟩
                      simp only [Act.put, List.setIfInBounds_toArray, List.set_cons_succ, List.set_cons_zero, Nat.reduceAdd]
                      rw [h0]
                      refine spec_cons (fun W hC hd => ⟨by rfl, ?_⟩) ?_
                      · exact gives_val _ W (exec_load1 33 (.tmp 112) rfl ⟨w.heap.size, 3, none⟩ rfl _ ((hw W hC).c1 3 _ rfl) _ Tryd.underlying33 rfl) ⟨hC, Below.refl _ _, rfl⟩
                      simp only [Act.put, List.setIfInBounds_toArray, List.set_cons_succ, List.set_cons_zero, Nat.reduceAdd]
                      rw [h1]
                      refine spec_cons (fun W hC hd => ⟨by rfl, ?_⟩) ?_
                      · exact gives_val _ W (rfl) ⟨hC, Below.refl _ _, rfl⟩
                      simp only [Act.put, List.setIfInBounds_toArray, List.set_cons_succ, List.set_cons_zero, Nat.reduceAdd]
                      rw [h2]
                      refine spec_cons (fun W hC hd => ⟨by rfl, ?_⟩) ?_
                      · exact gives_val _ W (exec_dig_at (.tmp 113) (.tmp 114) rfl cA' oA' m dA j (congrArg (fun s => Value.slice s m dA) HtA.out) rfl hlt) ⟨hC, Below.refl _ _, rfl⟩
                      simp only [Act.put, List.setIfInBounds_toArray, List.set_cons_succ, List.set_cons_zero, Nat.reduceAdd]
                      rw [h3]
                      refine spec_cons (fun W hC hd => ⟨by rfl, ?_⟩) ?_
                      · exact gives_val _ W (exec_load_mid (.tmp 115) rfl cA' (oA' + 32 * j) rfl a ha32 (HRa.out W (hw W hC).below)) ⟨hC, Below.refl _ _, rfl⟩
                      simp only [Act.put, List.setIfInBounds_toArray, List.set_cons_succ, List.set_cons_zero, Nat.reduceAdd]
                      rw [h4]
                      refine spec_cons (fun W hC hd => ⟨by rfl, ?_⟩) ?_
                      · exact gives_val _ W (exec_load_row 24 (.tmp 9) rfl g rfl 24 (rowB x) (0, 0) _ ((hw W hC).dx) Tryd.underlying24 rfl zx.out) ⟨hC, Below.refl _ _, rfl⟩
                      simp only [Act.put, List.setIfInBounds_toArray, List.set_cons_succ, List.set_cons_zero, Nat.reduceAdd]
                      rw [h5]
                      refine spec_cons (fun W hC hd => ⟨by rfl, ?_⟩) ?_
                      · exact gives_call _ _ (exec_call2 36 (.tmp 116) (.tmp 117) #[24, 24] _ _ rfl rfl rfl (cfNodeBytes _ _)) ((nodeBytesO_any W a x ha32 hx32).mono fun e W' h => by obtain ⟨sp', cap', e1, e2, e3, e4⟩ := h; exact ⟨_, e1, hC.trans (e3.mono hC.size), e3, sp', cap', rfl, e2, fun c o he => Nat.le_trans (Array.getElem?_eq_some_iff.1 (hw W hC).dy).1 (e4 c o he)⟩)
                      simp only [Act.put, List.setIfInBounds_toArray, List.set_cons_succ, List.set_cons_zero, Nat.reduceAdd]
                      exact spec_nil
                    · intro u W hu hC hF
                      have h0 : u 0 = .pointer (some ⟨w.heap.size, 3, none⟩) := pvV_eq (hu 0) (by decide) (by decide)
                      have h1 : u 1 = .slice tA m dA := pvV_eq (hu 1) (by decide) (by decide)
                      have h2 : u 2 = .int .i64 (j : Nat) := pvV_eq (hu 2) (by decide) (by decide)
                      have h3 : u 3 = .pointer (some ⟨cA', oA' + 32 * j, none⟩) := pvV_eq (hu 3) (by decide) (by decide)
                      have h4 : u 4 = .agg (rowB a) := pvV_eq (hu 4) (by decide) (by decide)
                      have h5 : u 5 = .agg (rowB x) := pvV_eq (hu 5) (by decide) (by decide)
                      simp only [List.take_succ_cons, List.take_zero, List.drop_succ_cons, List.drop_zero, putAll, Act.put, List.setIfInBounds_toArray, List.set_cons_succ, List.set_cons_zero, Nat.reduceAdd]
                      rw [h0, h1, h2, h3, h4, h5]
                      obtain ⟨p1, q1, hv, hB, hNE⟩ : Bv (h + 1) (1 :: (a ++ x)) 65 W (u 6) := hF 6 (by omega)
                      rw [hv]
                      have HB1 := Lib.hid hB
                      have NE1 := Lib.hid hNE
                      have FD := Lib.hid (FC.out.later hC)
                      have HOw := Lib.hid (owns_below HOw.out hC)
                      clear hu hF hC hw hB hv hNE h0 h1 h2 h3 h4 h5
                      obtain ⟨v5, hWe⟩ : ∃ x, W = x := ⟨_, rfl⟩
                      rw [hWe] at HB1 FD HOw  ⊢
                      clear hWe
                      clear FC hcel
                      go_upto_region 26 with fail
                      have hw : ∀ W, Below v5.heap.size v5 W → Fs w (wayV NA IA sA tA n1 m cA dA) (wayV NX IX sX tX n2 m cX dX) g h x y W := fun W hb => FD.out.later hb
                      refine wp_region_spec (C := fun W => Below v5.heap.size v5 W) (Le := fun w w' => Below w.heap.size w w') 7 (fun ix wz v => fvP (h + 1) (1 :: (b ++ y)) [] 65 0 6 99 [.pointer (some ⟨w.heap.size + 1, 3, none⟩), .slice tX m dX, .int .i64 (j : Nat), .pointer (some ⟨cX', oX' + 32 * j, none⟩), .agg (rowB b), .agg (rowB y), undef] ix wz v) (by kernel_rfl) (by kernel_rfl) ⟨rfl, rfl, rfl, Nat.le_refl _, fun _ _ => rfl⟩ (fun j wa wb v hb h => fvP_le j wa wb v hb h) (pvV 6 99 [.pointer (some ⟨w.heap.size + 1, 3, none⟩), .slice tX m dX, .int .i64 (j : Nat), .pointer (some ⟨cX', oX' + 32 * j, none⟩), .agg (rowB b), .agg (rowB y), undef]) (fun j wa v h => fvP_v j wa v h) (fun ix => ([.pointer (some ⟨w.heap.size + 1, 3, none⟩), .slice tX m dX, .int .i64 (j : Nat), .pointer (some ⟨cX', oX' + 32 * j, none⟩), .agg (rowB b), .agg (rowB y), undef] : List Value).getD ix undef) (fun j => .inr (.inr rfl)) ?_ ?_
                      · intro u hu
                        have h0 : u 0 = .pointer (some ⟨w.heap.size + 1, 3, none⟩) := pvV_eq (hu 0) (by decide) (by decide)
                        have h1 : u 1 = .slice tX m dX := pvV_eq (hu 1) (by decide) (by decide)
                        have h2 : u 2 = .int .i64 (j : Nat) := pvV_eq (hu 2) (by decide) (by decide)
                        have h3 : u 3 = .pointer (some ⟨cX', oX' + 32 * j, none⟩) := pvV_eq (hu 3) (by decide) (by decide)
                        have h4 : u 4 = .agg (rowB b) := pvV_eq (hu 4) (by decide) (by decide)
                        have h5 : u 5 = .agg (rowB y) := pvV_eq (hu 5) (by decide) (by decide)
                        clear hu
                        simp only [List.take_succ_cons, List.take_zero]
                        refine spec_cons (fun W hC hd => ⟨by rfl, ?_⟩) ?_
                        · exact gives_val _ W (exec_way_at (.tmp 7) 3 (by decide) rfl (w.heap.size + 1) rfl) ⟨hC, Below.refl _ _, rfl⟩
                        simp only [Act.put, List.setIfInBounds_toArray, List.set_cons_succ, List.set_cons_zero, Nat.reduceAdd]
                        rw [h0]
                        refine spec_cons (fun W hC hd => ⟨by rfl, ?_⟩) ?_
                        · exact gives_val _ W (exec_load1 33 (.tmp 119) rfl ⟨(w.heap.size + 1), 3, none⟩ rfl _ ((hw W hC).c2 3 _ rfl) _ Tryd.underlying33 rfl) ⟨hC, Below.refl _ _, rfl⟩
                        simp only [Act.put, List.setIfInBounds_toArray, List.set_cons_succ, List.set_cons_zero, Nat.reduceAdd]
                        rw [h1]
                        refine spec_cons (fun W hC hd => ⟨by rfl, ?_⟩) ?_
                        · exact gives_val _ W (rfl) ⟨hC, Below.refl _ _, rfl⟩
                        simp only [Act.put, List.setIfInBounds_toArray, List.set_cons_succ, List.set_cons_zero, Nat.reduceAdd]
                        rw [h2]
                        refine spec_cons (fun W hC hd => ⟨by rfl, ?_⟩) ?_
                        · exact gives_val _ W (exec_dig_at (.tmp 120) (.tmp 121) rfl cX' oX' m dX j (congrArg (fun s => Value.slice s m dX) HtX.out) rfl hlt) ⟨hC, Below.refl _ _, rfl⟩
                        simp only [Act.put, List.setIfInBounds_toArray, List.set_cons_succ, List.set_cons_zero, Nat.reduceAdd]
                        rw [h3]
                        refine spec_cons (fun W hC hd => ⟨by rfl, ?_⟩) ?_
                        · exact gives_val _ W (exec_load_mid (.tmp 122) rfl cX' (oX' + 32 * j) rfl b hb32 (HRb.out W (hw W hC).below)) ⟨hC, Below.refl _ _, rfl⟩
                        simp only [Act.put, List.setIfInBounds_toArray, List.set_cons_succ, List.set_cons_zero, Nat.reduceAdd]
                        rw [h4]
                        refine spec_cons (fun W hC hd => ⟨by rfl, ?_⟩) ?_
                        · exact gives_val _ W (exec_load_row 24 (.tmp 10) rfl h rfl 24 (rowB y) (0, 0) _ ((hw W hC).dy) Tryd.underlying24 rfl zy.out) ⟨hC, Below.refl _ _, rfl⟩
                        simp only [Act.put, List.setIfInBounds_toArray, List.set_cons_succ, List.set_cons_zero, Nat.reduceAdd]
                        rw [h5]
                        refine spec_cons (fun W hC hd => ⟨by rfl, ?_⟩) ?_
                        · exact gives_call _ _ (exec_call2 36 (.tmp 123) (.tmp 124) #[24, 24] _ _ rfl rfl rfl (cfNodeBytes _ _)) ((nodeBytesO_any W b y hb32 hy32).mono fun e W' h => by obtain ⟨sp', cap', e1, e2, e3, e4⟩ := h; exact ⟨_, e1, hC.trans (e3.mono hC.size), e3, sp', cap', rfl, e2, fun c o he => Nat.le_trans (Array.getElem?_eq_some_iff.1 (hw W hC).dy).1 (e4 c o he)⟩)
                        simp only [Act.put, List.setIfInBounds_toArray, List.set_cons_succ, List.set_cons_zero, Nat.reduceAdd]
                        exact spec_nil
                      · intro u W hu hC hF
                        have h0 : u 0 = .pointer (some ⟨w.heap.size + 1, 3, none⟩) := pvV_eq (hu 0) (by decide) (by decide)
                        have h1 : u 1 = .slice tX m dX := pvV_eq (hu 1) (by decide) (by decide)
                        have h2 : u 2 = .int .i64 (j : Nat) := pvV_eq (hu 2) (by decide) (by decide)
                        have h3 : u 3 = .pointer (some ⟨cX', oX' + 32 * j, none⟩) := pvV_eq (hu 3) (by decide) (by decide)
                        have h4 : u 4 = .agg (rowB b) := pvV_eq (hu 4) (by decide) (by decide)
                        have h5 : u 5 = .agg (rowB y) := pvV_eq (hu 5) (by decide) (by decide)
                        simp only [List.take_succ_cons, List.take_zero, List.drop_succ_cons, List.drop_zero, putAll, Act.put, List.setIfInBounds_toArray, List.set_cons_succ, List.set_cons_zero, Nat.reduceAdd]
                        rw [h0, h1, h2, h3, h4, h5]
                        obtain ⟨p2, q2, hv, hB, hNE⟩ : Bv (h + 1) (1 :: (b ++ y)) 65 W (u 6) := hF 6 (by omega)
                        rw [hv]
                        have HB2 := Lib.hid hB
                        have NE2 := Lib.hid hNE
                        have FE := Lib.hid (FD.out.later hC)
                        have HB1 := Lib.hid (HB1.out.below hC)
                        have HOw := Lib.hid (owns_below HOw.out hC)
                        clear hu hF hC hw hB hv hNE h0 h1 h2 h3 h4 h5
                        obtain ⟨v6, hWe⟩ : ∃ x, W = x := ⟨_, rfl⟩
                        rw [hWe] at HB2 FE HOw HB1 ⊢
                        clear hWe
                        clear FD
                        rw [← ebytes] at HB1
                        rw [← ebytes2] at HB2
                        have hs1 := sum_nbytes t.2 x a
                        have hs2 := sum_nbytes t.2 y b
                        have hj1 := jn_length t.2 x a
                        have hj2 := jn_length t.2 y b
                        obtain ⟨B1, hB1e⟩ : ∃ l, nbytes t.2 x a = l := ⟨_, rfl⟩
                        obtain ⟨B2, hB2e⟩ : ∃ l, nbytes t.2 y b = l := ⟨_, rfl⟩
                        rw [hB1e] at HB1 hs1 hl65 HSt1
                        rw [hB2e] at HB2 hs2 hl65' HSt1
                        obtain ⟨X1, hX1⟩ : ∃ l, jn nodeD t.2 x a = l := ⟨_, rfl⟩
                        obtain ⟨Y1, hY1⟩ : ∃ l, jn nodeD t.2 y b = l := ⟨_, rfl⟩
                        rw [hX1] at hs1 hj1 HSt1
                        rw [hY1] at hs2 hj2 HSt1
                        have HCo := Lib.hid (collides_any v6 p1 p2 65 65 q1 q2 B1 B2 hl65 hl65' HB1.out HB2.out (HE.out.below FE.out.below) (by omega) (by omega))
                        have HSm1 := Lib.hid (fun W (hB : Below v6.heap.size v6 W) => sum_any W p1 65 q1 B1 hl65 (HB1.out.below hB).by_ (HE.out.below (FE.out.later hB).below) (by omega))
                        rw [hs1] at HSm1
                        clear ebytes ebytes2 hB1e hB2e hX1 hY1 hs1 hev
                        by_cases hco : coll B1 B2 = true
                        · rw [hco] at HCo
                          clear hco hs2
                          go_wp2_with (go_at_call 46; refine HCo.out.mono ?_; rintro e v7 ⟨rfl, hb7⟩; have FF := Lib.hid (FE.out.later hb7); clear hb7)
                          go_ret
                          exact ⟨rfl, FF.out.below⟩
                        · have hcf : coll B1 B2 = false := by simpa using hco
                          have HNx := Lib.hid (HSt1.out hcf)
                          rw [hcf] at HCo
                          clear hco hcf
                          have HZ1 := Lib.hid (row_dig hj1)
                          have HX1 := Lib.hid (rowB_one X1)
                          have HY1 : Hid ((rowB x).size = (rowB X1).size) := Lib.hid (by rw [rowB_size, rowB_size, hx32, hj1])
                          have HZ2 := Lib.hid (row_dig hj2)
                          have HX2 := Lib.hid (rowB_one Y1)
                          have HY2 : Hid ((rowB y).size = (rowB Y1).size) := Lib.hid (by rw [rowB_size, rowB_size, hy32, hj2])
                          go_upto_region 30 with (first
                            | (go_at_call 46; refine HCo.out.mono ?_; rintro e v7 ⟨rfl, hb7⟩; have FF := Lib.hid (FE.out.later hb7); have HOw := Lib.hid (owns_below HOw.out hb7); have HB7 := Lib.hid hb7; clear hb7)
                            | (go_at_call 47; refine (HSm1.out _ HB7.out).mono ?_; rintro e v8 ⟨rfl, hb8⟩; have FG := Lib.hid (FF.out.later hb8); have HOw := Lib.hid (owns_below HOw.out hb8); have HB8 := Lib.hid (HB7.out.trans (hb8.mono HB7.out.size)); clear hb8)
                            | (refine wpList_store_row rfl 24 (.tmp 9) (.tmp 130) rfl g (rowB X1) rfl rfl 24 _ FG.out.dx HZ1.out HY1.out HX1.out ?_))
                          have hgh := FG.out.lt2
                          have FH := Lib.hid (FG.out.setx X1)
                          have HOw2 := Lib.hid (owns_setRow HOw.out g (rowB X1) (by omega))
                          have HB9 := Lib.hid (byt_setRow (HB2.out.below HB8.out) g (rowB X1) (fun c o e => by have := NE2.out c o e; omega))
                          refine gen_world (Q := fun w => Code.wp _ _ _ _ w) _ (fun W => Fs w (wayV NA IA sA tA n1 m cA dA) (wayV NX IX sX tX n2 m cX dX) g h X1 y W ∧ W.ownsRow (h + 1) 4 1 (.slice (some ⟨cb, ob, none⟩) m cap) m ((lf 63 n i).map Value.bool) ∧ Byt W p2 q2 B2) ⟨FH.out, HOw2.out, HB9.out⟩ ?_
                          clear FH HOw2 HB9 FF FG HOw HB7 HB8 HSm1 HZ1 HX1 HY1 HB1 HB2 NE2 NE1 HCo HSt1
                          rintro v9 ⟨fi, ho9, hb9⟩
                          have HSm2 := Lib.hid (sum_any v9 p2 65 q2 B2 hl65' hb9.by_ (HE.out.below fi.below) (by omega))
                          rw [hs2] at HSm2
                          have FI := Lib.hid fi
                          have HO9 := Lib.hid ho9
                          clear fi ho9 hb9 hs2
                          go_wp2_with (first
                            | (go_at_call 47; refine HSm2.out.mono ?_; rintro e u9 ⟨rfl, hb8⟩; have FJ := Lib.hid (FI.out.later hb8); have HO10 := Lib.hid (owns_below HO9.out hb8); clear hb8)
                            | (refine wpList_store_row rfl 24 (.tmp 10) (.tmp 132) rfl h (rowB Y1) rfl rfl 24 _ FJ.out.dy HZ2.out HY2.out HX2.out ?_))
                          go_roundw
                          case rel => exact ⟨j + 1, X1, Y1, by go_num, by omega, hj1, hj2, HNx.out, owns_setRow HO10.out h (rowB Y1) (by omega), FJ.out.sety Y1⟩
                          case measure => simp [intOf]; omega
                  · rw [decide_eq_false hev] at hcel
                    have ebytes : nbytes t.2 x a = 1 :: (x ++ a) := if_neg hev
                    have ebytes2 : nbytes t.2 y b = 1 :: (y ++ b) := if_neg hev
                    have hl65 : (nbytes t.2 x a).length = 65 := by rw [ebytes]; simp [hx32, ha32]
                    have hl65' : (nbytes t.2 y b).length = 65 := by rw [ebytes2]; simp [hy32, hb32]
                    go_upto_region 27 with fail
                    rw [← ebytes] at HB1
                    rw [← ebytes2] at HB2
                    have hs1 := sum_nbytes t.2 x a
                    have hs2 := sum_nbytes t.2 y b
                    have hj1 := jn_length t.2 x a
                    have hj2 := jn_length t.2 y b
                    obtain ⟨B1, hB1e⟩ : ∃ l, nbytes t.2 x a = l := ⟨_, rfl⟩
                    obtain ⟨B2, hB2e⟩ : ∃ l, nbytes t.2 y b = l := ⟨_, rfl⟩
                    rw [hB1e] at HB1 hs1 hl65 HSt1
                    rw [hB2e] at HB2 hs2 hl65' HSt1
                    obtain ⟨X1, hX1⟩ : ∃ l, jn nodeD t.2 x a = l := ⟨_, rfl⟩
                    obtain ⟨Y1, hY1⟩ : ∃ l, jn nodeD t.2 y b = l := ⟨_, rfl⟩
                    rw [hX1] at hs1 hj1 HSt1
                    rw [hY1] at hs2 hj2 HSt1
                    have HCo := Lib.hid (collides_any v4 p1 p2 65 65 q1 q2 B1 B2 hl65 hl65' HB1.out HB2.out (HE.out.below FC.out.below) (by omega) (by omega))
                    have HSm1 := Lib.hid (fun W (hB : Below v4.heap.size v4 W) => sum_any W p1 65 q1 B1 hl65 (HB1.out.below hB).by_ (HE.out.below (FC.out.later hB).below) (by omega))
                    rw [hs1] at HSm1
                    clear ebytes ebytes2 hB1e hB2e hX1 hY1 hs1 hev
                    by_cases hco : coll B1 B2 = true
                    · rw [hco] at HCo
                      clear hco hs2
                      go_wp2_with (go_at_call 46; refine HCo.out.mono ?_; rintro e v7 ⟨rfl, hb7⟩; have FF := Lib.hid (FC.out.later hb7); clear hb7)
                      go_ret
                      exact ⟨rfl, FF.out.below⟩
                    · have hcf : coll B1 B2 = false := by simpa using hco
                      have HNx := Lib.hid (HSt1.out hcf)
                      rw [hcf] at HCo
                      clear hco hcf
                      have HZ1 := Lib.hid (row_dig hj1)
                      have HX1 := Lib.hid (rowB_one X1)
                      have HY1 : Hid ((rowB x).size = (rowB X1).size) := Lib.hid (by rw [rowB_size, rowB_size, hx32, hj1])
                      have HZ2 := Lib.hid (row_dig hj2)
                      have HX2 := Lib.hid (rowB_one Y1)
                      have HY2 : Hid ((rowB y).size = (rowB Y1).size) := Lib.hid (by rw [rowB_size, rowB_size, hy32, hj2])
                      go_upto_region 30 with (first
                        | (go_at_call 46; refine HCo.out.mono ?_; rintro e v7 ⟨rfl, hb7⟩; have FF := Lib.hid (FC.out.later hb7); have HOw := Lib.hid (owns_below HOw.out hb7); have HB7 := Lib.hid hb7; clear hb7)
                        | (go_at_call 47; refine (HSm1.out _ HB7.out).mono ?_; rintro e v8 ⟨rfl, hb8⟩; have FG := Lib.hid (FF.out.later hb8); have HOw := Lib.hid (owns_below HOw.out hb8); have HB8 := Lib.hid (HB7.out.trans (hb8.mono HB7.out.size)); clear hb8)
                        | (refine wpList_store_row rfl 24 (.tmp 9) (.tmp 130) rfl g (rowB X1) rfl rfl 24 _ FG.out.dx HZ1.out HY1.out HX1.out ?_))
                      have hgh := FG.out.lt2
                      have FH := Lib.hid (FG.out.setx X1)
                      have HOw2 := Lib.hid (owns_setRow HOw.out g (rowB X1) (by omega))
                      have HB9 := Lib.hid (byt_setRow (HB2.out.below HB8.out) g (rowB X1) (fun c o e => by have := NE2.out c o e; omega))
                      refine gen_world (Q := fun w => Code.wp _ _ _ _ w) _ (fun W => Fs w (wayV NA IA sA tA n1 m cA dA) (wayV NX IX sX tX n2 m cX dX) g h X1 y W ∧ W.ownsRow (h + 1) 4 1 (.slice (some ⟨cb, ob, none⟩) m cap) m ((lf 63 n i).map Value.bool) ∧ Byt W p2 q2 B2) ⟨FH.out, HOw2.out, HB9.out⟩ ?_
                      clear FH HOw2 HB9 FF FG HOw HB7 HB8 HSm1 HZ1 HX1 HY1 HB1 HB2 NE2 NE1 HCo HSt1
                      rintro v9 ⟨fi, ho9, hb9⟩
                      have HSm2 := Lib.hid (sum_any v9 p2 65 q2 B2 hl65' hb9.by_ (HE.out.below fi.below) (by omega))
                      rw [hs2] at HSm2
                      have FI := Lib.hid fi
                      have HO9 := Lib.hid ho9
                      clear fi ho9 hb9 hs2
                      go_wp2_with (first
                        | (go_at_call 47; refine HSm2.out.mono ?_; rintro e u9 ⟨rfl, hb8⟩; have FJ := Lib.hid (FI.out.later hb8); have HO10 := Lib.hid (owns_below HO9.out hb8); clear hb8)
                        | (refine wpList_store_row rfl 24 (.tmp 10) (.tmp 132) rfl h (rowB Y1) rfl rfl 24 _ FJ.out.dy HZ2.out HY2.out HX2.out ?_))
                      go_roundw
                      case rel => exact ⟨j + 1, X1, Y1, by go_num, by omega, hj1, hj2, HNx.out, owns_setRow HO10.out h (rowB Y1) (by omega), FJ.out.sety Y1⟩
                      case measure => simp [intOf]; omega
            · obtain rfl : j = m := by omega
              rw [HM.out, List.drop_length, ← HM.out, List.drop_eq_nil_of_le (by rw [HPa.out]; exact Nat.le_refl _), List.drop_eq_nil_of_le (by rw [HPx.out]; exact Nat.le_refl _)] at hleft
              exact hleft.none.elim
end

end Go.Proofs.YtighmhoekbnagaaDoor
