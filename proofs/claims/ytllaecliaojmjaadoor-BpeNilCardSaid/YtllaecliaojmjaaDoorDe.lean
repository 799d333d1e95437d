import Derived.Test.YtllaecliaojmjaaDoorDd
import Derived.Lib.ConvBytes
import Derived.Lib.AtoiErrMem
namespace Go.Proofs.YtllaecliaojmjaaDoor.Bp
set_option maxRecDepth 100000
open Go.ChangeShapes Go.WideShapes Go.ChangeAt Go.RowKit Go.Proofs.YtllaecliaojmjaaDoor.Tn

/-! ### texts are short, and of bytes -/
structure Good (T : List (List Int)) : Prop where
  rng : ∀ t ∈ T, ∀ x ∈ t, 0 ≤ x ∧ x < 256
  short : ∀ t ∈ T, t.length ≤ 16
section
variable {T : List (List Int)}
theorem Good.at_ (h : Good T) (k : Nat) : (∀ x ∈ T.getD k [], 0 ≤ x ∧ x < 256) ∧ (T.getD k []).length ≤ 16 := by
  by_cases hk : k < T.length
  · rw [List.getD_eq_getElem?_getD, List.getElem?_eq_getElem hk]
    exact ⟨h.rng _ (List.getElem_mem hk), h.short _ (List.getElem_mem hk)⟩
  · rw [List.getD_eq_getElem?_getD, List.getElem?_eq_none (by omega)]
    simp
theorem Good.snoc (h : Good T) {p : Int × Int} (hl : (txt T p).length ≤ 16) : Good (T ++ [txt T p]) := by
  refine ⟨fun t ht x hx => ?_, fun t ht => ?_⟩
  · rcases List.mem_append.1 ht with h1 | h1
    · exact h.rng t h1 x hx
    · obtain rfl : t = txt T p := by simpa using h1
      rcases List.mem_append.1 hx with h2 | h2
      · exact (h.at_ _).1 x h2
      · exact (h.at_ _).1 x h2
  · rcases List.mem_append.1 ht with h1 | h1
    · exact h.short t h1
    · obtain rfl : t = txt T p := by simpa using h1
      exact hl
theorem good_newT : ∀ (r seen : List (Int × Int)) (T : List (List Int)), Good T → Good (newT T seen r).2
  | [], _, _, h => h
  | p :: r, seen, T, h => by
    rw [newT]
    by_cases hs : stepE T seen p = 0
    · rw [if_neg (by omega)]
      exact good_newT r _ _ (h.snoc (stepE_zero hs).2.2.2)
    · rw [if_pos hs]
      exact ⟨by simp, by simp⟩
theorem good_newD {al : List Int} (ps : List (Int × Int)) (h : ∀ x ∈ al, 0 ≤ x ∧ x < 256) : Good (newD al ps).2 := by
  have he : Good [] := ⟨by simp, by simp⟩
  unfold newD
  split
  · exact he
  · split
    · exact he
    · refine good_newT _ _ _ ⟨fun t ht x hx => ?_, fun t ht => ?_⟩
      · obtain ⟨y, hy, rfl⟩ := List.mem_map.1 ht
        obtain rfl : x = y := by simpa using hx
        exact h x hy
      · obtain ⟨y, hy, rfl⟩ := List.mem_map.1 ht
        simp
end
/-- a row of bytes of one's own -/
def Own5 (b n : Nat) (W : World) : Prop := ∃ cs fr, W.heap[b]? = some (.cells cs 5 fr) ∧ n ≤ fr.1 ∧ ∀ j, j < n → ∃ x : Int, cs[j]? = some (.int .u8 x)
theorem byte_at {t : List Int} (h : ∀ x ∈ t, 0 ≤ x ∧ x < 256) {j : Nat} (hj : j < t.length) : (((strOfNums t).data.toList.getD j 0).toNat : Int) = t.getD j 0 := by
  have hx := h _ (getD_mem hj)
  rw [strOfNums_data]
  simp only [List.getD_eq_getElem?_getD, List.getElem?_map, List.getElem?_eq_getElem hj, Option.map_some, Option.getD_some] at hx ⊢
  simp
  omega
theorem own_bytesWorld (w : World) (t : List Int) (h : ∀ x ∈ t, 0 ≤ x ∧ x < 256) (hl : t.length ≤ 1000000) : Byts (Lib.bytesWorld w 5 (strOfNums t)) (some ⟨w.heap.size, 0, none⟩) (grownCap w (strOfNums t).size 0 5) t ∧ Own5 w.heap.size t.length (Lib.bytesWorld w 5 (strOfNums t)) := by
  have hs := str_size t
  have hge := grownCap_ge w (strOfNums t).size 0 5
  have hmx := grownCap_le_maxLen w (strOfNums t).size 0 5 (by unfold maxLen; omega)
  have hc : ∀ j, j < t.length → (Lib.bytesWorld w 5 (strOfNums t)).cell? ⟨w.heap.size, j, none⟩ = some (.int .u8 (t.getD j 0)) := fun j hj => by
    rw [Lib.bytesWorld_cell w 5 _ j (by rw [hs]; exact hj), byte_at h hj]
  have hrow := Lib.bytesWorld_at_new w 5 (strOfNums t)
  refine ⟨⟨⟨by simp; omega, hmx, fun e => by (cases e), fun _ => ⟨w.heap.size, 0, rfl, fun k v hv => ?_⟩⟩, h⟩, _, _, hrow, by simp [Lib.bytesCells]; omega, fun j hj => ⟨t.getD j 0, ?_⟩⟩
  · rw [List.getElem?_map] at hv
    rcases hq : t[k]? with _ | x
    · rw [hq] at hv; cases hv
    · rw [hq] at hv
      cases hv
      obtain ⟨hk, e⟩ := List.getElem?_eq_some_iff.1 hq
      rw [Nat.zero_add, hc k hk]
      simp [hk, e]
  · have := hc j hj
    unfold World.cell? at this
    simp only [hrow] at this
    exact this
section
variable {b n : Nat} {W W' : World}
theorem Own5.later (h : Own5 b n W) (hb : Below W.heap.size W W') : Own5 b n W' := by
  obtain ⟨cs, fr, h1, h2, h3⟩ := h
  exact ⟨cs, fr, (hb.block _ (Array.getElem?_eq_some_iff.1 h1).1).trans h1, h2, h3⟩
theorem Own5.at_ (h : Own5 b n W) {j : Nat} (hj : j < n) : (∃ x : Int, W.cell? ⟨b, j, none⟩ = some (.int .u8 x)) ∧ W.frozen? ⟨b, j, none⟩ = false := by
  obtain ⟨cs, fr, h1, h2, h3⟩ := h
  obtain ⟨x, hx⟩ := h3 j hj
  refine ⟨⟨x, ?_⟩, ?_⟩
  · rw [cell_of_row _ _ _ _ _ _ h1]
    exact hx
  · simp [World.frozen?, h1]
    omega
theorem Own5.store (h : Own5 b n W) (j : Nat) (x : Int) : Own5 b n (W.setCell ⟨b, j, none⟩ (.int .u8 x)) := by
  obtain ⟨cs, fr, h1, h2, h3⟩ := h
  refine ⟨cs.setIfInBounds j (.int .u8 x), fr, by simp [World.setCell, Array.getElem?_modify, h1], h2, fun k hk => ?_⟩
  obtain ⟨y, hy⟩ := h3 k hk
  by_cases hkj : j = k
  · subst hkj
    exact ⟨x, by rw [Array.getElem?_setIfInBounds_self, if_pos (Array.getElem?_eq_some_iff.1 hy).1]⟩
  · exact ⟨y, by rw [Array.getElem?_setIfInBounds_ne hkj]; exact hy⟩
end
/-- what Text answers -/
def TxtA (w : World) (T : List (List Int)) (t : Int) (e : Ending) (w' : World) : Prop :=
  Below w.heap.size w w' ∧ ((0 ≤ t ∧ t < T.length ∧ ∃ b cap, e = .returned (.tuple #[.slice (some ⟨b, 0, none⟩) (T.getD t.toNat []).length cap, .int .i64 0]) ∧ w.heap.size ≤ b ∧ Byts w' (some ⟨b, 0, none⟩) cap (T.getD t.toNat []) ∧ Own5 b (T.getD t.toNat []).length w') ∨
    (¬ (0 ≤ t ∧ t < T.length) ∧ e = .returned (.tuple #[.slice none 0 0, .int .i64 10])))
set_option maxHeartbeats 4000000 in
theorem nilText_any (w : World) (t : Int) : Calls Tryd.prog 14 #[.pointer none, .int .i64 t] w fun e w' => e = .returned (.tuple #[.slice none 0 0, .int .i64 2]) ∧ w' = w := by
  go_enter Tryd.func14, Tryd.ntmps14
  go_wp2
  go_ret2
  exact ⟨rfl, rfl⟩
set_option maxHeartbeats 4000000 in
theorem text_any (w : World) (g : Nat) (al : List Int) (ps : List (Int × Int)) (T : List (List Int)) (t : Int) (hC : Cd g al ps T w) (hG : Good T) (hM : T.length ≤ 512) :
    Calls Tryd.prog 14 #[.pointer (some ⟨g, 0, none⟩), .int .i64 t] w (TxtA w T t) := by
  obtain ⟨m, sp, c, hcr, hst⟩ := hC
  have HCr := Lib.hid hcr
  have HSt := Lib.hid hst
  have HG := Lib.hid hG
  have HMx : Hid (T.length ≤ maxLen) := Lib.hid (by unfold maxLen; omega)
  have c0 := hcr.c0
  clear hcr hst hG hM
  by_cases h : 0 ≤ t ∧ t < (T.length : Int)
  · obtain ⟨k, rfl⟩ := Int.eq_ofNat_of_zero_le h.1
    have hk : k < T.length := by omega
    have hd : decide (0 ≤ (k : Int) ∧ (k : Int) < (T.length : Int)) = true := by simpa using h
    obtain ⟨d, o, e, h9⟩ := HSt.out.at_ k hk
    obtain ⟨hr, hs⟩ := HG.out.at_ k
    have HA : Hid (∀ u : List Int, T.getD k [] = u → TxtA w T (k : Int) (.returned (.tuple #[.slice (some ⟨w.heap.size, 0, none⟩) (strOfNums u).size (grownCap w (strOfNums u).size 0 5), .int .i64 0])) (Lib.bytesWorld w 5 (strOfNums u))) := Lib.hid (fun u hu => by
      obtain ⟨h1, h2⟩ := own_bytesWorld w u (by rw [← hu]; exact hr) (by rw [← hu]; omega)
      refine ⟨Lib.bytesWorld_below w 5 _, Or.inl ⟨h.1, h.2, w.heap.size, grownCap w (strOfNums u).size 0 5, ?_, Nat.le_refl _, ?_, ?_⟩⟩
      · rw [Int.toNat_natCast, hu, str_size]
      · rw [Int.toNat_natCast, hu]; exact h1
      · rw [Int.toNat_natCast, hu]; exact h2)
    obtain ⟨u, hu⟩ : ∃ u, T.getD k [] = u := ⟨_, rfl⟩
    rw [hu] at h9
    have HA2 := Lib.hid (HA.out u hu)
    unfold strV at h9
    have hcv := Lib.run_convert_string_bytes (P := Tryd.prog) w 9 22 5 (strOfNums u) Tryd.underlying9 Tryd.underlying22 Tryd.underlying5
    obtain ⟨S, hS⟩ : ∃ S, strOfNums u = S := ⟨_, rfl⟩
    rw [hS] at h9 hcv HA2
    clear h hr hs hu hS HA
    subst e
    go_enter Tryd.func14, Tryd.ntmps14
    go_wp2_with fail
    refine (isToken_any w g m al ps (some ⟨d, o, none⟩) T.length c (k : Int) HCr.out HMx.out).mono ?_
    rintro e w2 ⟨rfl, rfl⟩
    rw [hd]
    clear hd
    go_wp2
    go_ret2
    exact HA2.out
  · have hd : decide (0 ≤ t ∧ t < (T.length : Int)) = false := by simpa using h
    have HA : Hid (TxtA w T t (.returned (.tuple #[.slice none 0 0, .int .i64 10])) w) := Lib.hid ⟨Below.refl _ _, Or.inr ⟨h, rfl⟩⟩
    clear h
    go_enter Tryd.func14, Tryd.ntmps14
    go_wp2_with fail
    refine (isToken_any w g m al ps sp T.length c t HCr.out HMx.out).mono ?_
    rintro e w2 ⟨rfl, rfl⟩
    rw [hd]
    clear hd
    go_wp2
    go_ret2
    exact HA.out
end Go.Proofs.YtllaecliaojmjaaDoor.Bp
