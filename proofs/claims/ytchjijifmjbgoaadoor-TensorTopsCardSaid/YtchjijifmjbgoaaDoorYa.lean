import Derived.Test.YtchjijifmjbgoaaDoorKv
import Derived.Sort.AssemblyPlain
namespace Go.Proofs.YtchjijifmjbgoaaDoor.Tn
set_option maxRecDepth 100000
open Go.ChangeShapes Go.WideShapes Go.ChangeAt Go.RowKit Go.Sort Go.Proofs.YtchjijifmjbgoaaDoor.Fx Go.Proofs.YtchjijifmjbgoaaDoor.Rf

/-! ### the library's sort, at places: its steps -/
section
variable {lt : Nat → Nat → Bool}
def Child (lt : Nat → Nat → Bool) (hi first root : Nat) (d : Array Nat) (c : Nat) : Prop :=
  c < hi ∧ ((c = 2 * root + 1 ∧ ¬ (c + 1 < hi ∧ lt d[first + c]! d[first + c + 1]! = true)) ∨ (c = 2 * root + 2 ∧ lt d[first + (2 * root + 1)]! d[first + (2 * root + 1) + 1]! = true))
theorem sift_end {hi first root : Nat} {d : Array Nat} (h : hi ≤ 2 * root + 1) : siftDown lt hi first root d = d := by rw [siftDown, dif_pos h]
theorem sift_stop {hi first root c : Nat} {d : Array Nat} (h : Child lt hi first root d c) (h3 : lt d[first + root]! d[first + c]! = false) : siftDown lt hi first root d = d := by
  obtain ⟨hc, ⟨rfl, h2⟩ | ⟨rfl, h2⟩⟩ := h
  · rw [siftDown, dif_neg (by omega), if_neg (by simpa using h2), if_pos (by simp [h3])]
  · rw [siftDown, dif_neg (by omega), if_pos (by simp [h2]; omega), if_pos (by simp [h3])]
theorem sift_go {hi first root c : Nat} {d : Array Nat} (h : Child lt hi first root d c) (h3 : lt d[first + root]! d[first + c]! = true) : siftDown lt hi first root d = siftDown lt hi first c (swp d (first + root) (first + c)) := by
  obtain ⟨hc, ⟨rfl, h2⟩ | ⟨rfl, h2⟩⟩ := h
  · rw [siftDown, dif_neg (by omega), if_neg (by simpa using h2), if_neg (by simp [h3])]
  · rw [siftDown, dif_neg (by omega), if_pos (by simp [h2]; omega), if_neg (by simp [h3]), dif_pos hc]
theorem scanUp_go {p : Nat → Bool} {d : Array Nat} {j i : Nat} (h : i ≤ j) (hp : p d[i]! = true) : scanUp p d j i = scanUp p d j (i + 1) := by rw [scanUp, if_pos (by simp [h, hp])]
theorem scanUp_stop {p : Nat → Bool} {d : Array Nat} {j i : Nat} (h : i ≤ j → p d[i]! = false) : scanUp p d j i = i := by
  rw [scanUp, if_neg]
  simp only [Bool.and_eq_true, decide_eq_true_eq]
  intro hh
  rw [h hh.1] at hh
  exact absurd hh.2 (by simp)
theorem scanDown_go {p : Nat → Bool} {d : Array Nat} {i j : Nat} (h : i ≤ j + 1) (hp : p d[j + 1]! = true) : scanDown p d i (j + 1) = scanDown p d i j := by rw [scanDown, if_pos (by simp [h, hp])]
theorem scanDown_stop {p : Nat → Bool} {d : Array Nat} {i j : Nat} (h : i ≤ j → p d[j]! = false) : scanDown p d i j = j := by
  cases j with
  | zero => rfl
  | succ j =>
    rw [scanDown, if_neg]
    simp only [Bool.and_eq_true, decide_eq_true_eq]
    intro hh
    rw [h hh.1] at hh
    exact absurd hh.2 (by simp)
/-- partition's round: behind both scans, behind the first -/
def pDown (lt : Nat → Nat → Bool) (a i j : Nat) (d : Array Nat) : Nat × Array Nat := if i > j then (j, d) else partLoop lt a (i + 1) (j - 1) (swp d i j)
def pUp (lt : Nat → Nat → Bool) (a i j : Nat) (d : Array Nat) : Nat × Array Nat := pDown lt a i (scanDown (fun x => !lt x d[a]!) d i j) d
theorem part_up (a i j : Nat) (d : Array Nat) : partLoop lt a i j d = pUp lt a (scanUp (fun x => lt x d[a]!) d j i) j d := by
  rw [partLoop_eq]; rfl
def eDown (lt : Nat → Nat → Bool) (a i j : Nat) (d : Array Nat) : Nat × Array Nat := if i > j then (i, d) else partEqLoop lt a (i + 1) (j - 1) (swp d i j)
def eUp (lt : Nat → Nat → Bool) (a i j : Nat) (d : Array Nat) : Nat × Array Nat := eDown lt a i (scanDown (fun x => lt d[a]! x) d i j) d
theorem parteq_up (a i j : Nat) (d : Array Nat) : partEqLoop lt a i j d = eUp lt a (scanUp (fun x => !lt d[a]! x) d j i) j d := by
  rw [partEqLoop_eq]; rfl
theorem pDown_end {a i j : Nat} {d : Array Nat} (h : j < i) : pDown lt a i j d = (j, d) := by unfold pDown; rw [if_pos h]
theorem pDown_go {a i j : Nat} {d : Array Nat} (h : ¬ j < i) : pDown lt a i j d = partLoop lt a (i + 1) (j - 1) (swp d i j) := by unfold pDown; rw [if_neg h]
theorem eDown_end {a i j : Nat} {d : Array Nat} (h : j < i) : eDown lt a i j d = (i, d) := by unfold eDown; rw [if_pos h]
theorem eDown_go {a i j : Nat} {d : Array Nat} (h : ¬ j < i) : eDown lt a i j d = partEqLoop lt a (i + 1) (j - 1) (swp d i j) := by unfold eDown; rw [if_neg h]
theorem sorted_go {d : Array Nat} {b i : Nat} (h : i < b) (h2 : lt d[i]! d[i - 1]! = false) : scanSorted lt d b i = scanSorted lt d b (i + 1) := by rw [scanSorted, if_pos (by simp [h, h2])]
theorem sorted_stop {d : Array Nat} {b i : Nat} (h : i < b → lt d[i]! d[i - 1]! = true) : scanSorted lt d b i = i := by
  rw [scanSorted, if_neg]
  simp only [Bool.and_eq_true, decide_eq_true_eq, Bool.not_eq_true']
  intro hh
  rw [h hh.1] at hh
  exact absurd hh.2 (by simp)
/-- partialInsertionSort's round: behind the shift down, behind the exchange, behind the scan -/
def iUp (lt : Nat → Nat → Bool) (a b s i : Nat) (d : Array Nat) : Array Nat × Bool := partialIns lt a b s i (if b - i ≥ 2 then shiftUp lt b (i + 1) d else d)
def iSwp (lt : Nat → Nat → Bool) (a b s i : Nat) (d : Array Nat) : Array Nat × Bool := iUp lt a b s i (if i - a ≥ 2 then shiftDown lt (i - 1) d else d)
def iScan (lt : Nat → Nat → Bool) (a b s i : Nat) (d : Array Nat) : Array Nat × Bool := if i = b then (d, true) else if b - a < 50 then (d, false) else iSwp lt a b s i (swp d i (i - 1))
theorem ins_scan (a b s i : Nat) (d : Array Nat) : partialIns lt a b (s + 1) i d = iScan lt a b s (scanSorted lt d b i) d := by
  rw [partialIns_succ]; rfl
theorem iScan_b {a b s i : Nat} {d : Array Nat} (h : i = b) : iScan lt a b s i d = (d, true) := by unfold iScan; rw [if_pos h]
theorem iScan_few {a b s i : Nat} {d : Array Nat} (h : ¬ i = b) (h2 : b - a < 50) : iScan lt a b s i d = (d, false) := by unfold iScan; rw [if_neg h, if_pos h2]
theorem iScan_go {a b s i : Nat} {d : Array Nat} (h : ¬ i = b) (h2 : ¬ b - a < 50) : iScan lt a b s i d = iSwp lt a b s i (swp d i (i - 1)) := by unfold iScan; rw [if_neg h, if_neg h2]
theorem iSwp_no {a b s i : Nat} {d : Array Nat} (h : ¬ i - a ≥ 2) : iSwp lt a b s i d = iUp lt a b s i d := by unfold iSwp; rw [if_neg h]
theorem iSwp_yes {a b s i : Nat} {d : Array Nat} (h : i - a ≥ 2) : iSwp lt a b s i d = iUp lt a b s i (shiftDown lt (i - 1) d) := by unfold iSwp; rw [if_pos h]
theorem iUp_no {a b s i : Nat} {d : Array Nat} (h : ¬ b - i ≥ 2) : iUp lt a b s i d = partialIns lt a b s i d := by unfold iUp; rw [if_neg h]
theorem iUp_yes {a b s i : Nat} {d : Array Nat} (h : b - i ≥ 2) : iUp lt a b s i d = partialIns lt a b s i (shiftUp lt b (i + 1) d) := by unfold iUp; rw [if_pos h]
theorem down_go {j : Nat} {d : Array Nat} (h : lt d[j + 1]! d[j]! = true) : shiftDown lt (j + 1) d = shiftDown lt j (swp d (j + 1) j) := by rw [shiftDown, if_neg (by simp [h])]
theorem down_stop {j : Nat} {d : Array Nat} (h : lt d[j + 1]! d[j]! = false) : shiftDown lt (j + 1) d = d := by rw [shiftDown, if_pos (by simp [h])]
theorem down_zero {d : Array Nat} : shiftDown lt 0 d = d := rfl
theorem up_go {b j : Nat} {d : Array Nat} (hb : j < b) (h : lt d[j]! d[j - 1]! = true) : shiftUp lt b j d = shiftUp lt b (j + 1) (swp d j (j - 1)) := by rw [shiftUp, if_pos hb, if_neg (by simp [h])]
theorem up_stop {b j : Nat} {d : Array Nat} (hb : j < b) (h : lt d[j]! d[j - 1]! = false) : shiftUp lt b j d = d := by rw [shiftUp, if_pos hb, if_pos (by simp [h])]
theorem up_end {b j : Nat} {d : Array Nat} (hb : ¬ j < b) : shiftUp lt b j d = d := by rw [shiftUp, if_neg hb]
end
theorem perm_swap {d d1 : Array Nat} {a b i j : Nat} (h : PermIn a b d d1) (hb : b ≤ d.size) (hi : a ≤ i) (hi2 : i < b) (hj : a ≤ j) (hj2 : j < b) : PermIn a b d (swp d1 i j) :=
  permIn_trans _ _ _ a b h (swp_permIn d1 a b i j hi hi2 hj hj2 (by rw [h.1]; exact hb))
section
variable {wb w0 W : World} {P n : Nat} {d : Array Nat}
theorem SrtW.cell3 (h : SrtW wb P n w0 d W) (i j : Nat) (hi : i < n) (hj : j < n) : (W.setCell ⟨P, i, none⟩ (.int .i64 ((d[j]! : Nat) : Int))).cell? ⟨P, j, none⟩ = some (.int .i64 ((d[j]! : Nat) : Int)) := by
  by_cases hij : i = j
  · subst hij
    have r1 := heap_setCell_same W P i (rowA d) 3 (.int .i64 ((d[i]! : Nat) : Int)) h.row
    rw [rowA_set] at r1
    rw [cell_of_row _ _ _ _ _ _ r1, rowA_get _ _ (by simp; have := h.size; omega)]
    congr 3
    have := h.size
    rw [getElem!_pos _ i (by simp; omega), getElem!_pos d i (by omega)]
    simp
  · exact h.cell2 i j hj hij _
end
/-! ### bits.Len: which number it is -/
def lenOk (D : ByteArray) : Bool := (List.range 256).all fun i => decide (i = 0) || (decide (2 ^ (D[i]!).toNat ≤ 2 * i) && decide (i < 2 ^ (D[i]!).toNat))
theorem len_at {D : ByteArray} (hD : lenOk D = true) {i : Nat} (h : i < D.size) (h1 : 1 ≤ i) (h2 : i < 256) : 2 ^ (D[i]'h).toNat ≤ 2 * i ∧ i < 2 ^ (D[i]'h).toNat := by
  have := List.all_eq_true.1 hD i (by simpa using h2)
  simp only [Bool.or_eq_true, Bool.and_eq_true, decide_eq_true_eq] at this
  rw [getElem!_pos D i h] at this
  rcases this with h0 | h0
  · omega
  · exact h0
theorem ret_L8 (D : ByteArray) (x : Nat) (hx : 256 ≤ x ∧ x < 1024) (h : x / 256 < D.size) (hD : lenOk D = true) :
    ∃ L : Nat, Ending.returned (Value.int .i64 (wrap64 (8 + wrap64 ((D[x / 256]'h).toNat : Int)))) = .returned (.int .i64 (L : Int)) ∧ 2 ^ L ≤ 2 * x ∧ x < 2 ^ L := by
  obtain ⟨a, b⟩ := len_at hD h (by omega) (by omega)
  refine ⟨8 + (D[x / 256]'h).toNat, by rw [wrapB], ?_, ?_⟩
  · rw [Nat.pow_add]; omega
  · rw [Nat.pow_add]; omega
theorem ret_L0 (D : ByteArray) (x : Nat) (hx : 1 ≤ x ∧ x < 256) (h : x < D.size) (hD : lenOk D = true) :
    ∃ L : Nat, Ending.returned (Value.int .i64 (wrap64 (wrap64 ((D[x]'h).toNat : Int)))) = .returned (.int .i64 (L : Int)) ∧ 2 ^ L ≤ 2 * x ∧ x < 2 ^ L := by
  obtain ⟨a, b⟩ := len_at hD h hx.1 hx.2
  exact ⟨(D[x]'h).toNat, by rw [wrapC], a, b⟩
set_option maxHeartbeats 4000000 in
theorem len64_val (w : World) (x : Nat) (h0 : 1 ≤ x) (h : x < 1024) : Calls Tryd.prog 99 #[.int .u64 (x : Int)] w fun e w' => (∃ L : Nat, e = .returned (.int .i64 (L : Int)) ∧ 2 ^ L ≤ 2 * x ∧ x < 2 ^ L) ∧ w = w' := by
  have d1 : decide ((4294967296 : Int) ≤ (x : Int)) = false := by simp; omega
  have d2 : decide ((65536 : Int) ≤ (x : Int)) = false := by simp; omega
  by_cases h3 : 256 ≤ x
  · have d3 : decide ((256 : Int) ≤ (x : Int)) = true := by simp; omega
    go_enter Tryd.func99, Tryd.ntmps99
    go_wp2
    go_ret
    exact ⟨ret_L8 _ x ⟨h3, h⟩ _ (by decide +kernel), rfl⟩
  · have d3 : decide ((256 : Int) ≤ (x : Int)) = false := by simp; omega
    go_enter Tryd.func99, Tryd.ntmps99
    go_wp2
    go_ret
    exact ⟨ret_L0 _ x ⟨h0, by omega⟩ _ (by decide +kernel), rfl⟩
set_option maxHeartbeats 4000000 in
theorem len_val (w : World) (x : Nat) (h0 : 1 ≤ x) (h : x < 1024) : Calls Tryd.prog 86 #[.int .u64 (x : Int)] w fun e w' => (∃ L : Nat, e = .returned (.int .i64 (L : Int)) ∧ 2 ^ L ≤ 2 * x ∧ x < 2 ^ L) ∧ w = w' := by
  have HX := Lib.hid (len64_val w x h0 h)
  go_enter Tryd.func86, Tryd.ntmps86
  go_wp2_with fail
  refine HX.out.mono ?_
  rintro e w' ⟨⟨L, rfl, h1, h2⟩, rfl⟩
  have H1 := Lib.hid h1
  have H2 := Lib.hid h2
  clear h1 h2
  go_wp2
  go_ret
  exact ⟨⟨L, rfl, H1.out, H2.out⟩, rfl⟩
set_option maxHeartbeats 4000000 in
theorem two_any (w : World) (x : Nat) (h0 : 1 ≤ x) (h : x < 1024) : Calls Tryd.prog 102 #[.int .i64 (x : Int)] w fun e w' => (∃ L : Nat, e = .returned (.int .u64 ((2 ^ L : Nat) : Int)) ∧ 2 ^ L ≤ 2 * x ∧ x < 2 ^ L) ∧ w = w' := by
  have HX := Lib.hid (len_val w x h0 h)
  have wx : IntKind.u64.wrap (x : Int) = (x : Int) := by rw [IntKind.wrap_u64]; omega
  go_enter Tryd.func102, Tryd.ntmps102
  go_wp2_with fail
  refine HX.out.mono ?_
  rintro e w' ⟨⟨L, rfl, h1, h2⟩, rfl⟩
  have H1 := Lib.hid h1
  have H2 := Lib.hid h2
  have hL : L < 11 := by
    by_cases hh : L < 11
    · exact hh
    · have : 2 ^ 11 ≤ 2 ^ L := Nat.pow_le_pow_right (by omega) (by omega)
      omega
  clear h1 h2
  have e2 : IntKind.u64.wrap (2 ^ L) = ((2 ^ L : Nat) : Int) := by
    have h3 : 2 ^ L < 2 ^ 11 := Nat.pow_lt_pow_right (by omega) hL
    have hc : ((2 ^ L : Nat) : Int) = (2 : Int) ^ L := by simp
    rw [IntKind.wrap_u64, ← hc]
    generalize 2 ^ L = y at h3 ⊢
    omega
  go_wp2
  go_ret
  exact ⟨⟨L, by simp, H1.out, H2.out⟩, rfl⟩
end Go.Proofs.YtchjijifmjbgoaaDoor.Tn
