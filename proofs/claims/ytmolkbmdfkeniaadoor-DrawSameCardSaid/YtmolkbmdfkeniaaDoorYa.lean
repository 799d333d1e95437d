import Derived.Test.YtmolkbmdfkeniaaDoorTc
import Derived.Sort.AssemblyPlain
-- from Ya
namespace Go.Proofs.YtmolkbmdfkeniaaDoor.Tn
set_option maxRecDepth 100000
open Go.ChangeShapes Go.WideShapes Go.ChangeAt Go.RowKit Go.Sort Go.Proofs.YtmolkbmdfkeniaaDoor.Fx Go.Proofs.YtmolkbmdfkeniaaDoor.Rf
section
variable {lt : Nat → Nat → Bool}
def Child (lt : Nat → Nat → Bool) (hi first root : Nat) (d : Array Nat) (c : Nat) : Prop :=
  c < hi ∧ ((c = 2 * root + 1 ∧ ¬ (c + 1 < hi ∧ lt d[first + c]! d[first + c + 1]! = true)) ∨ (c = 2 * root + 2 ∧ lt d[first + (2 * root + 1)]! d[first + (2 * root + 1) + 1]! = true))
theorem sift_end {hi first root : Nat} {d : Array Nat} (h : hi ≤ 2 * root + 1) : siftDown lt hi first root d = d := by rw [siftDown, dif_pos h]
theorem sift_stop {hi first root c : Nat} {d : Array Nat} (h : Child lt hi first root d c) (h3 : lt d[first + root]! d[first + c]! = false) : siftDown lt hi first root d = d := by
  obtain ⟨hc, ⟨rfl, h2⟩ | ⟨rfl, h2⟩⟩ := h
  · rw [siftDown, dif_neg (by omega), if_neg (by simpa using h2), if_pos (by simp [h3])]
  · rw [siftDown, dif_neg (by omega), if_pos (by simp [h2]; omega), if_pos (by simp [h3])]
theorem sift_go {hi first root c : Nat} {d : Array Nat} (h : Child lt hi first root d c) (h3 : lt d[first + root]! d[first + c]! = true) : siftDown lt hi first root d = siftDown lt hi first c (swp d (first + root) (first + c)) := by
  obtain ⟨hc, ⟨rfl, h2⟩ | ⟨rfl, h2⟩⟩ := h
  · rw [siftDown, dif_neg (by omega), if_neg (by simpa using h2), if_neg (by simp [h3])]
  · rw [siftDown, dif_neg (by omega), if_pos (by simp [h2]; omega), if_neg (by simp [h3]), dif_pos hc]
theorem scanUp_go {p : Nat → Bool} {d : Array Nat} {j i : Nat} (h : i ≤ j) (hp : p d[i]! = true) : scanUp p d j i = scanUp p d j (i + 1) := by rw [scanUp, if_pos (by simp [h, hp])]
theorem scanUp_stop {p : Nat → Bool} {d : Array Nat} {j i : Nat} (h : i ≤ j → p d[i]! = false) : scanUp p d j i = i := by
  rw [scanUp, if_neg]
  simp only [Bool.and_eq_true, decide_eq_true_eq]
  intro hh
  rw [h hh.1] at hh
  exact absurd hh.2 (by simp)
theorem scanDown_go {p : Nat → Bool} {d : Array Nat} {i j : Nat} (h : i ≤ j + 1) (hp : p d[j + 1]! = true) : scanDown p d i (j + 1) = scanDown p d i j := by rw [scanDown, if_pos (by simp [h, hp])]
theorem scanDown_stop {p : Nat → Bool} {d : Array Nat} {i j : Nat} (h : i ≤ j → p d[j]! = false) : scanDown p d i j = j := by
  cases j with
  | zero => rfl
  | succ j =>
    rw [scanDown, if_neg]
    simp only [Bool.and_eq_true, decide_eq_true_eq]
    intro hh
    rw [h hh.1] at hh
    exact absurd hh.2 (by simp)
/-- partition's round: behind both scans, behind the first -/
def pDown (lt : Nat → Nat → Bool) (a i j : Nat) (d : Array Nat) : Nat × Array Nat := if i > j then (j, d) else partLoop lt a (i + 1) (j - 1) (swp d i j)
def pUp (lt : Nat → Nat → Bool) (a i j : Nat) (d : Array Nat) : Nat × Array Nat := pDown lt a i (scanDown (fun x => !lt x d[a]!) d i j) d
theorem part_up (a i j : Nat) (d : Array Nat) : partLoop lt a i j d = pUp lt a (scanUp (fun x => lt x d[a]!) d j i) j d := by
  rw [partLoop_eq]; rfl
def eDown (lt : Nat → Nat → Bool) (a i j : Nat) (d : Array Nat) : Nat × Array Nat := if i > j then (i, d) else partEqLoop lt a (i + 1) (j - 1) (swp d i j)
def eUp (lt : Nat → Nat → Bool) (a i j : Nat) (d : Array Nat) : Nat × Array Nat := eDown lt a i (scanDown (fun x => lt d[a]! x) d i j) d
theorem parteq_up (a i j : Nat) (d : Array Nat) : partEqLoop lt a i j d = eUp lt a (scanUp (fun x => !lt d[a]! x) d j i) j d := by
  rw [partEqLoop_eq]; rfl
theorem pDown_end {a i j : Nat} {d : Array Nat} (h : j < i) : pDown lt a i j d = (j, d) := by unfold pDown; rw [if_pos h]
theorem pDown_go {a i j : Nat} {d : Array Nat} (h : ¬ j < i) : pDown lt a i j d = partLoop lt a (i + 1) (j - 1) (swp d i j) := by unfold pDown; rw [if_neg h]
theorem eDown_end {a i j : Nat} {d : Array Nat} (h : j < i) : eDown lt a i j d = (i, d) := by unfold eDown; rw [if_pos h]
theorem eDown_go {a i j : Nat} {d : Array Nat} (h : ¬ j < i) : eDown lt a i j d = partEqLoop lt a (i + 1) (j - 1) (swp d i j) := by unfold eDown; rw [if_neg h]
theorem sorted_go {d : Array Nat} {b i : Nat} (h : i < b) (h2 : lt d[i]! d[i - 1]! = false) : scanSorted lt d b i = scanSorted lt d b (i + 1) := by rw [scanSorted, if_pos (by simp [h, h2])]
theorem sorted_stop {d : Array Nat} {b i : Nat} (h : i < b → lt d[i]! d[i - 1]! = true) : scanSorted lt d b i = i := by
  rw [scanSorted, if_neg]
  simp only [Bool.and_eq_true, decide_eq_true_eq, Bool.not_eq_true']
  intro hh
  rw [h hh.1] at hh
  exact absurd hh.2 (by simp)
/-- partialInsertionSort's round: behind the shift down, behind the exchange, behind the scan -/
def iUp (lt : Nat → Nat → Bool) (a b s i : Nat) (d : Array Nat) : Array Nat × Bool := partialIns lt a b s i (if b - i ≥ 2 then shiftUp lt b (i + 1) d else d)
def iSwp (lt : Nat → Nat → Bool) (a b s i : Nat) (d : Array Nat) : Array Nat × Bool := iUp lt a b s i (if i - a ≥ 2 then shiftDown lt (i - 1) d else d)
def iScan (lt : Nat → Nat → Bool) (a b s i : Nat) (d : Array Nat) : Array Nat × Bool := if i = b then (d, true) else if b - a < 50 then (d, false) else iSwp lt a b s i (swp d i (i - 1))
theorem ins_scan (a b s i : Nat) (d : Array Nat) : partialIns lt a b (s + 1) i d = iScan lt a b s (scanSorted lt d b i) d := by
  rw [partialIns_succ]; rfl
theorem iScan_b {a b s i : Nat} {d : Array Nat} (h : i = b) : iScan lt a b s i d = (d, true) := by unfold iScan; rw [if_pos h]
theorem iScan_few {a b s i : Nat} {d : Array Nat} (h : ¬ i = b) (h2 : b - a < 50) : iScan lt a b s i d = (d, false) := by unfold iScan; rw [if_neg h, if_pos h2]
theorem iScan_go {a b s i : Nat} {d : Array Nat} (h : ¬ i = b) (h2 : ¬ b - a < 50) : iScan lt a b s i d = iSwp lt a b s i (swp d i (i - 1)) := by unfold iScan; rw [if_neg h, if_neg h2]
theorem iSwp_no {a b s i : Nat} {d : Array Nat} (h : ¬ i - a ≥ 2) : iSwp lt a b s i d = iUp lt a b s i d := by unfold iSwp; rw [if_neg h]
theorem iSwp_yes {a b s i : Nat} {d : Array Nat} (h : i - a ≥ 2) : iSwp lt a b s i d = iUp lt a b s i (shiftDown lt (i - 1) d) := by unfold iSwp; rw [if_pos h]
theorem iUp_no {a b s i : Nat} {d : Array Nat} (h : ¬ b - i ≥ 2) : iUp lt a b s i d = partialIns lt a b s i d := by unfold iUp; rw [if_neg h]
theorem iUp_yes {a b s i : Nat} {d : Array Nat} (h : b - i ≥ 2) : iUp lt a b s i d = partialIns lt a b s i (shiftUp lt b (i + 1) d) := by unfold iUp; rw [if_pos h]
theorem down_go {j : Nat} {d : Array Nat} (h : lt d[j + 1]! d[j]! = true) : shiftDown lt (j + 1) d = shiftDown lt j (swp d (j + 1) j) := by rw [shiftDown, if_neg (by simp [h])]
theorem down_stop {j : Nat} {d : Array Nat} (h : lt d[j + 1]! d[j]! = false) : shiftDown lt (j + 1) d = d := by rw [shiftDown, if_pos (by simp [h])]
theorem up_go {b j : Nat} {d : Array Nat} (hb : j < b) (h : lt d[j]! d[j - 1]! = true) : shiftUp lt b j d = shiftUp lt b (j + 1) (swp d j (j - 1)) := by rw [shiftUp, if_pos hb, if_neg (by simp [h])]
theorem up_stop {b j : Nat} {d : Array Nat} (hb : j < b) (h : lt d[j]! d[j - 1]! = false) : shiftUp lt b j d = d := by rw [shiftUp, if_pos hb, if_pos (by simp [h])]
theorem up_end {b j : Nat} {d : Array Nat} (hb : ¬ j < b) : shiftUp lt b j d = d := by rw [shiftUp, if_neg hb]
end
theorem perm_swap {d d1 : Array Nat} {a b i j : Nat} (h : PermIn a b d d1) (hb : b ≤ d.size) (hi : a ≤ i) (hi2 : i < b) (hj : a ≤ j) (hj2 : j < b) : PermIn a b d (swp d1 i j) :=
  permIn_trans _ _ _ a b h (swp_permIn d1 a b i j hi hi2 hj hj2 (by rw [h.1]; exact hb))
section
variable {wb w0 W : World} {P n : Nat} {d : Array Nat}
theorem SrtW.cell3 (h : SrtW wb P n w0 d W) (i j : Nat) (hi : i < n) (hj : j < n) : (W.setCell ⟨P, i, none⟩ (.int .i64 ((d[j]! : Nat) : Int))).cell? ⟨P, j, none⟩ = some (.int .i64 ((d[j]! : Nat) : Int)) := by
  by_cases hij : i = j
  · subst hij
    have r1 := heap_setCell_same W P i (rowA d) 3 (.int .i64 ((d[i]! : Nat) : Int)) h.row
    rw [rowA_set] at r1
    rw [cell_of_row _ _ _ _ _ _ r1, rowA_get _ _ (by simp; have := h.size; omega)]
    congr 3
    have := h.size
    rw [getElem!_pos _ i (by simp; omega), getElem!_pos d i (by omega)]
    simp
  · exact h.cell2 i j hj hij _
end
/-! ### bits.Len: which number it is -/
def lenOk (D : ByteArray) : Bool := (List.range 256).all fun i => decide (i = 0) || (decide (2 ^ (D[i]!).toNat ≤ 2 * i) && decide (i < 2 ^ (D[i]!).toNat))
theorem len_at {D : ByteArray} (hD : lenOk D = true) {i : Nat} (h : i < D.size) (h1 : 1 ≤ i) (h2 : i < 256) : 2 ^ (D[i]'h).toNat ≤ 2 * i ∧ i < 2 ^ (D[i]'h).toNat := by
  have := List.all_eq_true.1 hD i (by simpa using h2)
  simp only [Bool.or_eq_true, Bool.and_eq_true, decide_eq_true_eq] at this
  rw [getElem!_pos D i h] at this
  rcases this with h0 | h0
  · omega
  · exact h0
theorem ret_L8 (D : ByteArray) (x : Nat) (hx : 256 ≤ x ∧ x < 1024) (h : x / 256 < D.size) (hD : lenOk D = true) :
    ∃ L : Nat, Ending.returned (Value.int .i64 (wrap64 (8 + wrap64 ((D[x / 256]'h).toNat : Int)))) = .returned (.int .i64 (L : Int)) ∧ 2 ^ L ≤ 2 * x ∧ x < 2 ^ L := by
  obtain ⟨a, b⟩ := len_at hD h (by omega) (by omega)
  refine ⟨8 + (D[x / 256]'h).toNat, by rw [wrapB], ?_, ?_⟩
  · rw [Nat.pow_add]; omega
  · rw [Nat.pow_add]; omega
theorem ret_L0 (D : ByteArray) (x : Nat) (hx : 1 ≤ x ∧ x < 256) (h : x < D.size) (hD : lenOk D = true) :
    ∃ L : Nat, Ending.returned (Value.int .i64 (wrap64 (wrap64 ((D[x]'h).toNat : Int)))) = .returned (.int .i64 (L : Int)) ∧ 2 ^ L ≤ 2 * x ∧ x < 2 ^ L := by
  obtain ⟨a, b⟩ := len_at hD h hx.1 hx.2
  exact ⟨(D[x]'h).toNat, by rw [wrapC], a, b⟩
set_option maxHeartbeats 4000000 in
theorem len64_val (w : World) (x : Nat) (h0 : 1 ≤ x) (h : x < 1024) : Calls Tryd.prog 94 #[.int .u64 (x : Int)] w fun e w' => (∃ L : Nat, e = .returned (.int .i64 (L : Int)) ∧ 2 ^ L ≤ 2 * x ∧ x < 2 ^ L) ∧ w = w' := by
  have d1 : decide ((4294967296 : Int) ≤ (x : Int)) = false := by simp; omega
  have d2 : decide ((65536 : Int) ≤ (x : Int)) = false := by simp; omega
  by_cases h3 : 256 ≤ x
  · have d3 : decide ((256 : Int) ≤ (x : Int)) = true := by simp; omega
    go_enter Tryd.func94, Tryd.ntmps94
    go_wp2
    go_ret
    exact ⟨ret_L8 _ x ⟨h3, h⟩ _ (by decide +kernel), rfl⟩
  · have d3 : decide ((256 : Int) ≤ (x : Int)) = false := by simp; omega
    go_enter Tryd.func94, Tryd.ntmps94
    go_wp2
    go_ret
    exact ⟨ret_L0 _ x ⟨h0, by omega⟩ _ (by decide +kernel), rfl⟩
set_option maxHeartbeats 4000000 in
theorem len_val (w : World) (x : Nat) (h0 : 1 ≤ x) (h : x < 1024) : Calls Tryd.prog 80 #[.int .u64 (x : Int)] w fun e w' => (∃ L : Nat, e = .returned (.int .i64 (L : Int)) ∧ 2 ^ L ≤ 2 * x ∧ x < 2 ^ L) ∧ w = w' := by
  have HX := Lib.hid (len64_val w x h0 h)
  go_enter Tryd.func80, Tryd.ntmps80
  go_wp2_with fail
  refine HX.out.mono ?_
  rintro e w' ⟨⟨L, rfl, h1, h2⟩, rfl⟩
  have H1 := Lib.hid h1
  have H2 := Lib.hid h2
  clear h1 h2
  go_wp2
  go_ret
  exact ⟨⟨L, rfl, H1.out, H2.out⟩, rfl⟩
set_option maxHeartbeats 4000000 in
theorem two_any (w : World) (x : Nat) (h0 : 1 ≤ x) (h : x < 1024) : Calls Tryd.prog 98 #[.int .i64 (x : Int)] w fun e w' => (∃ L : Nat, e = .returned (.int .u64 ((2 ^ L : Nat) : Int)) ∧ 2 ^ L ≤ 2 * x ∧ x < 2 ^ L) ∧ w = w' := by
  have HX := Lib.hid (len_val w x h0 h)
  have wx : IntKind.u64.wrap (x : Int) = (x : Int) := by rw [IntKind.wrap_u64]; omega
  go_enter Tryd.func98, Tryd.ntmps98
  go_wp2_with fail
  refine HX.out.mono ?_
  rintro e w' ⟨⟨L, rfl, h1, h2⟩, rfl⟩
  have H1 := Lib.hid h1
  have H2 := Lib.hid h2
  have hL : L < 11 := by
    by_cases hh : L < 11
    · exact hh
    · have : 2 ^ 11 ≤ 2 ^ L := Nat.pow_le_pow_right (by omega) (by omega)
      omega
  clear h1 h2
  have e2 : IntKind.u64.wrap (2 ^ L) = ((2 ^ L : Nat) : Int) := by
    have h3 : 2 ^ L < 2 ^ 11 := Nat.pow_lt_pow_right (by omega) hL
    have hc : ((2 ^ L : Nat) : Int) = (2 : Int) ^ L := by simp
    rw [IntKind.wrap_u64, ← hc]
    generalize 2 ^ L = y at h3 ⊢
    omega
  go_wp2
  go_ret
  exact ⟨⟨L, by simp, H1.out, H2.out⟩, rfl⟩
end Go.Proofs.YtmolkbmdfkeniaaDoor.Tn
-- from Yb
namespace Go.Proofs.YtmolkbmdfkeniaaDoor.Tn
set_option maxRecDepth 100000
open Go.ChangeShapes Go.WideShapes Go.ChangeAt Go.RowKit Go.Sort Go.Proofs.YtmolkbmdfkeniaaDoor.Fx Go.Proofs.YtmolkbmdfkeniaaDoor.Rf
set_option maxHeartbeats 8000000 in
theorem sift_any {wb : World} {g : FuncId} {recv : Value} {n : Nat} {cf : Nat → Nat → Int} (S : Srt wb g recv n cf) (w : World) (P : Nat) (d : Array Nat) (hs : SrtW wb P n w d w) (lo hi a : Nat) (ha : a + hi ≤ n) (hlo : lo ≤ 1000) :
    Calls Tryd.prog 97 #[.slice (some ⟨P, 0, none⟩) n n, .int .i64 lo, .int .i64 hi, .int .i64 a, .func (.func g) #[recv] #[]] w fun e w' => e = .returned (.tuple #[]) ∧ SrtW wb P n w (siftDown (ltc cf) hi a lo d) w' := by
  have HS := Lib.hid S
  have mixed : Tryd.prog.follows Departure.mixedOrders = true := by kernel_rfl
  have hn := S.le
  have eg := S.eg
  have HW : Hid (SrtW wb P n w d w) := hs
  obtain ⟨T, hT⟩ : ∃ T, siftDown (ltc cf) hi a lo d = T := ⟨_, rfl⟩
  have HT := Lib.hid hT
  rw [hT]
  clear S hs hT
  go_enter Tryd.func97, Tryd.ntmps97
  go_wp2
  go_loopw [10] (fun t wr => ∃ (r : Nat) (d1 : Array Nat), r ≤ 2000 ∧ t = .int .i64 r ∧ SrtW wb P n w d1 wr ∧ siftDown (ltc cf) hi a r d1 = T) (fun t _ => 2001 - (intOf t).toNat)
  case atStart => exact ⟨lo, d, by omega, rfl, HW.out, HT.out⟩
  case round =>
    clear HT HW
    obtain ⟨r, d1, hr, rfl, hW, hO⟩ := hrel
    have HW := Lib.hid hW
    have HO := Lib.hid hO
    clear hW hO
    obtain ⟨c, hc⟩ : ∃ c, 2 * r + 1 = c := ⟨_, rfl⟩
    have ecc : 2 * (r : Int) + 1 = (c : Int) := by omega
    have HCc := Lib.hid hc
    clear hc
    by_cases hge : hi ≤ c
    · have hdt : decide ((hi : Int) ≤ (c : Int)) = true := by simp; omega
      have hdt2 : decide (hi ≤ c) = true := by simpa using hge
      have HE : Hid (d1 = T) := Lib.hid (by
        rw [← HO.out, sift_end (by have := HCc.out; omega)])
      go_wp2
      go_end0
      exact ⟨rfl, by rw [← HE.out]; exact HW.out⟩
    · have hdt : decide ((hi : Int) ≤ (c : Int)) = false := by simp; omega
      have hdt2 : decide (hi ≤ c) = false := by simp; omega
      obtain ⟨c1, hc1⟩ : ∃ c1, c + 1 = c1 := ⟨_, rfl⟩
      have ec1 : (c : Int) + 1 = (c1 : Int) := by omega
      have HC1 := Lib.hid hc1
      have w1 : IntKind.i64.wrap (c1 : Int) = (c1 : Int) := IntWalk.i64_in _ (by omega)
      clear hc1
      by_cases h1 : c1 < hi
      · have hd1 : decide ((c1 : Int) < (hi : Int)) = true := by simp; omega
        have hd2 : decide (c1 < hi) = true := by simpa using h1
        have hcn : a + c < n := by omega
        have hcn1 : a + c + 1 < n := by omega
        obtain ⟨jc, hjc⟩ : ∃ jc, a + c = jc := ⟨_, rfl⟩
        obtain ⟨jd, hjd⟩ : ∃ jd, jc + 1 = jd := ⟨_, rfl⟩
        have HJc := Lib.hid hjc
        have HJd := Lib.hid hjd
        have ejc : (a : Int) + (c : Int) = (jc : Int) := by omega
        have ejd : (jc : Int) + 1 = (jd : Int) := by omega
        have hjn : jc < n := by omega
        have hdn : jd < n := by omega
        have wjc : IntKind.i64.wrap (jc : Int) = (jc : Int) := IntWalk.i64_in _ (by omega)
        have wjd : IntKind.i64.wrap (jd : Int) = (jd : Int) := IntWalk.i64_in _ (by omega)
        clear hjc hjd hcn hcn1
        have q1 := cell_regrown (HW.out.cell (jc) hjn)
        have q2 := cell_regrown (HW.out.cell (jd) hdn)
        have qc := fun q os => HS.out.at_ HW.out (jc) (jd) hjn hdn q os
        by_cases hlt2 : cf d1[jc]! d1[jd]! < 0
        · have hd : decide (cf d1[jc]! d1[jd]! < 0) = true := by simpa using hlt2
          have HD : Hid (ltc cf d1[jc]! d1[jd]! = true) := Lib.hid hd
          obtain ⟨x, hx⟩ : ∃ x, d1[jc]! = x := ⟨_, rfl⟩
          obtain ⟨y, hy⟩ : ∃ y, d1[jd]! = y := ⟨_, rfl⟩
          rw [hx, hy] at qc hd
          rw [hx] at q1
          rw [hy] at q2
          clear hx hy hlt2 
          go_wp2
          refine wp_region_quiet_below (by kernel_rfl) (by kernel_rfl) ?_
          repeat (quiet_step (exact qc _ _))
          refine wpQuiet_nil ?_
          intro _ hw'
          obtain ⟨⟨dq, osq⟩, hw''⟩ := hw'
          subst hw''
          have HW2 := Lib.hid (HW.out.regrown dq osq)
          generalize grow (redrawn wr dq) osq = w2 at HW2 ⊢
          clear q1 q2 qc HW
          have HDa := HD
          clear HD ejc ejd wjc wjd
          have HCh : Hid (Child (ltc cf) hi a r d1 c1) := Lib.hid ⟨by omega, Or.inr ⟨by have := HCc.out; have := HC1.out; omega, by rw [HCc.out, HJc.out, HJd.out]; exact HDa.out⟩⟩
          obtain ⟨ic, hic⟩ : ∃ ic, a + c1 = ic := ⟨_, rfl⟩
          obtain ⟨ir, hir⟩ : ∃ ir, a + r = ir := ⟨_, rfl⟩
          have HIc := Lib.hid hic
          have HIr := Lib.hid hir
          have ec : (a : Int) + (c1 : Int) = (ic : Int) := by omega
          have er : (a : Int) + (r : Int) = (ir : Int) := by omega
          have hin : ic < n := by omega
          have hir2 : ir < n := by omega
          have wc : IntKind.i64.wrap (ic : Int) = (ic : Int) := IntWalk.i64_in _ (by omega)
          have wr_ : IntKind.i64.wrap (ir : Int) = (ir : Int) := IntWalk.i64_in _ (by omega)
          clear hic hir
          have q1 := cell_regrown (HW2.out.cell (ir) hir2)
          have q2 := cell_regrown (HW2.out.cell (ic) hin)
          have qc := fun q os => HS.out.at_ HW2.out (ir) (ic) hir2 hin q os
          by_cases hlt2 : cf d1[ir]! d1[ic]! < 0
          · have hd : decide (cf d1[ir]! d1[ic]! < 0) = true := by simpa using hlt2
            have HD : Hid (ltc cf d1[ir]! d1[ic]! = true) := Lib.hid hd
            obtain ⟨x, hx⟩ : ∃ x, d1[ir]! = x := ⟨_, rfl⟩
            obtain ⟨y, hy⟩ : ∃ y, d1[ic]! = y := ⟨_, rfl⟩
            rw [hx, hy] at qc hd
            rw [hx] at q1
            rw [hy] at q2
            clear hx hy hlt2 
            go_wp2
            refine wp_region_quiet_below (by kernel_rfl) (by kernel_rfl) ?_
            repeat (quiet_step (exact qc _ _))
            refine wpQuiet_nil ?_
            intro _ hw'
            obtain ⟨⟨dq, osq⟩, hw''⟩ := hw'
            subst hw''
            have HW4 := Lib.hid (HW2.out.regrown dq osq)
            generalize grow (redrawn w2 dq) osq = w4 at HW4 ⊢
            clear q1 q2 qc HW2
            have HO2 : Hid (siftDown (ltc cf) hi a c1 (swp d1 ir ic) = T) := Lib.hid (by
              have h0 := sift_go HCh.out (by rw [HIr.out, HIc.out]; exact HD.out)
              rw [HIr.out, HIc.out] at h0
              rw [← h0]
              exact HO.out)
            clear HO HCh HIc HIr HD
            have c1 := HW4.out.cell (ir) hir2
            have c2 := HW4.out.cell (ic) hin
            have c3 := HW4.out.cell3 (ir) (ic) hir2 hin
            have f1 := HW4.out.frozen (ir)
            have f2 := HW4.out.frozen (ic)
            have HW5 := Lib.hid (HW4.out.swap (ir) (ic) hir2 hin)
            obtain ⟨x, hx⟩ : ∃ x, d1[ir]! = x := ⟨_, rfl⟩
            obtain ⟨y, hy⟩ : ∃ y, d1[ic]! = y := ⟨_, rfl⟩
            rw [hx, hy] at HW5
            rw [hx] at c1
            rw [hy] at c2 c3
            clear hx hy
            go_wp2
            go_big_region_o
            clear c1 c2 c3 f1 f2 HW4
            generalize ((w4.setCell ⟨P, ir, none⟩ (.int .i64 (y : Int))).setCell ⟨P, ic, none⟩ (.int .i64 (x : Int))).drew = w5 at HW5 ⊢

            go_wp2
            go_roundw
            case rel => exact ⟨c1, _, by omega, by first | rfl | go_num, HW5.out, HO2.out⟩
            case measure => simp [intOf]; omega
          · have hd : decide (cf d1[ir]! d1[ic]! < 0) = false := by simpa using hlt2
            have HD : Hid (ltc cf d1[ir]! d1[ic]! = false) := Lib.hid hd
            obtain ⟨x, hx⟩ : ∃ x, d1[ir]! = x := ⟨_, rfl⟩
            obtain ⟨y, hy⟩ : ∃ y, d1[ic]! = y := ⟨_, rfl⟩
            rw [hx, hy] at qc hd
            rw [hx] at q1
            rw [hy] at q2
            clear hx hy hlt2 
            go_wp2
            refine wp_region_quiet_below (by kernel_rfl) (by kernel_rfl) ?_
            repeat (quiet_step (exact qc _ _))
            refine wpQuiet_nil ?_
            intro _ hw'
            obtain ⟨⟨dq, osq⟩, hw''⟩ := hw'
            subst hw''
            have HW4 := Lib.hid (HW2.out.regrown dq osq)
            generalize grow (redrawn w2 dq) osq = w4 at HW4 ⊢
            clear q1 q2 qc HW2
            have HE : Hid (d1 = T) := Lib.hid (by
              have h0 := sift_stop HCh.out (by rw [HIr.out, HIc.out]; exact HD.out)
              rw [← h0]
              exact HO.out)
            clear HO HCh HIc HIr HD
            go_wp2
            (try simp only [Exit.inBlock, Exit.then])
            refine bodyPost_ret (results_none rfl _ _ _) rfl ?_
            exact ⟨rfl, by rw [← HE.out]; exact HW4.out⟩
        · have hd : decide (cf d1[jc]! d1[jd]! < 0) = false := by simpa using hlt2
          have HD : Hid (ltc cf d1[jc]! d1[jd]! = false) := Lib.hid hd
          obtain ⟨x, hx⟩ : ∃ x, d1[jc]! = x := ⟨_, rfl⟩
          obtain ⟨y, hy⟩ : ∃ y, d1[jd]! = y := ⟨_, rfl⟩
          rw [hx, hy] at qc hd
          rw [hx] at q1
          rw [hy] at q2
          clear hx hy hlt2 
          go_wp2
          refine wp_region_quiet_below (by kernel_rfl) (by kernel_rfl) ?_
          repeat (quiet_step (exact qc _ _))
          refine wpQuiet_nil ?_
          intro _ hw'
          obtain ⟨⟨dq, osq⟩, hw''⟩ := hw'
          subst hw''
          have HW2 := Lib.hid (HW.out.regrown dq osq)
          generalize grow (redrawn wr dq) osq = w2 at HW2 ⊢
          clear q1 q2 qc HW
          have HDa := HD
          clear HD ejc ejd wjc wjd
          have HCh : Hid (Child (ltc cf) hi a r d1 c) := Lib.hid ⟨by omega, Or.inl ⟨HCc.out.symm, fun h => by have h2 := h.2; rw [HJc.out, HJd.out, HDa.out] at h2; exact absurd h2 (by simp)⟩⟩
          obtain ⟨ic, hic⟩ : ∃ ic, a + c = ic := ⟨_, rfl⟩
          obtain ⟨ir, hir⟩ : ∃ ir, a + r = ir := ⟨_, rfl⟩
          have HIc := Lib.hid hic
          have HIr := Lib.hid hir
          have ec : (a : Int) + (c : Int) = (ic : Int) := by omega
          have er : (a : Int) + (r : Int) = (ir : Int) := by omega
          have hin : ic < n := by omega
          have hir2 : ir < n := by omega
          have wc : IntKind.i64.wrap (ic : Int) = (ic : Int) := IntWalk.i64_in _ (by omega)
          have wr_ : IntKind.i64.wrap (ir : Int) = (ir : Int) := IntWalk.i64_in _ (by omega)
          clear hic hir
          have q1 := cell_regrown (HW2.out.cell (ir) hir2)
          have q2 := cell_regrown (HW2.out.cell (ic) hin)
          have qc := fun q os => HS.out.at_ HW2.out (ir) (ic) hir2 hin q os
          by_cases hlt2 : cf d1[ir]! d1[ic]! < 0
          · have hd : decide (cf d1[ir]! d1[ic]! < 0) = true := by simpa using hlt2
            have HD : Hid (ltc cf d1[ir]! d1[ic]! = true) := Lib.hid hd
            obtain ⟨x, hx⟩ : ∃ x, d1[ir]! = x := ⟨_, rfl⟩
            obtain ⟨y, hy⟩ : ∃ y, d1[ic]! = y := ⟨_, rfl⟩
            rw [hx, hy] at qc hd
            rw [hx] at q1
            rw [hy] at q2
            clear hx hy hlt2 
            go_wp2
            refine wp_region_quiet_below (by kernel_rfl) (by kernel_rfl) ?_
            repeat (quiet_step (exact qc _ _))
            refine wpQuiet_nil ?_
            intro _ hw'
            obtain ⟨⟨dq, osq⟩, hw''⟩ := hw'
            subst hw''
            have HW4 := Lib.hid (HW2.out.regrown dq osq)
            generalize grow (redrawn w2 dq) osq = w4 at HW4 ⊢
            clear q1 q2 qc HW2
            have HO2 : Hid (siftDown (ltc cf) hi a c (swp d1 ir ic) = T) := Lib.hid (by
              have h0 := sift_go HCh.out (by rw [HIr.out, HIc.out]; exact HD.out)
              rw [HIr.out, HIc.out] at h0
              rw [← h0]
              exact HO.out)
            clear HO HCh HIc HIr HD
            have c1 := HW4.out.cell (ir) hir2
            have c2 := HW4.out.cell (ic) hin
            have c3 := HW4.out.cell3 (ir) (ic) hir2 hin
            have f1 := HW4.out.frozen (ir)
            have f2 := HW4.out.frozen (ic)
            have HW5 := Lib.hid (HW4.out.swap (ir) (ic) hir2 hin)
            obtain ⟨x, hx⟩ : ∃ x, d1[ir]! = x := ⟨_, rfl⟩
            obtain ⟨y, hy⟩ : ∃ y, d1[ic]! = y := ⟨_, rfl⟩
            rw [hx, hy] at HW5
            rw [hx] at c1
            rw [hy] at c2 c3
            clear hx hy
            go_wp2
            go_big_region_o
            clear c1 c2 c3 f1 f2 HW4
            generalize ((w4.setCell ⟨P, ir, none⟩ (.int .i64 (y : Int))).setCell ⟨P, ic, none⟩ (.int .i64 (x : Int))).drew = w5 at HW5 ⊢

            go_wp2
            go_roundw
            case rel => exact ⟨c, _, by omega, by first | rfl | go_num, HW5.out, HO2.out⟩
            case measure => simp [intOf]; omega
          · have hd : decide (cf d1[ir]! d1[ic]! < 0) = false := by simpa using hlt2
            have HD : Hid (ltc cf d1[ir]! d1[ic]! = false) := Lib.hid hd
            obtain ⟨x, hx⟩ : ∃ x, d1[ir]! = x := ⟨_, rfl⟩
            obtain ⟨y, hy⟩ : ∃ y, d1[ic]! = y := ⟨_, rfl⟩
            rw [hx, hy] at qc hd
            rw [hx] at q1
            rw [hy] at q2
            clear hx hy hlt2 
            go_wp2
            refine wp_region_quiet_below (by kernel_rfl) (by kernel_rfl) ?_
            repeat (quiet_step (exact qc _ _))
            refine wpQuiet_nil ?_
            intro _ hw'
            obtain ⟨⟨dq, osq⟩, hw''⟩ := hw'
            subst hw''
            have HW4 := Lib.hid (HW2.out.regrown dq osq)
            generalize grow (redrawn w2 dq) osq = w4 at HW4 ⊢
            clear q1 q2 qc HW2
            have HE : Hid (d1 = T) := Lib.hid (by
              have h0 := sift_stop HCh.out (by rw [HIr.out, HIc.out]; exact HD.out)
              rw [← h0]
              exact HO.out)
            clear HO HCh HIc HIr HD
            go_wp2
            (try simp only [Exit.inBlock, Exit.then])
            refine bodyPost_ret (results_none rfl _ _ _) rfl ?_
            exact ⟨rfl, by rw [← HE.out]; exact HW4.out⟩
      · have hd1 : decide ((c1 : Int) < (hi : Int)) = false := by simp; omega
        have hd2 : decide (c1 < hi) = false := by simp; omega
        go_wp2
        go_big_region_o
        have HW2 := Lib.hid HW.out.drew
        generalize wr.drew = w2 at HW2 ⊢
        clear HW
        have HCh : Hid (Child (ltc cf) hi a r d1 c) := Lib.hid ⟨by omega, Or.inl ⟨HCc.out.symm, fun h => h1 (by have := HC1.out; omega)⟩⟩
        obtain ⟨ic, hic⟩ : ∃ ic, a + c = ic := ⟨_, rfl⟩
        obtain ⟨ir, hir⟩ : ∃ ir, a + r = ir := ⟨_, rfl⟩
        have HIc := Lib.hid hic
        have HIr := Lib.hid hir
        have ec : (a : Int) + (c : Int) = (ic : Int) := by omega
        have er : (a : Int) + (r : Int) = (ir : Int) := by omega
        have hin : ic < n := by omega
        have hir2 : ir < n := by omega
        have wc : IntKind.i64.wrap (ic : Int) = (ic : Int) := IntWalk.i64_in _ (by omega)
        have wr_ : IntKind.i64.wrap (ir : Int) = (ir : Int) := IntWalk.i64_in _ (by omega)
        clear hic hir
        have q1 := cell_regrown (HW2.out.cell (ir) hir2)
        have q2 := cell_regrown (HW2.out.cell (ic) hin)
        have qc := fun q os => HS.out.at_ HW2.out (ir) (ic) hir2 hin q os
        by_cases hlt2 : cf d1[ir]! d1[ic]! < 0
        · have hd : decide (cf d1[ir]! d1[ic]! < 0) = true := by simpa using hlt2
          have HD : Hid (ltc cf d1[ir]! d1[ic]! = true) := Lib.hid hd
          obtain ⟨x, hx⟩ : ∃ x, d1[ir]! = x := ⟨_, rfl⟩
          obtain ⟨y, hy⟩ : ∃ y, d1[ic]! = y := ⟨_, rfl⟩
          rw [hx, hy] at qc hd
          rw [hx] at q1
          rw [hy] at q2
          clear hx hy hlt2 
          go_wp2
          refine wp_region_quiet_below (by kernel_rfl) (by kernel_rfl) ?_
          repeat (quiet_step (exact qc _ _))
          refine wpQuiet_nil ?_
          intro _ hw'
          obtain ⟨⟨dq, osq⟩, hw''⟩ := hw'
          subst hw''
          have HW4 := Lib.hid (HW2.out.regrown dq osq)
          generalize grow (redrawn w2 dq) osq = w4 at HW4 ⊢
          clear q1 q2 qc HW2
          have HO2 : Hid (siftDown (ltc cf) hi a c (swp d1 ir ic) = T) := Lib.hid (by
            have h0 := sift_go HCh.out (by rw [HIr.out, HIc.out]; exact HD.out)
            rw [HIr.out, HIc.out] at h0
            rw [← h0]
            exact HO.out)
          clear HO HCh HIc HIr HD
          have c1 := HW4.out.cell (ir) hir2
          have c2 := HW4.out.cell (ic) hin
          have c3 := HW4.out.cell3 (ir) (ic) hir2 hin
          have f1 := HW4.out.frozen (ir)
          have f2 := HW4.out.frozen (ic)
          have HW5 := Lib.hid (HW4.out.swap (ir) (ic) hir2 hin)
          obtain ⟨x, hx⟩ : ∃ x, d1[ir]! = x := ⟨_, rfl⟩
          obtain ⟨y, hy⟩ : ∃ y, d1[ic]! = y := ⟨_, rfl⟩
          rw [hx, hy] at HW5
          rw [hx] at c1
          rw [hy] at c2 c3
          clear hx hy
          go_wp2
          go_big_region_o
          clear c1 c2 c3 f1 f2 HW4
          generalize ((w4.setCell ⟨P, ir, none⟩ (.int .i64 (y : Int))).setCell ⟨P, ic, none⟩ (.int .i64 (x : Int))).drew = w5 at HW5 ⊢

          go_wp2
          go_roundw
          case rel => exact ⟨c, _, by omega, by first | rfl | go_num, HW5.out, HO2.out⟩
          case measure => simp [intOf]; omega
        · have hd : decide (cf d1[ir]! d1[ic]! < 0) = false := by simpa using hlt2
          have HD : Hid (ltc cf d1[ir]! d1[ic]! = false) := Lib.hid hd
          obtain ⟨x, hx⟩ : ∃ x, d1[ir]! = x := ⟨_, rfl⟩
          obtain ⟨y, hy⟩ : ∃ y, d1[ic]! = y := ⟨_, rfl⟩
          rw [hx, hy] at qc hd
          rw [hx] at q1
          rw [hy] at q2
          clear hx hy hlt2 
          go_wp2
          refine wp_region_quiet_below (by kernel_rfl) (by kernel_rfl) ?_
          repeat (quiet_step (exact qc _ _))
          refine wpQuiet_nil ?_
          intro _ hw'
          obtain ⟨⟨dq, osq⟩, hw''⟩ := hw'
          subst hw''
          have HW4 := Lib.hid (HW2.out.regrown dq osq)
          generalize grow (redrawn w2 dq) osq = w4 at HW4 ⊢
          clear q1 q2 qc HW2
          have HE : Hid (d1 = T) := Lib.hid (by
            have h0 := sift_stop HCh.out (by rw [HIr.out, HIc.out]; exact HD.out)
            rw [← h0]
            exact HO.out)
          clear HO HCh HIc HIr HD
          go_wp2
          (try simp only [Exit.inBlock, Exit.then])
          refine bodyPost_ret (results_none rfl _ _ _) rfl ?_
          exact ⟨rfl, by rw [← HE.out]; exact HW4.out⟩
set_option maxHeartbeats 8000000 in
theorem heap_any {wb : World} {g : FuncId} {recv : Value} {n : Nat} {cf : Nat → Nat → Int} (S : Srt wb g recv n cf) (w : World) (P : Nat) (d : Array Nat) (hs : SrtW wb P n w d w) (a b : Nat) (hab : a < b) (hb : b ≤ n) :
    Calls Tryd.prog 86 #[.slice (some ⟨P, 0, none⟩) n n, .int .i64 a, .int .i64 b, .func (.func g) #[recv] #[]] w fun e w' => e = .returned (.tuple #[]) ∧ SrtW wb P n w (heapSort (ltc cf) d a b) w' := by
  have HSi := Lib.hid (fun W d (h : SrtW wb P n W d W) lo hi (ha : a + hi ≤ n) (hlo : lo ≤ 1000) => sift_any S W P d h lo hi a ha hlo)
  have mixed : Tryd.prog.follows Departure.mixedOrders = true := by kernel_rfl
  have hn := S.le
  have HW : Hid (SrtW wb P n w d w) := hs
  obtain ⟨T, hT⟩ : ∃ T, heapSort (ltc cf) d a b = T := ⟨_, rfl⟩
  obtain ⟨m, hm⟩ : ∃ m, b - a = m := ⟨_, rfl⟩
  obtain ⟨q, hq⟩ : ∃ q, (m - 1) / 2 = q := ⟨_, rfl⟩
  obtain ⟨B, hB⟩ : ∃ B, heapBuild (ltc cf) m a (q + 1) d = B := ⟨_, rfl⟩
  have HB := Lib.hid hB
  have HT : Hid (heapPop (ltc cf) a m B = T) := Lib.hid (by
    rw [← hT, ← hB, ← hq, ← hm]; rfl)
  rw [hT]
  have e1 : (b : Int) - (a : Int) = (m : Int) := by omega
  obtain ⟨m1, hm1⟩ : ∃ m1, m = m1 + 1 := ⟨m - 1, by omega⟩
  have e2 : (m : Int) - 1 = (m1 : Int) := by omega
  have e3 : (m1 : Int).tdiv 2 = (q : Int) := by rw [Int.tdiv_eq_ediv_of_nonneg (by omega)]; omega
  have e3' : (m1 : Int) / 2 = (q : Int) := by omega
  have hmn : a + m ≤ n := by omega
  have hqm : q ≤ 1000 := by omega
  have hm1k : m1 ≤ 1000 := by omega
  have w1 : IntKind.i64.wrap (m : Int) = (m : Int) := IntWalk.i64_in _ (by omega)
  have w2 : IntKind.i64.wrap (m1 : Int) = (m1 : Int) := IntWalk.i64_in _ (by omega)
  have w3 : IntKind.i64.wrap (q : Int) = (q : Int) := IntWalk.i64_in _ (by omega)
  have HM1 := Lib.hid hm1
  clear S hs hT hm hq hB hm1
  go_enter Tryd.func86, Tryd.ntmps86
  go_wp2
  go_loopw [11] (fun t wr => ∃ (k : Nat) (z : Int) (d1 : Array Nat), k ≤ q + 1 ∧ t = .int .i64 z ∧ z = (k : Int) - 1 ∧ SrtW wb P n w d1 wr ∧ heapBuild (ltc cf) m a k d1 = B) (fun t _ => (intOf t + 1).toNat)
  case atStart => exact ⟨q + 1, q, d, by omega, rfl, by omega, HW.out, HB.out⟩
  case round =>
    clear HB HW
    obtain ⟨k, z, d1, hk, rfl, hz, hW, hO⟩ := hrel
    have HW := Lib.hid hW
    have HO := Lib.hid hO
    clear hW hO
    rcases k with _ | j
    · obtain rfl : z = -1 := by omega
      have HE : Hid (d1 = B) := HO
      clear hz
      go_wp2
      have HT2 : Hid (heapPop (ltc cf) a m d1 = T) := Lib.hid (by rw [HE.out]; exact HT.out)
      clear HO HE HT
      go_loopw [12] (fun t wr => ∃ (k : Nat) (z : Int) (d1 : Array Nat), k ≤ m ∧ t = .int .i64 z ∧ z = (k : Int) - 1 ∧ SrtW wb P n w d1 wr ∧ heapPop (ltc cf) a k d1 = T) (fun t _ => (intOf t + 1).toNat)
      case atStart => exact ⟨m, m1, d1, by omega, rfl, by omega, HW.out, HT2.out⟩
      case round =>
        clear HT2 HW
        obtain ⟨k, z, d1, hk, rfl, hz, hW, hO⟩ := hrel
        have HW := Lib.hid hW
        have HO := Lib.hid hO
        clear hW hO
        rcases k with _ | j
        · obtain rfl : z = -1 := by omega
          have HE : Hid (d1 = T) := HO
          clear hz
          go_wp2
          go_end0
          exact ⟨rfl, by rw [← HE.out]; exact HW.out⟩
        · obtain rfl : z = (j : Int) := by omega
          have hdt : decide ((0 : Int) ≤ (j : Int)) = true := by simp
          obtain ⟨ij, hij⟩ : ∃ ij, a + j = ij := ⟨_, rfl⟩
          have HIj := Lib.hid hij
          have eij : (a : Int) + (j : Int) = (ij : Int) := by omega
          have han : a < n := by omega
          have hijn : ij < n := by omega
          have wij : IntKind.i64.wrap (ij : Int) = (ij : Int) := IntWalk.i64_in _ (by omega)
          have hjk : a + j ≤ n := by omega
          have HO2 : Hid (heapPop (ltc cf) a j (siftDown (ltc cf) j a 0 (swp d1 a ij)) = T) := Lib.hid (by rw [← hij]; exact HO.out)
          clear hij hz HO
          have c1 := HW.out.cell (a) han
          have c2 := HW.out.cell (ij) hijn
          have c3 := HW.out.cell3 (a) (ij) han hijn
          have f1 := HW.out.frozen (a)
          have f2 := HW.out.frozen (ij)
          have HW5 := Lib.hid (HW.out.swap (a) (ij) han hijn)
          obtain ⟨x, hx⟩ : ∃ x, d1[a]! = x := ⟨_, rfl⟩
          obtain ⟨y, hy⟩ : ∃ y, d1[ij]! = y := ⟨_, rfl⟩
          rw [hx, hy] at HW5
          rw [hx] at c1
          rw [hy] at c2 c3
          clear hx hy
          go_wp2
          go_big_region_o
          clear c1 c2 c3 f1 f2 HW
          generalize ((wr.setCell ⟨P, a, none⟩ (.int .i64 (y : Int))).setCell ⟨P, ij, none⟩ (.int .i64 (x : Int))).drew = w5 at HW5 ⊢

          obtain ⟨d2, hd2⟩ : ∃ d2, swp d1 a ij = d2 := ⟨_, rfl⟩
          rw [hd2] at HW5 HO2
          have HC := Lib.hid (HSi.out _ _ HW5.out.start 0 j hjk (by omega))
          clear hd2
          go_wp2_with fail
          refine HC.out.mono ?_
          rintro e w6 ⟨rfl, h6⟩
          have HW6 := Lib.hid (HW5.out.trans h6)
          clear h6 HC HW5
          go_wp2
          go_roundw
          case rel => exact ⟨j, (j : Int) - 1, _, by omega, by first | rfl | go_num, rfl, HW6.out, HO2.out⟩
          case measure => simp [intOf]
    · obtain rfl : z = (j : Int) := by omega
      have hdt : decide ((0 : Int) ≤ (j : Int)) = true := by simp
      have HO2 : Hid (heapBuild (ltc cf) m a j (siftDown (ltc cf) m a j d1) = B) := HO
      have HC := Lib.hid (HSi.out _ _ HW.out.start j m hmn (by omega))
      clear HO hz
      go_wp2_with fail
      refine HC.out.mono ?_
      rintro e w6 ⟨rfl, h6⟩
      have HW6 := Lib.hid (HW.out.trans h6)
      clear h6 HC HW
      go_wp2
      go_roundw
      case rel => exact ⟨j, (j : Int) - 1, _, by omega, by first | rfl | go_num, rfl, HW6.out, HO2.out⟩
      case measure => simp [intOf]
end Go.Proofs.YtmolkbmdfkeniaaDoor.Tn
