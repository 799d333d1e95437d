/- Pools of rows in pages (I): Len, Count, Free, All. -/
import Derived.Test.YtcfhchdkohjbfaaIh
namespace Go.Proofs.Ytcfhchdkohjbfaa.Kv.I
set_option maxRecDepth 100000
open Go.ChangeShapes Go.WideShapes Go.ChangeAt Go.RowKit Go.Proofs.Ytcfhchdkohjbfaa.Tn
open Go.ChangeMaps (setBlock heap_setBlock_same heap_setBlock_other)
def lenD (D : Doc Int) (id : Int) : Int × Int := match rowAt D id with
  | none => (0, 14)
  | some (L, _) => ((L.length : Int), 0)
/-- a page's count, of whatever number -/
def countD (D : Doc Int) (k : Int) : Int := if 0 ≤ k ∧ k < (D.pages : Int) then (cnt D.rows k.toNat : Int) else 0
/-- how many pages are free -/
def freeN (D : Doc Int) : Nat → Nat
  | 0 => 0
  | k + 1 => freeN D k + if cnt D.rows k = 0 then 1 else 0
theorem freeN_le (D : Doc Int) : ∀ k, freeN D k ≤ k
  | 0 => Nat.le_refl _
  | k + 1 => by
    have := freeN_le D k
    unfold freeN
    split <;> omega
section
variable {w : World} {τ : Tags} {g : Nat}
theorem len_nil (w : World) (id : Int) : Calls Try.prog 23 #[.pointer none, .int .i64 id] w fun e w' => e = .returned (.tuple #[.int .i64 0, .int .i64 2]) ∧ w = w' := by
  go_enter Try.func23, Try.ntmps23
  go_wp2_with fail
  refine (row_nil w id).mono ?_
  rintro e w1 ⟨rfl, rfl⟩
  go_wp2
  go_ret2
  exact ⟨rfl, rfl⟩
theorem lenD_any {D : Doc Int} (h : Pool kind w τ g D) (id : Int) : Calls Try.prog 23 #[.pointer (some ⟨g, 0, none⟩), .int .i64 id] w fun e w' => e = .returned (.tuple #[.int .i64 (lenD D id).1, .int .i64 (lenD D id).2]) ∧ w = w' := by
  obtain ⟨ly, pg, h0, hG⟩ := h
  cases hrow : rowAt D id with
  | none =>
    have e1 : lenD D id = (0, 14) := by unfold lenD; rw [hrow]
    rw [e1]
    have HN := Lib.hid (rowAt_no hrow)
    have H0 := Lib.hid h0
    clear e1 hrow h0 hG
    go_enter Try.func23, Try.ntmps23
    go_wp2_with fail
    refine (row_no H0.out id HN.out).mono ?_
    rintro e w1 ⟨rfl, rfl⟩
    go_wp2
    go_ret2
    exact ⟨rfl, rfl⟩
  | some r =>
    obtain ⟨L, P⟩ := r
    obtain ⟨k, rfl, hk⟩ := rowAt_yes hrow
    have e1 : lenD D (k : Int) = ((L.length : Int), 0) := by unfold lenD; rw [hrow]
    rw [e1]
    have HOp := Lib.hid ((isOpen_roOf D.rows k).2 ⟨_, hk⟩)
    have HRo := Lib.hid (roOf_at hk)
    have H0 := Lib.hid h0
    obtain ⟨r0, _⟩ := h0.rowC HRo.out
    obtain ⟨rb, hrb⟩ : ∃ rb, ly.rb k = rb := ⟨_, rfl⟩
    rw [hrb] at r0
    have HRb := Lib.hid hrb
    obtain ⟨N, hN⟩ : ∃ N, L.length = N := ⟨_, rfl⟩
    rw [hN] at r0 ⊢
    clear e1 hrow h0 hG hk hrb hN
    go_enter Try.func23, Try.ntmps23
    go_wp2_with fail
    refine (row_yes H0.out k HOp.out).mono ?_
    rintro e w1 ⟨rfl, rfl⟩
    rw [HRb.out]
    go_wp2
    go_ret2
    exact ⟨rfl, rfl⟩
theorem count_nil (w : World) (k : Int) : Calls Try.prog 17 #[.pointer none, .int .i64 k] w fun e w' => e = .returned (.int .i64 0) ∧ w = w' := by
  go_enter Try.func17, Try.ntmps17
  go_wp2
  go_ret
  exact ⟨rfl, rfl⟩
set_option maxHeartbeats 1000000 in
theorem countD_any {D : Doc Int} (h : Pool kind w τ g D) (k : Int) : Calls Try.prog 17 #[.pointer (some ⟨g, 0, none⟩), .int .i64 k] w fun e w' => e = .returned (.int .i64 (countD D k)) ∧ w = w' := by
  obtain ⟨ly, pg, h0, hG⟩ := h
  obtain ⟨_, c1, _, _⟩ := h0.cells
  have hpl := hG.plen
  rw [hpl] at c1
  by_cases h1 : k < 0
  · have e1 : countD D k = 0 := by unfold countD; rw [if_neg (by omega)]
    rw [e1]
    have d1 : decide (k < 0) = true := by simpa using h1
    clear h0 hG e1 hpl
    go_enter Try.func17, Try.ntmps17
    go_wp2
    go_ret
    exact ⟨rfl, rfl⟩
  · have d1 : decide (k < 0) = false := by simpa using h1
    by_cases h2 : (D.pages : Int) ≤ k
    · have e1 : countD D k = 0 := by unfold countD; rw [if_neg (by omega)]
      rw [e1]
      have d2 : decide ((D.pages : Int) ≤ k) = true := by simpa using h2
      clear h0 hG e1 hpl
      generalize D.pages = G at *
      go_enter Try.func17, Try.ntmps17
      go_wp2
      go_ret
      exact ⟨rfl, rfl⟩
    · have d2 : decide ((D.pages : Int) ≤ k) = false := by simpa using h2
      obtain ⟨m, rfl⟩ := Int.eq_ofNat_of_zero_le (show 0 ≤ k by omega)
      have hm : m < D.pages := by omega
      obtain ⟨c, hc⟩ : ∃ c, pg[m]? = some c := ⟨_, List.getElem?_eq_getElem (by rw [hpl]; exact hm)⟩
      have e1 : countD D (m : Int) = (c.2 : Int) := by unfold countD; rw [if_pos (by omega), hG.cnts m c hc]; rfl
      rw [e1]
      obtain ⟨_, q2⟩ := h0.page hc
      clear h0 hG e1 hpl hc
      generalize D.pages = G at *
      generalize c.2 = z at *
      go_enter Try.func17, Try.ntmps17
      go_wp2
      go_ret
      exact ⟨rfl, rfl⟩
theorem freeD_nil (w : World) : Calls Try.prog 18 #[.pointer none] w fun e w' => e = .returned (.int .i64 0) ∧ w = w' := by
  go_enter Try.func18, Try.ntmps18
  go_wp2
  go_ret
  exact ⟨rfl, rfl⟩
set_option maxHeartbeats 4000000 in
theorem freeD_any {D : Doc Int} (h : Pool kind w τ g D) : Calls Try.prog 18 #[.pointer (some ⟨g, 0, none⟩)] w fun e w' => e = .returned (.int .i64 (freeN D D.pages : Int)) ∧ Below w.heap.size w w' := by
  obtain ⟨ly, pg, h0, hG⟩ := h
  have H := Lib.hid h0
  have HG := Lib.hid hG
  obtain ⟨G, hGp⟩ : ∃ G, D.pages = G := ⟨_, rfl⟩
  have hG2 := hG.p1
  rw [hGp] at hG2 ⊢
  have HGp := Lib.hid hGp
  clear h0 hG hGp
  go_enter Try.func18, Try.ntmps18
  go_wp2_with fail
  refine (tellFree_any _ _).mono ?_
  rintro e w1 ⟨rfl, hw1⟩
  have HW1 := Lib.hid hw1
  clear hw1
  have hq : w1.heap[w.heap.size]? = some (.cells #[.pointer (some ⟨g, 0, none⟩)] 25 (0, 0)) := by rw [HW1.out]; exact alloc_new _ _
  have hbel : Below w.heap.size w w1 := by rw [HW1.out]; exact (Below.refl _ _).alloc (Nat.le_refl _) _
  have H1 := Lib.hid (H.out.below hbel)
  have HQ := Lib.hid hq
  have HBel := Lib.hid hbel
  clear H HW1 hq hbel
  obtain ⟨q, hqq⟩ : ∃ q, w.heap.size = q := ⟨_, rfl⟩
  rw [hqq] at HQ ⊢
  clear hqq
  obtain ⟨_, c1, _, _⟩ := H1.out.cells
  rw [HG.out.plen, HGp.out] at c1
  go_wp2
  go_loop [4, 15] (fun fv iv => ∃ k : Nat, k ≤ G ∧ iv = .int .i64 k ∧ fv = .int .i64 (freeN D k : Int)) (fun _ iv => G - (intOf iv).toNat)
  case atStart => exact ⟨0, by omega, rfl, rfl⟩
  case round =>
    obtain ⟨k, hk, rfl, rfl⟩ := hrel
    have hfl := freeN_le D k
    by_cases hkG : k < G
    · have hd : decide (k < G) = true := by simpa using hkG
      have hd2 : decide ((k : Int) < (G : Int)) = true := by simp; omega
      obtain ⟨c, hc⟩ : ∃ c, pg[k]? = some c := ⟨_, List.getElem?_eq_getElem (by rw [HG.out.plen, HGp.out]; exact hkG)⟩
      have hcn := HG.out.cnts k c hc
      have HC := Lib.hid hc
      clear hc
      by_cases h0 : c.2 = 0
      · have hB : (c.2 == 0) = true := by simpa using h0
        have HF : Hid (freeN D (k + 1) = freeN D k + 1) := Lib.hid (by show freeN D k + _ = _; rw [if_pos (by omega)])
        clear h0 hcn
        obtain ⟨f, hf⟩ : ∃ f, freeN D k = f := ⟨_, rfl⟩
        rw [hf] at HF hfl
        rw [hf]
        clear hf
        have hw : IntKind.i64.wrap ((f : Int) + 1) = ((f + 1 : Nat) : Int) := by rw [IntWalk.i64_in _ (by omega)]; omega
        go_wp2_with fail
        refine (free_any H1.out k c HC.out q HQ.out).mono ?_
        rintro e w2 ⟨rfl, rfl⟩
        rw [hB]
        clear hB
        go_wp2
        go_round
        case rel => exact ⟨k + 1, by omega, by go_num, by rw [HF.out]; go_num⟩
        case measure => simp [intOf]; omega
      · have hB : (c.2 == 0) = false := by simpa using h0
        have HF : Hid (freeN D (k + 1) = freeN D k) := Lib.hid (by show freeN D k + _ = _; rw [if_neg (by omega)]; rfl)
        clear h0 hcn
        obtain ⟨f, hf⟩ : ∃ f, freeN D k = f := ⟨_, rfl⟩
        rw [hf] at HF hfl
        rw [hf]
        clear hf
        go_wp2_with fail
        refine (free_any H1.out k c HC.out q HQ.out).mono ?_
        rintro e w2 ⟨rfl, rfl⟩
        rw [hB]
        clear hB
        go_wp2
        go_round
        case rel => exact ⟨k + 1, by omega, by go_num, by rw [HF.out]⟩
        case measure => simp [intOf]; omega
    · obtain rfl : k = G := by omega
      have hd : decide (k < k) = false := by simp
      have hd2 : decide ((k : Int) < (k : Int)) = false := by simp
      obtain ⟨f, hf⟩ : ∃ f, freeN D k = f := ⟨_, rfl⟩
      rw [hf]
      have HF := Lib.hid hf
      clear hf hfl
      go_wp2
      go_ret
      exact ⟨by rw [HF.out]; rfl, HBel.out⟩
/-- what All answers: a sequence over a row of its own -/
def SeqOf (w : World) (L : List Int) (e : Ending) (w' : World) : Prop := ∃ q sq cq b', e = .returned (.func (.func 67) #[] #[.pointer (some ⟨q, 0, none⟩)]) ∧ w'.heap[q]? = some (.cells #[.slice sq L.length cq] 40 (0, 0)) ∧ Row w' 3 (.slice sq L.length cq) b' (L.map kind.vl) ∧ Below w.heap.size w w'
theorem values_any (w : World) (sp : Option Addr) (n cap : Nat) : Calls Try.prog 59 #[.slice sp n cap] w fun e w' => e = .returned (.func (.func 67) #[] #[.pointer (some ⟨w.heap.size, 0, none⟩)]) ∧ w' = w.alloc (.cells #[.slice sp n cap] 40) := by
  go_enter Try.func59, Try.ntmps59
  go_wp2
  go_ret
  exact ⟨rfl, rfl⟩
theorem all_nil (w : World) (id : Int) : Calls Try.prog 41 #[.pointer none, .int .i64 id] w fun e w' => SeqOf w [] e w' := by
  go_enter Try.func41, Try.ntmps41
  go_wp2_with fail
  refine (row_nil w id).mono ?_
  rintro e w1 ⟨rfl, rfl⟩
  go_wp2_with fail
  refine (values_any w _ _ _).mono ?_
  rintro e w2 ⟨rfl, hw2⟩
  have HW := Lib.hid hw2
  clear hw2
  go_wp2
  go_ret
  exact ⟨w.heap.size, none, 0, none, rfl, by rw [HW.out]; exact alloc_new _ _, Row.nil _ _ _, by rw [HW.out]; exact (Below.refl _ _).alloc (Nat.le_refl _) _⟩
set_option maxHeartbeats 4000000 in
theorem all_any {D : Doc Int} (h : Pool kind w τ g D) (id : Int) : Calls Try.prog 41 #[.pointer (some ⟨g, 0, none⟩), .int .i64 id] w fun e w' => SeqOf w ((rowAt D id).elim [] (·.1)) e w' := by
  obtain ⟨ly, pg, h0, hG⟩ := h
  cases hrow : rowAt D id with
  | none =>
    have HN := Lib.hid (rowAt_no hrow)
    have H0 := Lib.hid h0
    clear hrow h0 hG
    show Calls _ _ _ _ fun e w' => SeqOf w [] e w'
    go_enter Try.func41, Try.ntmps41
    go_wp2_with fail
    refine (row_no H0.out id HN.out).mono ?_
    rintro e w1 ⟨rfl, rfl⟩
    go_wp2_with fail
    refine (values_any w _ _ _).mono ?_
    rintro e w2 ⟨rfl, hw2⟩
    have HW := Lib.hid hw2
    clear hw2
    go_wp2
    go_ret
    exact ⟨w.heap.size, none, 0, none, rfl, by rw [HW.out]; exact alloc_new _ _, Row.nil _ _ _, by rw [HW.out]; exact (Below.refl _ _).alloc (Nat.le_refl _) _⟩
  | some r =>
    obtain ⟨L, P⟩ := r
    obtain ⟨k, rfl, hk⟩ := rowAt_yes hrow
    have hOK := hG.row k L P hk
    have hsh := hOK.short hG.s0
    have hL64 : L.length ≤ 16384 := Nat.le_trans hsh.2 (Nat.le_trans (Nat.mul_le_mul hG.p1 hG.s1) (by decide))
    have HOp := Lib.hid ((isOpen_roOf D.rows k).2 ⟨_, hk⟩)
    have HRo := Lib.hid (roOf_at hk)
    have H0 := Lib.hid h0
    have HOK := Lib.hid hOK
    have HS0 := Lib.hid hG.s0
    obtain ⟨r0, _⟩ := h0.rowC HRo.out
    obtain ⟨rb, hrb⟩ : ∃ rb, ly.rb k = rb := ⟨_, rfl⟩
    rw [hrb] at r0
    have HRb := Lib.hid hrb
    obtain ⟨N, hN⟩ : ∃ N, L.length = N := ⟨_, rfl⟩
    rw [hN] at r0 hL64
    have HN := Lib.hid hN
    clear hrow h0 hG hk hrb hN hOK
    show Calls _ _ _ _ fun e w' => SeqOf w L e w'
    go_enter Try.func41, Try.ntmps41
    go_wp2_with fail
    refine (row_yes H0.out k HOp.out).mono ?_
    rintro e w1 ⟨rfl, rfl⟩
    rw [HRb.out]
    obtain ⟨cs0, hcs0⟩ : ∃ cs, madeCells (Value.cells (.int .i64 0)) N = cs := ⟨_, rfl⟩
    have HCs : Hid (cs0.size = N) := Lib.hid (by rw [← hcs0]; exact size_madeCells _ _)
    have HCs0 := Lib.hid hcs0
    clear hcs0
    obtain ⟨W1, hW1⟩ : ∃ W1, w.alloc (.cells cs0 3) = W1 := ⟨_, rfl⟩
    have HW1 := Lib.hid hW1
    clear hW1
    go_wp2_with (refine wpList_makeN 40 3 8 (.int .i64 0) Try.underlying40 infoE (by decide) rfl (.tmp 20) (.tmp 20) rfl N rfl rfl (by omega) ?_; rw [HCs0.out, HW1.out])
    have HI : Hid (W1.heap[w.heap.size]? = some (.cells cs0 3 (0, 0)) ∧ Below w.heap.size w W1) := Lib.hid (by rw [← HW1.out]; exact ⟨alloc_new _ _, (Below.refl _ _).alloc (Nat.le_refl _) _⟩)
    clear r0
    obtain ⟨B, hB⟩ : ∃ B, w.heap.size = B := ⟨_, rfl⟩
    rw [hB] at HI ⊢
    have HB := Lib.hid hB
    clear hB
    go_wp2
    go_loopw [24] (fun iv wr => ∃ (i : Nat) (cs : Array Value), i ≤ N ∧ iv = .int .i64 i ∧ wr.heap[B]? = some (.cells cs 3 (0, 0)) ∧ cs.size = N ∧ cs.toList.take i = (L.take i).map kind.vl ∧ Below B w wr) (fun iv _ => N - (intOf iv).toNat)
    case atStart => exact ⟨0, cs0, by omega, rfl, HI.out.1, HCs.out, by simp, HI.out.2⟩
    case round =>
      obtain ⟨i, cs, hi, rfl, k1, k2, k3, k4⟩ := hrel
      have K1 := Lib.hid k1
      have K2 := Lib.hid k2
      have K3 := Lib.hid k3
      have K4 := Lib.hid k4
      clear k1 k2 k3 k4
      by_cases hil : i < N
      · have hdl : decide (i < N) = true := by simpa using hil
        have hdl2 : decide ((i : Int) < (N : Int)) = true := by simp; omega
        obtain ⟨x, hx⟩ : ∃ x, L[i]? = some x := ⟨_, List.getElem?_eq_getElem (by rw [HN.out]; exact hil)⟩
        obtain ⟨k2, c, q1, q2, q3⟩ := HOK.out.th i x hx
        have hT := thing_any (H0.out.below (HB.out ▸ K4.out)) HS0.out k _ P HRo.out i k2 c x q1 q2 q3 (by omega)
        rw [HRb.out] at hT
        have HT := Lib.hid hT
        have HX := Lib.hid hx
        clear hx q1 q2 q3 hT
        go_wp2_with fail
        refine HT.out.mono ?_
        rintro e w2 ⟨rfl, q, rfl⟩
        have h1 : (wr.drewN q).heap[B]? = some (.cells cs 3 (0, 0)) := K1.out
        have q1 : (wr.drewN q).cell? ⟨B, i, none⟩ = some (cs[i]'(by rw [K2.out]; exact hil)) := by rw [cell_of_row _ _ _ _ _ _ h1]; simp [K2.out, hil]
        have q2 : (wr.drewN q).frozen? ⟨B, i, none⟩ = false := row_frozen h1
        have HW : Hid (((wr.drewN q).setCell ⟨B, i, none⟩ (.int .i64 x)).heap[B]? = some (.cells (cs.setIfInBounds i (.int .i64 x)) 3 (0, 0))) := Lib.hid (set_same _ _ _ _ _ _ h1)
        have HBl : Hid (Below B w ((wr.drewN q).setCell ⟨B, i, none⟩ (.int .i64 x))) := Lib.hid ((below_drewN K4.out q).setCell (Nat.le_refl _) _)
        clear h1
        go_wp2
        go_roundw
        case rel => exact ⟨i + 1, cs.setIfInBounds i (.int .i64 x), by omega, by go_num, HW.out, by simp [K2.out], by
          have hx := HX.out
          obtain ⟨hl, hxe⟩ := List.getElem?_eq_some_iff.1 hx
          have hl2 : i < (cs.setIfInBounds i (.int .i64 x)).toList.length := by simp [K2.out, hil]
          rw [List.take_succ_eq_append_getElem hl2, List.take_succ_eq_append_getElem hl, List.map_append]
          congr 1
          · rw [← K3.out]
            apply List.ext_getElem?
            intro j
            simp only [List.getElem?_take, Array.toList_setIfInBounds, List.getElem?_set]
            by_cases hj : j < i
            · rw [if_pos hj, if_pos hj, if_neg (by omega)]
            · rw [if_neg hj, if_neg hj]
          · simp [hxe]; rfl, HBl.out⟩
        case measure => simp [intOf]; omega
      · have hdl : decide (i < N) = false := by simpa using hil
        have hdl2 : decide ((i : Int) < (N : Int)) = false := by simp; omega
        obtain rfl : i = N := by omega
        go_wp2_with fail
        refine (values_any wr _ _ _).mono ?_
        rintro e w2 ⟨rfl, hw2⟩
        have HW := Lib.hid hw2
        clear hw2
        go_wp2
        go_ret
        have hb2 : Below wr.heap.size wr w2 := by rw [HW.out]; exact (Below.refl _ _).alloc (Nat.le_refl _) _
        have hBlt := (Array.getElem?_eq_some_iff.1 K1.out).1
        refine ⟨wr.heap.size, some ⟨B, 0, none⟩, i, some B, rfl, by rw [HN.out, HW.out]; exact alloc_new _ _, ?_, ?_⟩
        · have e : L.take i = L := List.take_of_length_le (by rw [HN.out]; exact Nat.le_refl _)
          have hk3 := K3.out
          rw [e] at hk3
          have hl : (L.map kind.vl).length = i := by rw [List.length_map]; exact HN.out
          rw [HN.out]
          exact Or.inr ⟨B, i, cs, rfl, by rw [hl], (hb2.block _ hBlt).trans K1.out, by rw [hl]; exact Nat.le_refl _, by unfold maxLen; omega, K2.out, by rw [hl]; exact hk3⟩
        · rw [HB.out]
          exact K4.out.trans (hb2.mono (Nat.le_of_lt hBlt))
end
end Go.Proofs.Ytcfhchdkohjbfaa.Kv.I
