import Derived.Test.YtdffbjjiojheoaaMb
import Derived.Lib.QuietBelow
namespace Go.Proofs.Ytdffbjjiojheoaa.Wg
set_option maxRecDepth 100000
open Go.ChangeShapes Go.WideShapes Go.ChangeAt Go.RowKit Go.Shelf Go.Proofs.Ytdffbjjiojheoaa.Tn
open Go.Sort (grow)

/-! ### a part's sizes and numbers, checked -/
/-- a part's box -/
structure Bb (w : World) (cs : Array Value) (W : World) : Prop where
  below : Below w.heap.size w W
  row : W.heap[w.heap.size]? = some (.cells cs 117 (0, 0))
theorem Bb.made (w : World) (cs : Array Value) : Bb w cs (w.alloc (.cells cs 117)) := ⟨(Below.refl _ _).alloc (Nat.le_refl _) _, heap_alloc_new _ _⟩
theorem Bb.later {w W W' : World} {cs : Array Value} (h : Bb w cs W) (hb : Below W.heap.size W W') : Bb w cs W' := ⟨h.below.trans (hb.mono h.below.size), (hb.block _ (Array.getElem?_eq_some_iff.1 h.row).1).trans h.row⟩
theorem Bb.at_ {w W : World} {cs : Array Value} (h : Bb w cs W) (j : Nat) : W.cell? ⟨w.heap.size, j, none⟩ = cs[j]? := by rw [cell_of_row _ _ _ _ _ _ h.row]
set_option maxHeartbeats 8000000 in
theorem sizesV_any (w : World) (g k y r c b o : Nat) (vf : Value) (n : Nat) (sp : Option Addr) (cap : Nat) (hc : ClosOK w g vf ⟨b, o, none⟩) (hs : w.cell? ⟨b, o, none⟩ = some (.slice sp n cap)) (hr : r = 1) (hcn : c ≤ 1000000) :
    Calls Try.prog 67 #[.agg #[.int .i64 (k : Int), .int .i64 (y : Int), .int .i64 (r : Int), .int .i64 (c : Int), vf, .nilFunc], .pointer (some ⟨g, 0, none⟩)] w fun e w' => e = .returned (.int .i64 (if n = c then 0 else 13)) ∧ Below w.heap.size w w' := by
  obtain ⟨E, hE⟩ : ∃ E : Int, (if n = c then 0 else 13) = E := ⟨_, rfl⟩
  rw [hE]
  have HE := Lib.hid hE
  clear hE
  have HCw := Lib.hid hc
  obtain ⟨f, cap0, rfl, hcf, hcl⟩ := hc
  have HCl := Lib.hid hcl
  have HB := Lib.hid (Bb.made w #[.int .i64 (k : Int), .int .i64 (y : Int), .int .i64 (r : Int), .int .i64 (c : Int), .func (.func f) #[] cap0, .nilFunc])
  have n0 := neM_no
  have n1 := neM_yes
  have Hs := Lib.hid hs
  have Hr := Lib.hid hr
  clear hcl hs hr
  go_enter Try.func67, Try.ntmps67
  go_upto_region 1 with fail
  refine gen_w (Q := fun w => Code.wp _ _ _ _ w) _ (Bb w #[.int .i64 (k : Int), .int .i64 (y : Int), .int .i64 (r : Int), .int .i64 (c : Int), .func (.func f) #[] cap0, .nilFunc]) HB.out ?_
  clear HB
  intro w1 hx
  have HX := Lib.hid hx
  have k0 := cell_regrown (hx.at_ 0)
  have k1 := cell_regrown (hx.at_ 1)
  have k2 := cell_regrown (hx.at_ 2)
  have k3 := cell_regrown (hx.at_ 3)
  have k4 := cell_regrown (hx.at_ 4)
  have k5 := cell_regrown (hx.at_ 5)
  have ks := cell_regrown ((hx.below.cell (block_lt_of_cell Hs.out)).trans Hs.out)
  have qc := fun d os => Calls.regrown_of ((numbersV_any (grow (redrawn w1 d) os) g k y r c (.func (.func f) #[] cap0) b o ((HCw.out.later hx.below).later (below_regrown w1 d os))))
  clear hx
  go_wp2
  refine wp_region_quiet_below (by kernel_rfl) (by kernel_rfl) ?_
  repeat (quiet_step (exact qc _ _))
  refine wpQuiet_nil ?_
  intro _ hw'
  obtain ⟨⟨dq, osq⟩, hw''⟩ := hw'
  subst hw''
  have HX2 := Lib.hid (HX.out.later (below_regrown w1 dq osq))
  generalize grow (redrawn w1 dq) osq = w2 at HX2 ⊢
  clear k0 k1 k2 k3 k4 k5 ks qc HX
  have k5 := HX2.out.at_ 5
  have k2 := HX2.out.at_ 2
  have k3 := HX2.out.at_ 3
  simp only [List.getElem?_toArray, List.getElem?_cons_succ, List.getElem?_cons_zero] at k5 k2 k3
  obtain rfl := Hr.out
  have d0 : (((1 : Nat) : Int)) = 1 := rfl
  rw [d0] at k2
  by_cases hnc : n = c
  · subst hnc
    have HV : Hid (E = 0) := Lib.hid (by rw [← HE.out, if_pos rfl])
    have e1 : (n == n) = true := by simp
    have e2 : ((n : Int) == (n : Int)) = true := by simp
    have e3 : ((n : Int) != (n : Int)) = false := by simp
    clear d0
    go_wp2
    go_ret
    exact ⟨by rw [HV.out]; rfl, HX2.out.below⟩
  · have HV : Hid (E = 13) := Lib.hid (by rw [← HE.out, if_neg hnc])
    have e2 : ((n : Int) == (c : Int)) = false := by simp; omega
    have e3 : ((n : Int) != (c : Int)) = true := by simp; omega
    have e1 : (n == c) = false := by simpa using hnc
    clear d0 hnc
    go_wp2
    go_ret
    exact ⟨by rw [HV.out]; rfl, HX2.out.below⟩
set_option maxHeartbeats 8000000 in
theorem sizesM_any (w : World) (g k y r c b o : Nat) (mf : Value) (pr pc : Int) (n : Nat) (sp : Option Addr) (cap : Nat) (hc : ClosOK w g mf ⟨b, o, none⟩) (h0 : w.cell? ⟨b, o, none⟩ = some (.int .i64 pr)) (h1 : w.cell? ⟨b, o + 1, none⟩ = some (.int .i64 pc)) (hs : w.cell? ⟨b, o + 2, none⟩ = some (.slice sp n cap)) :
    Calls Try.prog 67 #[.agg #[.int .i64 (k : Int), .int .i64 (y : Int), .int .i64 (r : Int), .int .i64 (c : Int), .nilFunc, mf], .pointer (some ⟨g, 0, none⟩)] w fun e w' => e = .returned (.int .i64 (if pr = r ∧ pc = c then 0 else 13)) ∧ Below w.heap.size w w' := by
  obtain ⟨E, hE⟩ : ∃ E : Int, (if pr = r ∧ pc = c then 0 else 13) = E := ⟨_, rfl⟩
  rw [hE]
  have HE := Lib.hid hE
  clear hE
  have HCw := Lib.hid hc
  obtain ⟨f, cap0, rfl, hcf, hcl⟩ := hc
  have HCl := Lib.hid hcl
  have HB := Lib.hid (Bb.made w #[.int .i64 (k : Int), .int .i64 (y : Int), .int .i64 (r : Int), .int .i64 (c : Int), .nilFunc, .func (.func f) #[] cap0])
  have n0 := neM_no
  have n1 := neM_yes
  have Hs := Lib.hid hs
  have Hh0 := Lib.hid h0
  have Hh1 := Lib.hid h1
  clear hcl hs h0 h1
  go_enter Try.func67, Try.ntmps67
  go_upto_region 1 with fail
  refine gen_w (Q := fun w => Code.wp _ _ _ _ w) _ (Bb w #[.int .i64 (k : Int), .int .i64 (y : Int), .int .i64 (r : Int), .int .i64 (c : Int), .nilFunc, .func (.func f) #[] cap0]) HB.out ?_
  clear HB
  intro w1 hx
  have HX := Lib.hid hx
  have k0 := cell_regrown (hx.at_ 0)
  have k1 := cell_regrown (hx.at_ 1)
  have k2 := cell_regrown (hx.at_ 2)
  have k3 := cell_regrown (hx.at_ 3)
  have k4 := cell_regrown (hx.at_ 4)
  have k5 := cell_regrown (hx.at_ 5)
  have ks := cell_regrown ((hx.below.cell (block_lt_of_cell Hs.out)).trans Hs.out)
  have qc := fun d os => Calls.regrown_of ((numbersM_any (grow (redrawn w1 d) os) g k y r c (.func (.func f) #[] cap0) b o ((HCw.out.later hx.below).later (below_regrown w1 d os))))
  clear hx
  go_wp2
  refine wp_region_quiet_below (by kernel_rfl) (by kernel_rfl) ?_
  repeat (quiet_step (exact qc _ _))
  refine wpQuiet_nil ?_
  intro _ hw'
  obtain ⟨⟨dq, osq⟩, hw''⟩ := hw'
  subst hw''
  have HX2 := Lib.hid (HX.out.later (below_regrown w1 dq osq))
  generalize grow (redrawn w1 dq) osq = w2 at HX2 ⊢
  clear k0 k1 k2 k3 k4 k5 ks qc HX
  have k5 := HX2.out.at_ 5
  have k2 := HX2.out.at_ 2
  have k3 := HX2.out.at_ 3
  simp only [List.getElem?_toArray, List.getElem?_cons_succ, List.getElem?_cons_zero] at k5 k2 k3
  go_wp2_with fail
  refine (HCl.out w2 HX2.out.below).mono ?_
  rintro e w3 ⟨rfl, q, rfl⟩
  have HX3 := Lib.hid (HX2.out.later (drawn_below q))
  have p0 := (HX3.out.below.cell (block_lt_of_cell Hh0.out)).trans Hh0.out
  have p1 := (HX3.out.below.cell (block_lt_of_cell Hh1.out)).trans Hh1.out
  generalize w2.drewN q = w4 at HX3 p0 p1 ⊢
  have k2 := HX3.out.at_ 2
  have k3 := HX3.out.at_ 3
  simp only [List.getElem?_toArray, List.getElem?_cons_succ, List.getElem?_cons_zero] at k2 k3
  clear k5
  go_wp2
  go_quiet (fail)
  have HX5 := Lib.hid (HX3.out.later (drawn_below nq))
  have k2 := HX5.out.at_ 2
  have k3 := HX5.out.at_ 3
  simp only [List.getElem?_toArray, List.getElem?_cons_succ, List.getElem?_cons_zero] at k2 k3
  generalize w4.drewN nq = w5 at HX5 k2 k3 ⊢
  clear p0 p1
  by_cases hr : pr = r
  · have e2 : (pr == (r : Int)) = true := by simpa using hr
    have e3 : (pr != (r : Int)) = false := by simpa using hr
    by_cases hcc : pc = c
    · have e4 : (pc == (c : Int)) = true := by simpa using hcc
      have e5 : (pc != (c : Int)) = false := by simpa using hcc
      have HV : Hid (E = 0) := Lib.hid (by rw [← HE.out, if_pos ⟨hr, hcc⟩])
      clear hr hcc
      go_wp2
      go_ret
      exact ⟨by rw [HV.out]; rfl, HX5.out.below⟩
    · have e4 : (pc == (c : Int)) = false := by simpa using hcc
      have e5 : (pc != (c : Int)) = true := by simpa using hcc
      have HV : Hid (E = 13) := Lib.hid (by rw [← HE.out, if_neg (fun h => hcc h.2)])
      clear hr hcc
      go_wp2
      go_ret
      exact ⟨by rw [HV.out]; rfl, HX5.out.below⟩
  · have e2 : (pr == (r : Int)) = false := by simpa using hr
    have e3 : (pr != (r : Int)) = true := by simpa using hr
    have HV : Hid (E = 13) := Lib.hid (by rw [← HE.out, if_neg (fun h => hr h.1)])
    clear hr
    go_wp2
    go_ret
    exact ⟨by rw [HV.out]; rfl, HX5.out.below⟩
set_option maxHeartbeats 8000000 in
theorem numsV_any (w : World) (g k y r c b o : Nat) (vf : Value) (n : Nat) (l : List Int) (sp : Option Addr) (cap : Nat) (hc : ClosOK w g vf ⟨b, o, none⟩) (hs : w.cell? ⟨b, o, none⟩ = some (.slice sp n cap)) (hl : l.length = n) (hN : Nums w sp cap l) :
    Calls Try.prog 68 #[.agg #[.int .i64 (k : Int), .int .i64 (y : Int), .int .i64 (r : Int), .int .i64 (c : Int), vf, .nilFunc], .pointer (some ⟨g, 0, none⟩)] w fun e w' => e = .returned (.int .i64 (chkV l)) ∧ Below w.heap.size w w' := by
  obtain ⟨f, cap0, rfl, hcf, hcl⟩ := hc
  have HCl := Lib.hid hcl
  have HB := Lib.hid (Bb.made w #[.int .i64 (k : Int), .int .i64 (y : Int), .int .i64 (r : Int), .int .i64 (c : Int), .func (.func f) #[] cap0, .nilFunc])
  have n0 := neM_no
  have n1 := neM_yes
  have Hs := Lib.hid hs
  have HN := Lib.hid hN
  have Hl := Lib.hid hl
  clear hcl hs hN hl
  go_enter Try.func68, Try.ntmps68
  go_upto_region 1 with fail
  refine gen_w (Q := fun w => Code.wp _ _ _ _ w) _ (Bb w #[.int .i64 (k : Int), .int .i64 (y : Int), .int .i64 (r : Int), .int .i64 (c : Int), .func (.func f) #[] cap0, .nilFunc]) HB.out ?_
  clear HB
  intro w1 hx
  have HX := Lib.hid hx
  have k4 := hx.at_ 4
  have k5 := hx.at_ 5
  simp only [List.getElem?_toArray, List.getElem?_cons_succ, List.getElem?_cons_zero] at k4 k5
  clear hx
  go_wp2_with fail
  refine (HCl.out w1 HX.out.below).mono ?_
  rintro e w2 ⟨rfl, q, rfl⟩
  have HX3 := Lib.hid (HX.out.later (drawn_below q))
  have ps := (HX3.out.below.cell (block_lt_of_cell Hs.out)).trans Hs.out
  generalize w1.drewN q = w3 at HX3 ps ⊢
  clear k4 k5
  go_wp2_with fail
  refine (tcheck_any w3 sp cap n l Hl.out (Sl.below HN.out (Nat.le_refl _) HX3.out.below)).mono ?_
  rintro e w4 ⟨rfl, hb4⟩
  have HX4 := Lib.hid (HX3.out.later hb4)
  clear hb4
  go_wp2
  go_ret
  exact ⟨rfl, HX4.out.below⟩
set_option maxHeartbeats 8000000 in
theorem numsM_any (w : World) (g k y r c b o : Nat) (mf : Value) (pr pc : Int) (n : Nat) (l : List Int) (sp : Option Addr) (cap : Nat) (hc : ClosOK w g mf ⟨b, o, none⟩) (h0 : w.cell? ⟨b, o, none⟩ = some (.int .i64 pr)) (h1 : w.cell? ⟨b, o + 1, none⟩ = some (.int .i64 pc)) (hs : w.cell? ⟨b, o + 2, none⟩ = some (.slice sp n cap)) (hl : l.length = n) (hN : Nums w sp cap l) :
    Calls Try.prog 68 #[.agg #[.int .i64 (k : Int), .int .i64 (y : Int), .int .i64 (r : Int), .int .i64 (c : Int), .nilFunc, mf], .pointer (some ⟨g, 0, none⟩)] w fun e w' => e = .returned (.int .i64 (chkM pr pc l)) ∧ Below w.heap.size w w' := by
  obtain ⟨f, cap0, rfl, hcf, hcl⟩ := hc
  have HCl := Lib.hid hcl
  have HB := Lib.hid (Bb.made w #[.int .i64 (k : Int), .int .i64 (y : Int), .int .i64 (r : Int), .int .i64 (c : Int), .nilFunc, .func (.func f) #[] cap0])
  have n0 := neM_no
  have n1 := neM_yes
  have Hs := Lib.hid hs
  have HN := Lib.hid hN
  have Hl := Lib.hid hl
  have Hh0 := Lib.hid h0
  have Hh1 := Lib.hid h1
  clear hcl hs hN hl h0 h1
  go_enter Try.func68, Try.ntmps68
  go_upto_region 1 with fail
  refine gen_w (Q := fun w => Code.wp _ _ _ _ w) _ (Bb w #[.int .i64 (k : Int), .int .i64 (y : Int), .int .i64 (r : Int), .int .i64 (c : Int), .nilFunc, .func (.func f) #[] cap0]) HB.out ?_
  clear HB
  intro w1 hx
  have HX := Lib.hid hx
  have k4 := hx.at_ 4
  have k5 := hx.at_ 5
  simp only [List.getElem?_toArray, List.getElem?_cons_succ, List.getElem?_cons_zero] at k4 k5
  clear hx
  go_wp2_with fail
  refine (HCl.out w1 HX.out.below).mono ?_
  rintro e w2 ⟨rfl, q, rfl⟩
  have HX3 := Lib.hid (HX.out.later (drawn_below q))
  have ps := (HX3.out.below.cell (block_lt_of_cell Hs.out)).trans Hs.out
  have p0 := (HX3.out.below.cell (block_lt_of_cell Hh0.out)).trans Hh0.out
  have p1 := (HX3.out.below.cell (block_lt_of_cell Hh1.out)).trans Hh1.out
  generalize w1.drewN q = w3 at HX3 ps p0 p1 ⊢
  clear k4 k5
  go_wp2_with fail
  refine (mcheck_any w3 pr pc sp cap n l Hl.out (Sl.below HN.out (Nat.le_refl _) HX3.out.below)).mono ?_
  rintro e w4 ⟨rfl, hb4⟩
  have HX4 := Lib.hid (HX3.out.later hb4)
  clear hb4
  go_wp2
  go_ret
  exact ⟨rfl, HX4.out.below⟩
/-- what is known of a part that is told, beside a model -/
structure OkB (v : Wv) (b : Bl) : Prop where
  kind : b.k = 1 ∨ b.k = 11 ∨ b.k = 12 ∨ (b.y < v.nl ∧ 2 ≤ b.k ∧ b.k ≤ 10)
  one : isVec b.k = true → b.r = 1
  cols : b.c ≤ 64
theorem layB_ok {D I y : Nat} (hD : D ≤ 64) (hI : I ≤ 64) {b : Bl} (h : b ∈ layB D I y) : (isVec b.k = true → b.r = 1) ∧ b.c ≤ 64 := by
  simp only [layB, List.mem_cons, List.not_mem_nil, or_false] at h
  rcases h with rfl | rfl | rfl | rfl | rfl | rfl | rfl | rfl | rfl <;> exact ⟨fun h => by first | rfl | (cases h), by simpa using (by assumption)⟩
theorem laysB_ok {D I : Nat} (hD : D ≤ 64) (hI : I ≤ 64) : ∀ {L : Nat} {b : Bl}, b ∈ laysB D I L → (isVec b.k = true → b.r = 1) ∧ b.c ≤ 64
  | 0, b, h => by simp [laysB] at h
  | L + 1, b, h => by
    rw [laysB, List.mem_append] at h
    rcases h with h | h
    · exact laysB_ok hD hI h
    · exact layB_ok hD hI h
theorem blks_ok {V D L I : Nat} (hD : D ≤ 64) (hI : I ≤ 64) {v : Wv} (hL : L ≤ v.nl) {b : Bl} (h : b ∈ blks V D L I) : OkB v b := by
  refine ⟨?_, ?_, ?_⟩
  · rcases blks_mem h with h1 | h1 | h1 | ⟨h1, h2⟩
    · exact Or.inl h1
    · exact Or.inr (Or.inl h1)
    · exact Or.inr (Or.inr (Or.inl h1))
    · exact Or.inr (Or.inr (Or.inr ⟨by omega, h2⟩))
  · unfold blks at h
    simp only [List.mem_cons, List.mem_append, List.not_mem_nil, or_false] at h
    rcases h with rfl | h | rfl | rfl
    · exact fun h => by cases h
    · exact (laysB_ok hD hI h).1
    · exact fun _ => rfl
    · exact fun h => by cases h
  · unfold blks at h
    simp only [List.mem_cons, List.mem_append, List.not_mem_nil, or_false] at h
    rcases h with rfl | h | rfl | rfl
    · exact hD
    · exact (laysB_ok hD hI h).2
    · exact hD
    · exact hD
theorem sizesB_any (w : World) (n0 g : Nat) (v : Wv) (m : Md) (x : Bk) (hm : Model w g v m) (hn : v.nl ≤ 4) (hx : FnOK n0 w x) (hb : OkB v x.b) :
    Calls Try.prog 67 #[x.val, .pointer (some ⟨g, 0, none⟩)] w fun e w' => e = .returned (.int .i64 (szB x.b (m.part x.b.k x.b.y))) ∧ Below w.heap.size w w' := by
  have hp := hm.part hb.kind
  have hc := clos_of hm hn hx (fun h2 h3 => by rcases hb.kind with h | h | h | h <;> omega)
  obtain ⟨⟨k, y, r, c⟩, vf, mf⟩ := x
  have h1 := hb.one
  have h2 := hb.cols
  dsimp only at hp hc h1 h2 ⊢
  unfold szB
  cases hk : isVec k with
  | true =>
    obtain ⟨hc1, rfl⟩ := hc.1 hk
    unfold PartAt at hp
    rw [if_pos hk] at hp
    obtain ⟨sp, cap, hs, _⟩ := hp
    rw [if_pos rfl]
    exact sizesV_any w g k y r c _ _ vf _ sp cap hc1 hs (h1 hk) (by omega)
  | false =>
    obtain ⟨hc1, rfl⟩ := hc.2 hk
    unfold PartAt at hp
    rw [if_neg (by rw [hk]; decide)] at hp
    obtain ⟨q0, q1, sp, cap, hs, _⟩ := hp
    rw [if_neg (by decide)]
    exact sizesM_any w g k y r c _ _ mf _ _ _ sp cap hc1 q0 q1 hs
theorem numsB_any (w : World) (n0 g : Nat) (v : Wv) (m : Md) (x : Bk) (hm : Model w g v m) (hn : v.nl ≤ 4) (hx : FnOK n0 w x) (hb : OkB v x.b) :
    Calls Try.prog 68 #[x.val, .pointer (some ⟨g, 0, none⟩)] w fun e w' => e = .returned (.int .i64 (nmB x.b (m.part x.b.k x.b.y))) ∧ Below w.heap.size w w' := by
  have hp := hm.part hb.kind
  have hc := clos_of hm hn hx (fun h2 h3 => by rcases hb.kind with h | h | h | h <;> omega)
  obtain ⟨⟨k, y, r, c⟩, vf, mf⟩ := x
  dsimp only at hp hc ⊢
  unfold nmB
  cases hk : isVec k with
  | true =>
    obtain ⟨hc1, rfl⟩ := hc.1 hk
    unfold PartAt at hp
    rw [if_pos hk] at hp
    obtain ⟨sp, cap, hs, hN⟩ := hp
    rw [if_pos rfl]
    exact numsV_any w g k y r c _ _ vf _ _ sp cap hc1 hs rfl hN
  | false =>
    obtain ⟨hc1, rfl⟩ := hc.2 hk
    unfold PartAt at hp
    rw [if_neg (by rw [hk]; decide)] at hp
    obtain ⟨q0, q1, sp, cap, hs, hN⟩ := hp
    rw [if_neg (by decide)]
    exact numsM_any w g k y r c _ _ mf _ _ _ _ sp cap hc1 q0 q1 hs rfl hN
end Go.Proofs.Ytdffbjjiojheoaa.Wg
