import Derived.Test.YtkfkjapkcjidnaaWy
import Derived.Test.YtkfkjapkcjidnaaOr
import Derived.Test.YtkfkjapkcjidnaaBh
import Derived.Test.YtkfkjapkcjidnaaBk
import Derived.Test.YtkfkjapkcjidnaaCe
import Derived.Test.YtkfkjapkcjidnaaTf
import Derived.Test.YtkfkjapkcjidnaaWx
import Derived.Test.YtkfkjapkcjidnaaOs
import Derived.Test.YtkfkjapkcjidnaaQt
namespace Go.Proofs.Ytkfkjapkcjidnaa.Wg
set_option maxRecDepth 100000
open Go.ChangeShapes Go.WideShapes Go.ChangeAt Go.RowKit Go.Shelf Go.Proofs.Ytkfkjapkcjidnaa.Tn

/-! ### the document's parts -/
theorem partsC_length (l : List Bl) : (partsC l).length = l.length * 5 := by
  induction l with
  | nil => rfl
  | cons b l ih => simp only [partsC, List.flatMap_cons, List.length_append] at ih ⊢; rw [ih]; simp [partC]; omega
theorem partsC_at : ∀ (l : List Bl) (j m : Nat) (b : Bl), l[j]? = some b → m < 5 → (partsC l)[j * 5 + m]? = (partC b)[m]?
  | [], j, m, b, h, _ => by simp at h
  | a :: l, 0, m, b, h, hm => by
    obtain rfl : a = b := by simpa using h
    rw [partsC, List.flatMap_cons, List.getElem?_append_left (by simp [partC]; omega)]
    simp
  | a :: l, j + 1, m, b, h, hm => by
    rw [partsC, List.flatMap_cons, List.getElem?_append_right (by simp [partC]; omega)]
    have e : (j + 1) * 5 + m - (partC a).length = j * 5 + m := by simp [partC]; omega
    rw [e]
    exact partsC_at l j m b (by simpa using h) hm
theorem infoP : (Try.prog.info? 61).map (fun i => (i.zero, i.size, i.bytes)) = some (some (.agg #[.int .i64 0, .int .i64 0, .int .i64 0, .int .i64 0, .bool false]), 5, 40) := by kernel_rfl
theorem sizeP : (Try.prog.info? 61).map (·.size) = some 5 := by kernel_rfl
section
variable {W : World} {ops : Array Oper} {rest : List Oper} {o : Oper} {a : Act} {Q : Exit → Act → World → Prop}
theorem wpList_push_part (hgd : o.guard = none) (s x : Operand) (ho : o.op = .call { callee := .builtin .append, args := #[s, x], argTypes := #[77, 77] }) (base : Nat) (v : Value) (l : List Bl) (b : Bl) (m : Bool) (hm : (!isVec b.k) = m) (hs : a.eval s = v) (hown : PtsR base v l W)
    (hx : a.eval x = .slice (some ⟨W.heap.size, 0, none⟩) 1 1) (hn : l.length ≤ 999999)
    (h : ∀ v' w', PtsR base v' (l ++ [b]) w' → W.grownBy w' v.ownBlock → wpList Try.prog ops Q rest (a.put o.dst v') w') : wpList Try.prog ops Q (o :: rest) a (W.alloc (.cells #[.int .i64 (b.k : Int), .int .i64 (b.y : Int), .int .i64 (b.r : Int), .int .i64 (b.c : Int), .bool m] 61)) := by
  subst hm
  show wpList Try.prog ops Q (o :: rest) a (W.alloc (.cells (partC b).toArray 61))
  have hbase := hown.2
  have hb : Below W.heap.size W (W.alloc (.cells (partC b).toArray 61)) := (Below.refl _ _).alloc (Nat.le_refl _) _
  have ho' := hown.1.kept (row := none) (grown_of' hb none) (by cases v.ownBlock <;> simp)
  obtain ⟨i0, hi, hz0, hz1, hz2⟩ := info_parts infoP
  refine wpList_append_own _ hgd s x 77 ho base 61 i0 _ 5 40 Try.underlying77 hi hz0 hz1 hz2 rfl (by decide) v l.length (partsC l) hs ho' ⟨W.heap.size, 0, none⟩ 1 1 (partC b) hx rfl (fun j u hj => ?_) (fun u hu => ?_) (by unfold maxLen; omega) (by omega) (by simp; omega) ?_
  · rw [Tn.add_plain, Nat.zero_add, cell_of_row _ _ _ _ _ _ (heap_alloc_new _ _)]
    simpa using hj
  · simp [partC] at hu
    rcases hu with rfl | rfl | rfl | rfl | rfl <;> rfl
  · intro v' w' h1 h2 _
    have hsz := h2.size
    simp at hsz
    refine h v' w' ⟨?_, by omega⟩ ⟨h2.os, h2.tape, h2.output, by omega, fun k hk hne => ?_⟩
    · rw [List.length_append, List.length_singleton]
      unfold partsC at h1 ⊢
      rw [List.flatMap_append]
      simpa using h1
    · rw [h2.block k (by simp; omega) hne]
      exact hb.block k hk
end
/-- the sizes' function -/
structure Zz (w : World) (c : Cfg) (W : World) : Prop where
  below : Below w.heap.size w W
  cf : W.heap[w.heap.size]? = some (.cells c.cells 23 (0, 0))
  res : W.heap[w.heap.size + 1]? = some (.cells #[.int .i64 0, .int .i64 0, .int .i64 0, .int .i64 0, .int .i64 0, .int .i64 0] 67 (0, 0))
theorem Zz.made (w : World) (c : Cfg) : Zz w c ((w.alloc (.cells c.cells 23)).alloc (.cells #[.int .i64 0, .int .i64 0, .int .i64 0, .int .i64 0, .int .i64 0, .int .i64 0] 67)) := by
  refine ⟨((Below.refl _ _).alloc (Nat.le_refl _) _).alloc (by simp) _, ?_, ?_⟩
  · rw [heap_alloc_old _ _ (by simp)]
    exact heap_alloc_new _ _
  · have := heap_alloc_new (w.alloc (.cells c.cells 23)) (.cells #[.int .i64 0, .int .i64 0, .int .i64 0, .int .i64 0, .int .i64 0, .int .i64 0] 67)
    rwa [World.size_alloc] at this
theorem size_sizes : (Try.prog.info? 67).map (·.size) = some 6 := by kernel_rfl
set_option maxHeartbeats 4000000 in
theorem sizes_any (w : World) (c : Cfg) : Calls Try.prog 22 #[.agg c.cells] w fun e w' => e = .returned (.agg c.cells) ∧ Below w.heap.size w w' := by
  have HB := Lib.hid (Zz.made w c)
  have HO := Lib.hid (cfg_one c)
  unfold Cfg.cells at HB HO ⊢
  go_enter Try.func22, Try.ntmps22
  go_upto_region 1 with fail
  refine gen_w (Q := fun w => Code.wp _ _ _ _ w) _ (Zz w c) HB.out ?_
  clear HB
  intro W hx
  have HX := Lib.hid hx
  have HR := Lib.hid hx.res
  obtain ⟨c0, c1, c2, c3, c4, c5⟩ := cfg_cells hx.cf
  clear hx
  go_wp2_with (refine wpList_store_row rfl 67 (.tmp 2) (.tmp 15) rfl (w.heap.size + 1) c.cells rfl rfl 67 _ HR.out size_sizes rfl (cfg_one c) ?_)
  (try simp only [Exit.inBlock, Exit.then])
  refine bodyPost_ret (v := .agg c.cells) (results_cell_row Try.results22 _ _ (w.heap.size + 1) 67 c.cells (0, 0) _ rfl (setRow_heap _ _ _ _ _ _ HX.out.res) Try.underlying67 rfl size_sizes) rfl ?_
  exact ⟨rfl, HX.out.below.trans ⟨rfl, rfl, rfl, by simp, fun k hk => setRow_other W _ k _ (by omega)⟩⟩


/-! ### the document's Check of sizes -/
structure Rk (w : World) (c : Cfg) (W : World) : Prop where
  below : Below w.heap.size w W
  sz : W.heap[w.heap.size]? = some (.cells c.cells 67 (0, 0))
  mo : W.heap[w.heap.size + 1]? = some (.cells #[.int .i64 512, .int .i64 64, .int .i64 8, .int .i64 4, .int .i64 64, .int .i64 64] 66 (0, 0))
theorem Rk.made (w : World) (c : Cfg) : Rk w c ((w.alloc (.cells c.cells 67)).alloc (.cells #[.int .i64 512, .int .i64 64, .int .i64 8, .int .i64 4, .int .i64 64, .int .i64 64] 66)) := by
  refine ⟨((Below.refl _ _).alloc (Nat.le_refl _) _).alloc (by simp) _, ?_, ?_⟩
  · rw [heap_alloc_old _ _ (by simp)]
    exact heap_alloc_new _ _
  · have := heap_alloc_new (w.alloc (.cells c.cells 67)) (.cells #[.int .i64 512, .int .i64 64, .int .i64 8, .int .i64 4, .int .i64 64, .int .i64 64] 66)
    rwa [World.size_alloc] at this
theorem Rk.drew {w : World} {c : Cfg} {W : World} (h : Rk w c W) (n : Nat) : Rk w c (W.drewN n) := ⟨h.below.trans ⟨rfl, rfl, rfl, Nat.le_refl _, fun _ _ => rfl⟩, h.sz, h.mo⟩
theorem sz_cells {W : World} {b : Nat} {c : Cfg} {t : TypeId} (h : W.heap[b]? = some (.cells c.cells t (0, 0))) :
    W.cell? ⟨b, 0, none⟩ = some (.int .i64 c.v) ∧ W.cell? ⟨b, 1, none⟩ = some (.int .i64 c.d) ∧ W.cell? ⟨b, 2, none⟩ = some (.int .i64 c.h) ∧ W.cell? ⟨b, 3, none⟩ = some (.int .i64 c.l) ∧ W.cell? ⟨b, 4, none⟩ = some (.int .i64 c.x) ∧ W.cell? ⟨b, 5, none⟩ = some (.int .i64 c.i) := by
  refine ⟨?_, ?_, ?_, ?_, ?_, ?_⟩ <;> · rw [cell_of_row _ _ _ _ _ _ h]; rfl
set_option maxHeartbeats 8000000 in
theorem refChk_any (w : World) (c : Cfg) : Calls Try.prog 23 #[.agg c.cells] w fun e w' => e = .returned (.int .i64 c.chk) ∧ Below w.heap.size w w' := by
  have HB := Lib.hid (Rk.made w c)
  unfold Cfg.cells at HB ⊢
  go_enter Try.func23, Try.ntmps23
  go_upto_region 2 with fail
  refine gen_w (Q := fun w => Code.wp _ _ _ _ w) _ (Rk w c) HB.out ?_
  clear HB
  intro w1 hx
  have HX := Lib.hid hx
  clear hx
  go_wp2
  go_loopw [4] (fun iv wr => ∃ k : Nat, k ≤ 6 ∧ iv = .int .i64 k ∧ (∀ j, j < k → c.okAt j) ∧ Rk w c wr) (fun iv _ => 6 - (intOf iv).toNat)
  case atStart => exact ⟨0, by omega, rfl, fun j hj => by omega, HX.out⟩
  case round =>
    clear HX
    obtain ⟨k, hk, rfl, hok, hx⟩ := hrel
    have HOk := Lib.hid hok
    have HX := Lib.hid hx
    obtain ⟨c0, c1, c2, c3, c4, c5⟩ := sz_cells hx.sz
    have m0 : wr.cell? ⟨w.heap.size + 1, 0, none⟩ = some (.int .i64 512) := by rw [cell_of_row _ _ _ _ _ _ hx.mo]; rfl
    have m1 : wr.cell? ⟨w.heap.size + 1, 1, none⟩ = some (.int .i64 64) := by rw [cell_of_row _ _ _ _ _ _ hx.mo]; rfl
    have m2 : wr.cell? ⟨w.heap.size + 1, 2, none⟩ = some (.int .i64 8) := by rw [cell_of_row _ _ _ _ _ _ hx.mo]; rfl
    have m3 : wr.cell? ⟨w.heap.size + 1, 3, none⟩ = some (.int .i64 4) := by rw [cell_of_row _ _ _ _ _ _ hx.mo]; rfl
    have m4 : wr.cell? ⟨w.heap.size + 1, 4, none⟩ = some (.int .i64 64) := by rw [cell_of_row _ _ _ _ _ _ hx.mo]; rfl
    have m5 : wr.cell? ⟨w.heap.size + 1, 5, none⟩ = some (.int .i64 64) := by rw [cell_of_row _ _ _ _ _ _ hx.mo]; rfl
    clear hok hx
    rcases k with _ | _ | _ | _ | _ | _ | k
    · clear hk
      have ek : ((0 : Nat) : Int) = 0 := rfl
      rw [ek]
      clear ek
      by_cases h1 : c.v < 1
      · have d1 : decide (c.v < 1) = true := by simpa using h1
        have HE : Hid (c.chk = 10) := Lib.hid (Cfg.bad_of (k := 0) (by omega) (by simp only [Cfg.okAt]; omega))
        clear h1
        go_wp2
        go_quiet (fail)
        go_wp2
        go_ret
        exact ⟨by rw [HE.out]; rfl, (HX.out.drew _).below⟩
      · have d1 : decide (c.v < 1) = false := by simpa using h1
        by_cases h2 : 512 < c.v
        · have d2 : decide (512 < c.v) = true := by simpa using h2
          have HE : Hid (c.chk = 10) := Lib.hid (Cfg.bad_of (k := 0) (by omega) (by simp only [Cfg.okAt]; omega))
          clear h1 h2
          go_wp2
          go_quiet (fail)
          go_wp2
          go_ret
          exact ⟨by rw [HE.out]; rfl, (HX.out.drew _).below⟩
        · have d2 : decide (512 < c.v) = false := by simpa using h2
          have HO : Hid (c.okAt 0) := Lib.hid (by simp only [Cfg.okAt]; omega)
          clear h1 h2
          go_wp2
          go_quiet (fail)
          go_wp2
          go_roundw
          case rel => exact ⟨1, by omega, by go_num, fun j hj => by (rcases Nat.lt_or_ge j 0 with h | h; exact HOk.out j (by omega); obtain rfl : j = 0 := (by omega); exact HO.out), HX.out.drew _⟩
          case measure => simp [intOf]
    · clear hk
      simp only [Nat.zero_add]
      have ek : ((1 : Nat) : Int) = 1 := rfl
      rw [ek]
      clear ek
      by_cases h1 : c.d < 1
      · have d1 : decide (c.d < 1) = true := by simpa using h1
        have HE : Hid (c.chk = 10) := Lib.hid (Cfg.bad_of (k := 1) (by omega) (by simp only [Cfg.okAt]; omega))
        clear h1
        go_wp2
        go_quiet (fail)
        go_wp2
        go_ret
        exact ⟨by rw [HE.out]; rfl, (HX.out.drew _).below⟩
      · have d1 : decide (c.d < 1) = false := by simpa using h1
        by_cases h2 : 64 < c.d
        · have d2 : decide (64 < c.d) = true := by simpa using h2
          have HE : Hid (c.chk = 10) := Lib.hid (Cfg.bad_of (k := 1) (by omega) (by simp only [Cfg.okAt]; omega))
          clear h1 h2
          go_wp2
          go_quiet (fail)
          go_wp2
          go_ret
          exact ⟨by rw [HE.out]; rfl, (HX.out.drew _).below⟩
        · have d2 : decide (64 < c.d) = false := by simpa using h2
          by_cases h3 : c.d < 2
          · have d3 : decide (c.d < 2) = true := by simpa using h3
            have HE : Hid (c.chk = 10) := Lib.hid (Cfg.bad_of (k := 1) (by omega) (by simp only [Cfg.okAt]; omega))
            clear h1 h2 h3
            go_wp2
            go_quiet (fail)
            go_wp2
            go_ret
            exact ⟨by rw [HE.out]; rfl, (HX.out.drew _).below⟩
          · have d3 : decide (c.d < 2) = false := by simpa using h3
            have HO : Hid (c.okAt 1) := Lib.hid (by simp only [Cfg.okAt]; omega)
            clear h1 h2 h3
            go_wp2
            go_quiet (fail)
            go_wp2
            go_roundw
            case rel => exact ⟨2, by omega, by go_num, fun j hj => by (rcases Nat.lt_or_ge j 1 with h | h; exact HOk.out j (by omega); obtain rfl : j = 1 := (by omega); exact HO.out), HX.out.drew _⟩
            case measure => simp [intOf]
    · clear hk
      simp only [Nat.reduceAdd, Nat.zero_add]
      have ek : ((2 : Nat) : Int) = 2 := rfl
      rw [ek]
      clear ek
      by_cases h1 : c.h < 1
      · have d1 : decide (c.h < 1) = true := by simpa using h1
        have HE : Hid (c.chk = 10) := Lib.hid (Cfg.bad_of (k := 2) (by omega) (by simp only [Cfg.okAt]; omega))
        clear h1
        go_wp2
        go_quiet (fail)
        go_wp2
        go_ret
        exact ⟨by rw [HE.out]; rfl, (HX.out.drew _).below⟩
      · have d1 : decide (c.h < 1) = false := by simpa using h1
        by_cases h2 : 8 < c.h
        · have d2 : decide (8 < c.h) = true := by simpa using h2
          have HE : Hid (c.chk = 10) := Lib.hid (Cfg.bad_of (k := 2) (by omega) (by simp only [Cfg.okAt]; omega))
          clear h1 h2
          go_wp2
          go_quiet (fail)
          go_wp2
          go_ret
          exact ⟨by rw [HE.out]; rfl, (HX.out.drew _).below⟩
        · have d2 : decide (8 < c.h) = false := by simpa using h2
          have HO : Hid (c.okAt 2) := Lib.hid (by simp only [Cfg.okAt]; omega)
          clear h1 h2
          go_wp2
          go_quiet (fail)
          go_wp2
          go_roundw
          case rel => exact ⟨3, by omega, by go_num, fun j hj => by (rcases Nat.lt_or_ge j 2 with h | h; exact HOk.out j (by omega); obtain rfl : j = 2 := (by omega); exact HO.out), HX.out.drew _⟩
          case measure => simp [intOf]
    · clear hk
      simp only [Nat.reduceAdd, Nat.zero_add]
      have ek : ((3 : Nat) : Int) = 3 := rfl
      rw [ek]
      clear ek
      by_cases h1 : c.l < 1
      · have d1 : decide (c.l < 1) = true := by simpa using h1
        have HE : Hid (c.chk = 10) := Lib.hid (Cfg.bad_of (k := 3) (by omega) (by simp only [Cfg.okAt]; omega))
        clear h1
        go_wp2
        go_quiet (fail)
        go_wp2
        go_ret
        exact ⟨by rw [HE.out]; rfl, (HX.out.drew _).below⟩
      · have d1 : decide (c.l < 1) = false := by simpa using h1
        by_cases h2 : 4 < c.l
        · have d2 : decide (4 < c.l) = true := by simpa using h2
          have HE : Hid (c.chk = 10) := Lib.hid (Cfg.bad_of (k := 3) (by omega) (by simp only [Cfg.okAt]; omega))
          clear h1 h2
          go_wp2
          go_quiet (fail)
          go_wp2
          go_ret
          exact ⟨by rw [HE.out]; rfl, (HX.out.drew _).below⟩
        · have d2 : decide (4 < c.l) = false := by simpa using h2
          have HO : Hid (c.okAt 3) := Lib.hid (by simp only [Cfg.okAt]; omega)
          clear h1 h2
          go_wp2
          go_quiet (fail)
          go_wp2
          go_roundw
          case rel => exact ⟨4, by omega, by go_num, fun j hj => by (rcases Nat.lt_or_ge j 3 with h | h; exact HOk.out j (by omega); obtain rfl : j = 3 := (by omega); exact HO.out), HX.out.drew _⟩
          case measure => simp [intOf]
    · clear hk
      simp only [Nat.reduceAdd, Nat.zero_add]
      have ek : ((4 : Nat) : Int) = 4 := rfl
      rw [ek]
      clear ek
      by_cases h1 : c.x < 1
      · have d1 : decide (c.x < 1) = true := by simpa using h1
        have HE : Hid (c.chk = 10) := Lib.hid (Cfg.bad_of (k := 4) (by omega) (by simp only [Cfg.okAt]; omega))
        clear h1
        go_wp2
        go_quiet (fail)
        go_wp2
        go_ret
        exact ⟨by rw [HE.out]; rfl, (HX.out.drew _).below⟩
      · have d1 : decide (c.x < 1) = false := by simpa using h1
        by_cases h2 : 64 < c.x
        · have d2 : decide (64 < c.x) = true := by simpa using h2
          have HE : Hid (c.chk = 10) := Lib.hid (Cfg.bad_of (k := 4) (by omega) (by simp only [Cfg.okAt]; omega))
          clear h1 h2
          go_wp2
          go_quiet (fail)
          go_wp2
          go_ret
          exact ⟨by rw [HE.out]; rfl, (HX.out.drew _).below⟩
        · have d2 : decide (64 < c.x) = false := by simpa using h2
          have HO : Hid (c.okAt 4) := Lib.hid (by simp only [Cfg.okAt]; omega)
          clear h1 h2
          go_wp2
          go_quiet (fail)
          go_wp2
          go_roundw
          case rel => exact ⟨5, by omega, by go_num, fun j hj => by (rcases Nat.lt_or_ge j 4 with h | h; exact HOk.out j (by omega); obtain rfl : j = 4 := (by omega); exact HO.out), HX.out.drew _⟩
          case measure => simp [intOf]
    · clear hk
      simp only [Nat.reduceAdd, Nat.zero_add]
      have ek : ((5 : Nat) : Int) = 5 := rfl
      rw [ek]
      clear ek
      by_cases h1 : c.i < 1
      · have d1 : decide (c.i < 1) = true := by simpa using h1
        have HE : Hid (c.chk = 10) := Lib.hid (Cfg.bad_of (k := 5) (by omega) (by simp only [Cfg.okAt]; omega))
        clear h1
        go_wp2
        go_quiet (fail)
        go_wp2
        go_ret
        exact ⟨by rw [HE.out]; rfl, (HX.out.drew _).below⟩
      · have d1 : decide (c.i < 1) = false := by simpa using h1
        by_cases h2 : 64 < c.i
        · have d2 : decide (64 < c.i) = true := by simpa using h2
          have HE : Hid (c.chk = 10) := Lib.hid (Cfg.bad_of (k := 5) (by omega) (by simp only [Cfg.okAt]; omega))
          clear h1 h2
          go_wp2
          go_quiet (fail)
          go_wp2
          go_ret
          exact ⟨by rw [HE.out]; rfl, (HX.out.drew _).below⟩
        · have d2 : decide (64 < c.i) = false := by simpa using h2
          have HO : Hid (c.okAt 5) := Lib.hid (by simp only [Cfg.okAt]; omega)
          clear h1 h2
          go_wp2
          go_quiet (fail)
          go_wp2
          go_roundw
          case rel => exact ⟨6, by omega, by go_num, fun j hj => by (rcases Nat.lt_or_ge j 5 with h | h; exact HOk.out j (by omega); obtain rfl : j = 5 := (by omega); exact HO.out), HX.out.drew _⟩
          case measure => simp [intOf]
    · obtain rfl : k = 0 := by omega
      simp only [Nat.reduceAdd, Nat.zero_add]
      have ek : ((6 : Nat) : Int) = 6 := rfl
      rw [ek]
      clear ek hk m0 m1 m2 m3 m4 m5
      obtain ⟨hO, hE⟩ := Cfg.ok_all (c := c) (fun j hj => HOk.out j (by omega))
      have o1 := hO.d
      have o2 := hO.h
      have HE := Lib.hid hE
      have w1 : IntKind.i64.wrap (2 * c.h) = 2 * c.h := IntWalk.i64_in _ (by omega)
      have hz : (2 * c.h == 0) = false := by simp; omega
      have hz2 : (2 * c.h = 0) = False := by simp; omega
      have hz3 : c.h ≠ 0 := by omega
      have ht : c.d.tmod (2 * c.h) = c.d % (2 * c.h) := Int.tmod_eq_emod_of_nonneg (by omega)
      have hp := Int.emod_nonneg c.d (show 2 * c.h ≠ 0 by omega)
      have hq := Int.emod_lt_of_pos c.d (show 0 < 2 * c.h by omega)
      have w2 : IntKind.i64.wrap (c.d.tmod (2 * c.h)) = c.d.tmod (2 * c.h) := IntWalk.i64_in _ (by rw [ht]; omega)
      obtain ⟨R, hR⟩ : ∃ R, c.d.tmod (2 * c.h) = R := ⟨_, rfl⟩
      rw [hR] at HE w2
      clear hO hE ht hp hq o1 o2
      by_cases h0 : R = 0
      · subst h0
        have HE2 : Hid (c.chk = 0) := Lib.hid (by rw [HE.out]; rfl)
        clear HE
        go_wp2
        go_ret
        exact ⟨by rw [HE2.out]; rfl, HX.out.below⟩
      · have h1 : (R == 0) = false := by simpa using h0
        have h2 : (R != 0) = true := by simpa using h0
        have HE2 : Hid (c.chk = 13) := Lib.hid (by rw [HE.out, if_pos h0])
        clear HE h0
        go_wp2
        go_ret
        exact ⟨by rw [HE2.out]; rfl, HX.out.below⟩


/-! ### the document's Parts -/
theorem Pz.made (w : World) (c : Cfg) : Pz w c (w.alloc (.cells c.cells 67)) := ⟨(Below.refl _ _).alloc (Nat.le_refl _) _, heap_alloc_new _ _⟩
theorem Pz.lt {w : World} {c : Cfg} {W : World} (h : Pz w c W) : w.heap.size + 1 ≤ W.heap.size := (Array.getElem?_eq_some_iff.1 h.sz).1
theorem PtsR.new (W : World) (b : Bl) (base : Nat) (hb : base ≤ W.heap.size) : PtsR base (.slice (some ⟨W.heap.size, 0, none⟩) 1 1) [b] (W.alloc (.cells (partC b).toArray 61)) := by
  refine ⟨⟨by rfl, .inr ⟨W.heap.size, 1, (partC b).toArray, rfl, hb, heap_alloc_new _ _, Nat.le_refl _, by unfold maxLen; omega, rfl, ?_⟩⟩, by simp; omega⟩
  simp [partsC, partC]
theorem lay_take (D I y : Nat) : layB D I y = [⟨2, y, 1, D⟩, ⟨3, y, D, D⟩, ⟨4, y, D, D⟩, ⟨5, y, D, D⟩, ⟨6, y, D, D⟩, ⟨7, y, 1, D⟩, ⟨8, y, I, D⟩, ⟨9, y, I, D⟩, ⟨10, y, D, I⟩] := rfl
/-- the first parts: Embed, and so many layers -/
def fstB (V D I i : Nat) : List Bl := ⟨1, 0, V, D⟩ :: laysB D I i
/-- .. and of the next layer Norm1 and so many of the four -/
def fourB (V D I i q : Nat) : List Bl := fstB V D I i ++ [⟨2, i, 1, D⟩] ++ (List.range q).map fun j => ⟨3 + j, i, D, D⟩
theorem fourB_succ (V D I i q : Nat) : fourB V D I i (q + 1) = fourB V D I i q ++ [⟨3 + q, i, D, D⟩] := by
  unfold fourB
  rw [List.range_succ, List.map_append, List.append_assoc _ (List.map _ _)]
  rfl
theorem fstB_succ (V D I i : Nat) : fstB V D I (i + 1) = fourB V D I i 4 ++ [⟨7, i, 1, D⟩] ++ [⟨8, i, I, D⟩] ++ [⟨9, i, I, D⟩] ++ [⟨10, i, D, I⟩] := by
  simp [fourB, fstB, laysB, layB, List.range_succ]
theorem fstB_length (V D I i : Nat) : (fstB V D I i).length = 1 + 9 * i := by simp [fstB, laysB_length]; omega
theorem fourB_length (V D I i q : Nat) : (fourB V D I i q).length = 2 + 9 * i + q := by
  unfold fourB
  simp [fstB_length]
  omega
theorem blks_fst (V D L I : Nat) : blks V D L I = fstB V D I L ++ [⟨11, 0, 1, D⟩] ++ [⟨12, 0, V, D⟩] := by simp [blks, fstB]
set_option maxHeartbeats 8000000 in
theorem refParts_any (w : World) (V D L I : Nat) (ch cx : Int) (hL : L ≤ 4) : Calls Try.prog 26 #[.agg (Cfg.cells ⟨V, D, ch, L, cx, I⟩)] w fun e w' => ∃ v, e = .returned v ∧ PtsR w.heap.size v (blks V D L I) w' ∧ Below w.heap.size w w' := by
  have HB := Lib.hid (Pz.made w ⟨V, D, ch, L, cx, I⟩)
  have HL := Lib.hid hL
  clear hL
  unfold Cfg.cells at HB ⊢
  go_enter Try.func26, Try.ntmps26
  go_upto_region 1 with fail
  refine gen_w (Q := fun w => Code.wp _ _ _ _ w) _ (Pz w ⟨V, D, ch, L, cx, I⟩) HB.out ?_
  clear HB
  intro w1 hx
  have HX := Lib.hid hx
  obtain ⟨c0, c1, c2, c3, c4, c5⟩ := sz_cells hx.sz
  dsimp only at c0 c1 c2 c3 c4 c5
  clear hx
  go_upto_region 5 with fail
  have hn := PtsR.new w1 ⟨1, 0, V, D⟩ (w.heap.size + 1) HX.out.lt
  have hz := HX.out.later (((Below.refl _ w1).alloc HX.out.lt (.cells (partC ⟨1, 0, V, D⟩).toArray 61)))
  refine gen_w (Q := fun w => Code.wp _ _ _ _ w) _ (fun W => PtsR (w.heap.size + 1) (.slice (some ⟨w1.heap.size, 0, none⟩) 1 1) [⟨1, 0, V, D⟩] W ∧ Pz w ⟨V, D, ch, L, cx, I⟩ W) ⟨hn, hz⟩ ?_
  clear hn hz c0 c1 c2 c3 c4 c5
  rintro w2 ⟨hn, hz⟩
  have HN := Lib.hid hn
  have HZ := Lib.hid hz
  clear hn hz HX
  go_wp2
  go_loopw [6, 7, 8] (fun v iv _ wr => ∃ i : Nat, i ≤ L ∧ iv = .int .i64 i ∧ PtsR (w.heap.size + 1) v (fstB V D I i) wr ∧ Pz w ⟨V, D, ch, L, cx, I⟩ wr) (fun _ iv _ _ => L - (intOf iv).toNat)
  case atStart => exact ⟨0, by omega, rfl, HN.out, HZ.out⟩
  case round =>
    clear HN HZ
    obtain ⟨i, hi, rfl, hn, hz⟩ := hrel
    have HN := Lib.hid hn
    have HZ := Lib.hid hz
    obtain ⟨c0, c1, c2, c3, c4, c5⟩ := sz_cells hz.sz
    dsimp only at c0 c1 c2 c3 c4 c5
    clear hn hz
    by_cases hil : i < L
    · have hd1 : decide (i < L) = true := by simpa using hil
      have hd2 : decide ((i : Int) < (L : Int)) = true := by simp; omega
      have Hil := Lib.hid hil
      clear hil hi
      go_wp2_with (refine wpList_push_part rfl (.tmp 25) (.tmp 29) rfl (w.heap.size + 1) _ _ ⟨2, i, 1, D⟩ false rfl rfl HN.out rfl (by rw [fstB_length]; have := HL.out; have := Hil.out; omega) ?_; intro v3 w3 hn3 hg3; have HN3 := Lib.hid hn3; have HZ3 := Lib.hid (HZ.out.later (HN.out.below hg3)); clear hn3 hg3 c0 c1 c2 c3 c4 c5)
      go_loopw [6, 8] (fun v kv wr => ∃ q : Nat, q ≤ 4 ∧ kv = .int .i64 ((3 + q : Nat) : Int) ∧ PtsR (w.heap.size + 1) v (fourB V D I i q) wr ∧ Pz w ⟨V, D, ch, L, cx, I⟩ wr) (fun _ kv _ => 7 - (intOf kv).toNat)
      case atStart => exact ⟨0, by omega, rfl, by simpa [fourB] using HN3.out, HZ3.out⟩
      case round =>
        clear HN3 HZ3 HN HZ
        obtain ⟨q, hq, rfl, hn, hz⟩ := hrel
        have HN := Lib.hid hn
        have HZ := Lib.hid hz
        clear hn hz
        obtain ⟨K, hK⟩ : ∃ K : Nat, 3 + q = K := ⟨_, rfl⟩
        rw [hK]
        by_cases hq4 : q < 4
        · have hd3 : decide ((K : Int) ≤ 6) = true := by simp; omega
          have hd4 : decide (K ≤ 6) = true := by simp; omega
          have Hq := Lib.hid hq4
          have HK := Lib.hid hK
          have hK7 : K < 7 := by omega
          have hmt : (!isVec K) = true := by (have h3 : 3 ≤ K := by omega); simp [isVec]; omega
          clear hq hq4 hK
          go_wp2_with (refine wpList_push_part rfl (.tmp 35) (.tmp 41) rfl (w.heap.size + 1) _ _ ⟨K, i, D, D⟩ true hmt rfl HN.out rfl (by rw [fourB_length]; have := HL.out; have := Hil.out; have := Hq.out; omega) ?_; intro v3 w3 hn3 hg3; have HN3 := Lib.hid hn3; have HZ3 := Lib.hid (HZ.out.later (HN.out.below hg3)); clear hn3 hg3)
          go_roundw
          case rel => exact ⟨q + 1, by have := Hq.out; omega, by rw [← HK.out]; congr 1, by rw [fourB_succ, HK.out]; exact HN3.out, HZ3.out⟩
          case measure => simp [intOf]; have := HK.out; omega
        · obtain rfl : q = 4 := by omega
          obtain rfl : K = 7 := by omega
          rw [show (((7 : Nat) : Int)) = 7 from rfl]
          have hdf : decide ((7 : Int) ≤ 6) = false := by decide
          have hdf2 : decide ((7 : Nat) ≤ 6) = false := by decide
          have hi4 : i + 1 ≤ 4 := by have := HL.out; have := Hil.out; omega
          obtain ⟨A4, hA4⟩ : ∃ A, fourB V D I i 4 = A := ⟨_, rfl⟩
          have HA4 := Lib.hid hA4
          have HLn : Hid (A4.length ≤ 100) := Lib.hid (by rw [← hA4, fourB_length]; omega)
          rw [hA4] at HN
          clear hK hq4 hq hA4
          go_wp2_with (first
            | (refine wpList_push_part rfl (.tmp 43) (.tmp 47) rfl (w.heap.size + 1) _ _ ⟨7, i, 1, D⟩ false rfl rfl HN.out rfl (by have := HLn.out; omega) ?_; intro v3 w3 hn3 hg3; have HN3 := Lib.hid hn3; have HZ3 := Lib.hid (HZ.out.later (HN.out.below hg3)); clear hn3 hg3)
            | (refine wpList_push_part rfl (.tmp 49) (.tmp 54) rfl (w.heap.size + 1) _ _ ⟨8, i, I, D⟩ true rfl rfl HN3.out rfl (by have := HLn.out; simp; omega) ?_; intro v4 w4 hn4 hg4; have HN4 := Lib.hid hn4; have HZ4 := Lib.hid (HZ3.out.later (HN3.out.below hg4)); clear hn4 hg4)
            | (refine wpList_push_part rfl (.tmp 56) (.tmp 61) rfl (w.heap.size + 1) _ _ ⟨9, i, I, D⟩ true rfl rfl HN4.out rfl (by have := HLn.out; simp; omega) ?_; intro v5 w5 hn5 hg5; have HN5 := Lib.hid hn5; have HZ5 := Lib.hid (HZ4.out.later (HN4.out.below hg5)); clear hn5 hg5)
            | (refine wpList_push_part rfl (.tmp 63) (.tmp 68) rfl (w.heap.size + 1) _ _ ⟨10, i, D, I⟩ true rfl rfl HN5.out rfl (by have := HLn.out; simp; omega) ?_; intro v6 w6 hn6 hg6; have HN6 := Lib.hid hn6; have HZ6 := Lib.hid (HZ5.out.later (HN5.out.below hg6)); clear hn6 hg6))
          go_roundw
          case rel => exact ⟨i + 1, by have := Hil.out; omega, by go_num, by rw [fstB_succ, HA4.out]; exact HN6.out, HZ6.out⟩
          case measure => simp [intOf]; have := Hil.out; omega
    · obtain rfl : i = L := by omega
      have hdf : decide (i < i) = false := by simp
      have hdf2 : decide ((i : Int) < (i : Int)) = false := by simp
      have HLn : Hid ((fstB V D I i).length ≤ 100) := Lib.hid (by rw [fstB_length]; have := HL.out; omega)
      clear hil hi
      go_wp2_with (first
        | (refine wpList_push_part rfl (.tmp 70) (.tmp 73) rfl (w.heap.size + 1) _ _ ⟨11, 0, 1, D⟩ false rfl rfl HN.out rfl (by have := HLn.out; omega) ?_; intro v3 w3 hn3 hg3; have HN3 := Lib.hid hn3; have HZ3 := Lib.hid (HZ.out.later (HN.out.below hg3)); clear hn3 hg3)
        | (refine wpList_push_part rfl (.tmp 75) (.tmp 79) rfl (w.heap.size + 1) _ _ ⟨12, 0, V, D⟩ true rfl rfl HN3.out rfl (by have := HLn.out; simp; omega) ?_; intro v4 w4 hn4 hg4; have HN4 := Lib.hid hn4; have HZ4 := Lib.hid (HZ3.out.later (HN3.out.below hg4)); clear hn4 hg4))
      go_ret
      exact ⟨_, rfl, by rw [blks_fst]; exact HN4.out.mono (by omega), HZ4.out.below⟩

theorem PtsR.form {base : Nat} {v : Value} {l : List Bl} {W : World} (h : PtsR base v l W) (hl : 0 < l.length) : ∃ g cap, v = .slice (some ⟨g, 0, none⟩) l.length cap ∧ l.length ≤ cap ∧ base ≤ g ∧ PtsAt g l W ∧ g < W.heap.size := by
  rcases h.1.2 with ⟨_, h0⟩ | ⟨g, cap, cur, rfl, hb, hg, hn, hm, hs, ht⟩
  · omega
  · refine ⟨g, cap, rfl, hn, hb, fun j b hj => ?_, (Array.getElem?_eq_some_iff.1 hg).1⟩
    have hjl := (List.getElem?_eq_some_iff.1 hj).1
    have key : ∀ m, m < 5 → W.cell? ⟨g, j * 5 + m, none⟩ = (partC b)[m]? := fun m hm5 => by
      rw [cell_of_row _ _ _ _ _ _ hg, ← partsC_at l j m b hj hm5, ← ht, List.getElem?_take, if_pos (by omega)]
      simp
    exact ⟨key 0 (by omega), key 1 (by omega), key 2 (by omega), key 3 (by omega), key 4 (by omega)⟩
end Go.Proofs.Ytkfkjapkcjidnaa.Wg
namespace Go.Proofs.Ytkfkjapkcjidnaa.Bp
set_option maxRecDepth 100000
open Go.ChangeShapes Go.WideShapes Go.ChangeAt Go.RowKit Go.Proofs.Ytkfkjapkcjidnaa.Tn

/-! ### rows that grow by a pair -/
section
variable {a : Act} {o : Oper} {W W' : World}
theorem exec_atP (x y : Operand) (ho : o.op = .indexAddr 25 x y) (c k n cap i : Nat) (hx : a.eval x = .slice (some ⟨c, k, none⟩) n cap) (hy : a.eval y = .int .i64 (i : Int)) (hi : i < n) : (execOp a.eval o).run Try.prog W = .ok (.value (.pointer (some ⟨c, k + i * 2, none⟩))) W := by
  have hadd := Tn.add_plain c k (i * 2)
  have hs := size_bpair
  cases hq : Try.prog.info? 82 with
  | none => simp [hq] at hs
  | some j =>
    have hj : j.size = 2 := by simpa [hq] using hs
    unfold execOp
    simp [ho, hx, hy, Instr.indexAt, asIntOf, run_underlying Try.underlying25, sizeOf, typeInfo, hq, hj, hi, hadd]
theorem run_pfA (g k : Nat) : (Instr.fieldAt 82 (.pointer (some ⟨g, k, none⟩)) 0).run Try.prog W = .ok (.pointer (some ⟨g, k, none⟩)) W := by kernel_rfl
theorem run_pfB (g k : Nat) : (Instr.fieldAt 82 (.pointer (some ⟨g, k, none⟩)) 1).run Try.prog W = .ok (.pointer (some ⟨g, k + 1, none⟩)) W := by kernel_rfl
theorem exec_pfA (x : Operand) (ho : o.op = .fieldAddr 82 x 0) (g k : Nat) (hx : a.eval x = .pointer (some ⟨g, k, none⟩)) : (execOp a.eval o).run Try.prog W = .ok (.value (.pointer (some ⟨g, k, none⟩))) W := by
  unfold execOp
  simp only [ho, hx, Sem.run_bind, run_pfA, Result.andThen_ok, Sem.run_pure]
theorem exec_pfB (x : Operand) (ho : o.op = .fieldAddr 82 x 1) (g k : Nat) (hx : a.eval x = .pointer (some ⟨g, k, none⟩)) : (execOp a.eval o).run Try.prog W = .ok (.value (.pointer (some ⟨g, k + 1, none⟩))) W := by
  unfold execOp
  simp only [ho, hx, Sem.run_bind, run_pfB, Result.andThen_ok, Sem.run_pure]
theorem run_build2 (u v : Int) : (Instr.build 54 #[(0, .int .i64 u), (1, .int .i64 v)]).run Try.prog W = .ok (.agg #[.int .i64 u, .int .i64 v]) W := by kernel_rfl
theorem exec_build2 (x y : Operand) (ho : o.op = .build 54 #[(0, x), (1, y)]) (u v : Int) (hx : a.eval x = .int .i64 u) (hy : a.eval y = .int .i64 v) : (execOp a.eval o).run Try.prog W = .ok (.value (.agg #[.int .i64 u, .int .i64 v])) W := by
  unfold execOp
  simp [ho, hx, hy, run_build2]
theorem exec_slpair (x : Operand) (ho : o.op = .buildSlice 71 1 #[(0, x)]) (u v : Int) (hx : a.eval x = .agg #[.int .i64 u, .int .i64 v]) : (execOp a.eval o).run Try.prog W = .ok (.value (.slice (some ⟨W.heap.size, 0, none⟩) 1 1)) (W.alloc (.cells #[.int .i64 u, .int .i64 v] 54)) := by
  obtain ⟨i0, hi, hz0, hz1, hz2⟩ := info_parts info52
  unfold execOp
  have hr := run_buildSlice (P := Try.prog) W 71 54 1 #[(0, .agg #[.int .i64 u, .int .i64 v])] #[.int .i64 u, .int .i64 v] i0 _ Try.underlying71 hi hz0 (by rw [hz1]; decide) (by rw [hz1]; decide) (by rw [hz1]; kernel_rfl)
  have e : (#[((0 : Nat), x)].map fun (i, x) => (i, a.eval x)) = #[(0, .agg #[.int .i64 u, .int .i64 v])] := by simp [hx]
  simp only [ho, e, Sem.run_bind, hr, Result.andThen_ok, Sem.run_pure]
theorem exec_append_pair (s x : Operand) (ho : o.op = .call { callee := .builtin .append, args := #[s, x], argTypes := #[71, 71] }) (base : Nat) (v : Value) (n : Nat) (ps : List (Int × Int)) (p : Int × Int) (hs : a.eval s = v) (hown : W.ownsRow base 54 2 v n (pcs ps)) (b : Nat)
    (hx : a.eval x = .slice (some ⟨b, 0, none⟩) 1 1) (hc : W.cell? ⟨b, 0, none⟩ = some (.int .i64 p.1)) (hc2 : W.cell? ⟨b, 1, none⟩ = some (.int .i64 p.2)) (hn : n ≤ 999999) (hbase : base ≤ W.heap.size) :
    ∃ v' W', (execOp a.eval o).run Try.prog W = .ok (.value v') W' ∧ W'.ownsRow base 54 2 v' (n + 1) (pcs (ps ++ [p])) ∧ W.grownBy W' v.ownBlock := by
  obtain ⟨i0, hi, hz0, hz1, hz2⟩ := info_parts info52
  obtain ⟨v', w', hrun, hown', hg, _⟩ := run_append_own (P := Try.prog) W base 71 o.type 54 i0 _ 2 16 Try.underlying71 hi hz0 hz1 hz2 rfl (by decide) v n _ hown ⟨b, 0, none⟩ 1 1 (pv p) rfl (fun j u hj => by
      rcases j with _ | _ | j
      · obtain rfl : Value.int .i64 p.1 = u := by simpa [pv] using hj
        rw [Tn.add_plain]
        exact hc
      · obtain rfl : Value.int .i64 p.2 = u := by simpa [pv] using hj
        rw [Tn.add_plain]
        exact hc2
      · simp [pv] at hj) (fun u hu => by
      simp [pv] at hu
      rcases hu with rfl | rfl <;> rfl)
      (by unfold maxLen; omega) (by omega) hbase
  refine ⟨v', w', ?_, by unfold pcs at hown' ⊢; rw [List.flatMap_append]; simpa using hown', hg⟩
  simp [execOp, ho, resolve, invoke, builtin, hs, hx, hrun, Result.andThen]
theorem gives_append_pair {G : Value → World → Prop} (s x : Operand) (ho : o.op = .call { callee := .builtin .append, args := #[s, x], argTypes := #[71, 71] }) (base : Nat) (v : Value) (n : Nat) (ps : List (Int × Int)) (p : Int × Int) (hs : a.eval s = v) (hown : W.ownsRow base 54 2 v n (pcs ps)) (b : Nat)
    (hx : a.eval x = .slice (some ⟨b, 0, none⟩) 1 1) (hc : W.cell? ⟨b, 0, none⟩ = some (.int .i64 p.1)) (hc2 : W.cell? ⟨b, 1, none⟩ = some (.int .i64 p.2)) (hn : n ≤ 999999) (hbase : base ≤ W.heap.size) (h : ∀ v' W', W'.ownsRow base 54 2 v' (n + 1) (pcs (ps ++ [p])) → W.grownBy W' v.ownBlock → G v' W') : Gives Try.prog o a W G := by
  obtain ⟨v', W', hrun, h1, h2⟩ := exec_append_pair s x ho base v n ps p hs hown b hx hc hc2 hn hbase
  exact Tn.gives_val v' W' hrun (h v' W' h1 h2)
end
end Go.Proofs.Ytkfkjapkcjidnaa.Bp
namespace Go.Proofs.Ytkfkjapkcjidnaa.Wg
set_option maxRecDepth 100000
open Go.ChangeShapes Go.WideShapes Go.ChangeAt Go.RowKit Go.Shelf Go.Proofs.Ytkfkjapkcjidnaa.Tn
section
variable {W W' : World}
/-- two numbers in a slice of its own, behind lo -/
def OneS (n lo : Nat) (x y : Int) (W : World) (v : Value) : Prop := ∃ b, v = .slice (some ⟨b, 0, none⟩) n n ∧ lo ≤ b ∧ W.cell? ⟨b, 0, none⟩ = some (.int .i64 x) ∧ W.cell? ⟨b, 1, none⟩ = some (.int .i64 y)
theorem OneS.later {n lo : Nat} {x y : Int} {v : Value} (h : OneS n lo x y W v) (hb : Below W.heap.size W W') : OneS n lo x y W' v := by
  obtain ⟨b, e, hl, hc, hd⟩ := h
  exact ⟨b, e, hl, (hb.cell (block_lt_of_cell hc)).trans hc, (hb.cell (block_lt_of_cell hd)).trans hd⟩
theorem OneS.grown {n lo : Nat} {x y : Int} {v : Value} {row : Option Nat} (h : OneS n lo x y W v) (hg : W.grownBy W' row) (hr : ∀ k, row = some k → k < lo) : OneS n lo x y W' v := by
  obtain ⟨b, e, hl, hc, hd⟩ := h
  exact ⟨b, e, hl, Bp.cell_grown hg hc (fun k hk => by have := hr k hk; omega), Bp.cell_grown hg hd (fun k hk => by have := hr k hk; omega)⟩
theorem OneS.made {n lo : Nat} (x y : Int) (W : World) (ty : TypeId) (hl : lo ≤ W.heap.size) : OneS n lo x y (W.alloc (.cells #[.int .i64 x, .int .i64 y] ty)) (.slice (some ⟨W.heap.size, 0, none⟩) n n) :=
  ⟨_, rfl, hl, by rw [cell_of_row _ _ _ _ _ _ (heap_alloc_new _ _)]; rfl, by rw [cell_of_row _ _ _ _ _ _ (heap_alloc_new _ _)]; rfl⟩
def LeS (q : Nat) (row : Option Nat) (k : Nat) (w w' : World) : Prop := (k = q → w.grownBy w' row) ∧ (k ≠ q → Below w.heap.size w w')
theorem leS_b {q : Nat} {row : Option Nat} {k : Nat} {W1 W2 : World} (hk : k ≠ q) (hb : Below W1.heap.size W1 W2) : LeS q row k W1 W2 := ⟨fun h => absurd h hk, fun _ => hb⟩
theorem leS_g {q : Nat} {row : Option Nat} {W1 W2 : World} (hg : W1.grownBy W2 row) : LeS q row q W1 W2 := ⟨fun _ => hg, fun h => absurd rfl h⟩
def neS (q n : Nat) (e : TypeId) (sz base lo : Nat) (x y : Int) (m : Nat) (xs : List Value) (vals : Nat → Option Value) (j : Nat) (W : World) (v : Value) : Prop :=
  (j = q → OneS n lo x y W v) ∧ (j = q + 1 → W.ownsRow base e sz v m xs) ∧ ∀ z, vals j = some z → v = z
theorem neS_later {q n : Nat} {e : TypeId} {sz : Nat} {row : Option Nat} {base lo m j i : Nat} {x y : Int} {v : Value} {xs : List Value} {vals : Nat → Option Value} {W1 W2 : World} (hlo : ∀ k, row = some k → k < lo) (hne : j ≠ i) (hle : LeS (q + 1) row i W1 W2) (h : neS q n e sz base lo x y m xs vals j W1 v) : neS q n e sz base lo x y m xs vals j W2 v := by
  refine ⟨fun e => ?_, fun e => (h.2.1 e).kept (row := none) (Bp.grown_of (hle.2 (by omega)) none) (by cases v.ownBlock <;> simp), h.2.2⟩
  by_cases hi : i = q + 1
  · exact (h.1 e).grown (hle.1 hi) hlo
  · exact (h.1 e).later (hle.2 hi)
theorem FwI.big {w W : World} {v : Wv} (h : FwI w v W) : w.heap.size + 1 ≤ W.heap.size := (Array.getElem?_eq_some_iff.1 h.row).1
theorem FwI.grown {w : World} {v : Wv} (h : FwI w v W) {row : Option Nat} (hg : W.grownBy W' row) (hr : ∀ k, row = some k → w.heap.size + 1 ≤ k) : FwI w v W' := by
  have hbg := h.big
  refine ⟨⟨hg.os.trans h.below.os, hg.tape.trans h.below.tape, hg.output.trans h.below.output, Nat.le_trans h.below.size hg.size, fun k hk => ?_⟩, ?_⟩
  · rw [hg.block k (by omega) (fun e => by have := hr k e.symm; omega)]
    exact h.below.block k hk
  · rw [hg.block w.heap.size (by omega) (fun e => by have := hr w.heap.size e.symm; omega)]
    exact h.row
end
/-! ### what is wrong with a part -/
structure RrI (w : World) (P G : Array Value) (W : World) : Prop where
  below : Below w.heap.size w W
  rp : W.heap[w.heap.size]? = some (.cells P 61 (0, 0))
  rg : W.heap[w.heap.size + 1]? = some (.cells G 58 (0, 0))
theorem RrI.later {w W W' : World} {P G : Array Value} (h : RrI w P G W) (hb : Below W.heap.size W W') : RrI w P G W' := ⟨h.below.trans (hb.mono h.below.size), (hb.block _ (Array.getElem?_eq_some_iff.1 h.rp).1).trans h.rp, (hb.block _ (Array.getElem?_eq_some_iff.1 h.rg).1).trans h.rg⟩
theorem RrI.new (w : World) (P G : Array Value) : RrI w P G ((w.alloc (.cells P 61)).alloc (.cells G 58)) := by
  have h1 : Below w.heap.size w (w.alloc (.cells P 61)) := (Below.refl _ _).alloc (Nat.le_refl _) _
  have r1 := heap_alloc_new w (.cells P 61)
  have s1 : (w.alloc (.cells P 61)).heap.size = w.heap.size + 1 := by simp
  obtain ⟨w1, e1⟩ : ∃ w1, w.alloc (.cells P 61) = w1 := ⟨_, rfl⟩
  rw [e1] at h1 r1 s1 ⊢
  have h2 : Below w1.heap.size w1 (w1.alloc (.cells G 58)) := (Below.refl _ _).alloc (Nat.le_refl _) _
  have r2 := heap_alloc_new w1 (.cells G 58)
  rw [s1] at r2
  exact ⟨h1.trans (h2.mono h1.size), (h2.block _ (by omega)).trans r1, r2⟩
theorem RrI.cp {w W : World} {P G : Array Value} (h : RrI w P G W) (j : Nat) : W.cell? ⟨w.heap.size, j, none⟩ = P[j]? := by rw [cell_of_row _ _ _ _ _ _ h.rp]
theorem RrI.cg {w W : World} {P G : Array Value} (h : RrI w P G W) (j : Nat) : W.cell? ⟨w.heap.size + 1, j, none⟩ = G[j]? := by rw [cell_of_row _ _ _ _ _ _ h.rg]
set_option maxHeartbeats 4000000 in
theorem refRight_any (w : World) (b : Bl) (p : Mt) (sp : Option Addr) (cap n : Nat) (hn : p.l.length = n) (hl : Nums w sp cap p.l) :
    Calls Try.prog 27 #[.agg (prC (b.k : Int) (b.y : Int) (b.r : Int) (b.c : Int) (!isVec b.k)), .agg (gvC (if isVec b.k then 0 else p.r) (if isVec b.k then 0 else p.c) sp n cap)] w fun e w' => e = .returned (.int .i64 (partE b p)) ∧ Below w.heap.size w w' := by
  have HL := Lib.hid hl
  have HN := Lib.hid hn
  have hE : partE b p = if szB b p ≠ 0 then szB b p else nmB b p := rfl
  unfold szB nmB at hE
  obtain ⟨E, hEE⟩ : ∃ E, partE b p = E := ⟨_, rfl⟩
  rw [hEE] at hE ⊢
  clear hl hn hEE
  cases hv : isVec b.k with
  | true =>
    rw [hv] at hE
    simp only [if_true, HN.out] at hE
    have HX := Lib.hid (RrI.new w (prC (b.k : Int) (b.y : Int) (b.r : Int) (b.c : Int) false) (gvC 0 0 sp n cap))
    have HE := Lib.hid hE
    clear hE hv
    simp only [if_true, Bool.not_true]
    unfold prC gvC at HX ⊢
    go_enter Try.func27, Try.ntmps27
    go_upto_region 1 with fail
    refine gen_w (Q := fun w => Code.wp _ _ _ _ w) _ (RrI w _ _) HX.out ?_
    clear HX
    intro w1 hx
    have HX := Lib.hid hx
    clear hx
    have c4 : w1.cell? ⟨w.heap.size, 4, none⟩ = some (.bool false) := HX.out.cp 4
    have c3 : w1.cell? ⟨w.heap.size, 3, none⟩ = some (.int .i64 (b.c : Int)) := HX.out.cp 3
    have g2 : w1.cell? ⟨w.heap.size + 1, 2, none⟩ = some (.slice sp n cap) := HX.out.cg 2
    obtain ⟨C, hC⟩ : ∃ C, b.c = C := ⟨_, rfl⟩
    rw [hC] at c3 HE
    clear hC
    by_cases hz : n = C
    · have d1 : ((n : Int) != (C : Int)) = false := by rw [hz]; simp
      have d2 : (n != C) = false := by rw [hz]; simp
      have hE := HE.out
      rw [if_pos hz, if_neg (by simp)] at hE
      have HEE := Lib.hid hE
      clear hz hE HE
      go_wp2_with (go_at_call 45; refine (rcheck_any _ sp cap n p.l HN.out (Sl.below HL.out (Nat.le_refl _) HX.out.below)).mono ?_; rintro e w2 ⟨rfl, rfl⟩)
      go_ret
      exact ⟨by rw [HEE.out]; rfl, HX.out.below⟩
    · have d1 : ((n : Int) != (C : Int)) = true := by rw [bne_iff_ne]; omega
      have d2 : (n != C) = true := by rw [bne_iff_ne]; omega
      have hE := HE.out
      rw [if_neg hz, if_pos (by simp)] at hE
      have HEE := Lib.hid hE
      clear hz hE HE
      go_wp2
      go_ret
      exact ⟨by rw [HEE.out]; rfl, HX.out.below⟩
  | false =>
    rw [hv] at hE
    simp only [Bool.false_eq_true, if_false] at hE
    have HX := Lib.hid (RrI.new w (prC (b.k : Int) (b.y : Int) (b.r : Int) (b.c : Int) true) (gvC p.r p.c sp n cap))
    have HE := Lib.hid hE
    clear hE hv
    simp only [Bool.false_eq_true, if_false, Bool.not_false]
    unfold prC gvC at HX ⊢
    go_enter Try.func27, Try.ntmps27
    go_upto_region 1 with fail
    refine gen_w (Q := fun w => Code.wp _ _ _ _ w) _ (RrI w _ _) HX.out ?_
    clear HX
    intro w1 hx
    have HX := Lib.hid hx
    clear hx
    have c4 : w1.cell? ⟨w.heap.size, 4, none⟩ = some (.bool true) := HX.out.cp 4
    have c3 : w1.cell? ⟨w.heap.size, 3, none⟩ = some (.int .i64 (b.c : Int)) := HX.out.cp 3
    have c2 : w1.cell? ⟨w.heap.size, 2, none⟩ = some (.int .i64 (b.r : Int)) := HX.out.cp 2
    have g0 : w1.cell? ⟨w.heap.size + 1, 0, none⟩ = some (.int .i64 p.r) := HX.out.cg 0
    have g1 : w1.cell? ⟨w.heap.size + 1, 1, none⟩ = some (.int .i64 p.c) := HX.out.cg 1
    have g2 : w1.cell? ⟨w.heap.size + 1, 2, none⟩ = some (.slice sp n cap) := HX.out.cg 2
    obtain ⟨C, hC⟩ : ∃ C, (b.c : Int) = C := ⟨_, rfl⟩
    obtain ⟨R, hR⟩ : ∃ R, (b.r : Int) = R := ⟨_, rfl⟩
    rw [hC] at c3 HE
    rw [hR] at c2 HE
    clear hC hR
    obtain ⟨X, hX⟩ : ∃ X, p.r = X := ⟨_, rfl⟩
    obtain ⟨Y, hY⟩ : ∃ Y, p.c = Y := ⟨_, rfl⟩
    have HXY := Lib.hid (And.intro hX hY)
    rw [hX] at g0 HE
    rw [hY] at g1 HE
    clear hX hY
    by_cases hr : X = R
    · have d1 : (X != R) = false := by rw [hr]; simp
      have HR := Lib.hid hr
      by_cases hc : Y = C
      · have d2 : (Y != C) = false := by rw [hc]; simp
        have hE := HE.out
        rw [show (if X = R ∧ Y = C then (0 : Int) else 13) = 0 from if_pos ⟨hr, hc⟩, if_neg (by simp)] at hE
        have HEE := Lib.hid hE
        clear hr hc hE HE
        go_wp2_with (go_at_call 46; refine (rmatrix_any _ X Y sp cap n p.l HN.out (Sl.below HL.out (Nat.le_refl _) HX.out.below)).mono ?_; rintro e w2 ⟨rfl, rfl⟩)
        go_ret
        exact ⟨by rw [HEE.out]; rfl, HX.out.below⟩
      · have d2 : (Y != C) = true := by rw [bne_iff_ne]; exact hc
        have hE := HE.out
        rw [show (if X = R ∧ Y = C then (0 : Int) else 13) = 13 from if_neg (fun h => hc h.2), if_pos (by simp)] at hE
        have HEE := Lib.hid hE
        clear hr hc hE HE
        go_wp2
        go_ret
        exact ⟨by rw [HEE.out]; rfl, HX.out.below⟩
    · have d1 : (X != R) = true := by rw [bne_iff_ne]; exact hr
      have hE := HE.out
      rw [show (if X = R ∧ Y = C then (0 : Int) else 13) = 13 from if_neg (fun h => hr h.1), if_pos (by simp)] at hE
      have HEE := Lib.hid hE
      clear hr hE HE
      go_wp2
      go_ret
      exact ⟨by rw [HEE.out]; rfl, HX.out.below⟩

/-! ### the pairs of a model -/
set_option maxHeartbeats 8000000 in
theorem pairs_any (w : World) (v : Wv) (m : Md) (hv : WvOK w v m) (hp : m.ps.length ≤ 100000) : Calls Try.prog 25 #[.agg v.cells] w fun e w' => ∃ sq cq, e = .returned (.slice sq m.ps.length cq) ∧ w'.ownsRow 0 54 2 (.slice sq m.ps.length cq) m.ps.length (Bp.pcs m.ps) ∧ Below w.heap.size w w' := by
  have HX0 := Lib.hid (FwI.new w v)
  have HV := Lib.hid hv
  have HPb := Lib.hid hp
  clear hv hp
  obtain ⟨P, hP⟩ : ∃ P, m.ps.length = P := ⟨_, rfl⟩
  have HP := Lib.hid hP
  rw [hP] at HPb ⊢
  clear hP
  go_enter Try.func25, Try.ntmps25
  go_upto_region 1 with fail
  refine gen_w (Q := fun w => Code.wp _ _ _ _ w) _ (FwI w v) HX0.out ?_
  clear HX0
  intro W1 hx
  have HX1 := Lib.hid hx
  clear hx
  go_wp2
  go_loopw [3, 4] (fun lv iv wr => ∃ (i : Nat) (qv : Value), i ≤ P ∧ iv = .int .i64 i ∧ qv = lv ∧ wr.ownsRow (w.heap.size + 1) 54 2 qv i (Bp.pcs (m.ps.take i)) ∧ FwI w v wr) (fun _ iv _ => P - (intOf iv).toNat)
  case atStart => exact ⟨0, _, by omega, rfl, rfl, World.ownsRow_nil _ _ _ _, HX1.out⟩
  case round =>
    clear HX1
    obtain ⟨i, qv, hi, rfl, rfl, hrow, hx⟩ := hrel
    have HRow := Lib.hid hrow
    have HX := Lib.hid hx
    obtain ⟨cq, hcq⟩ : ∃ cq, v.cp = cq := ⟨_, rfl⟩
    have q7 : wr.cell? ⟨w.heap.size, 7, none⟩ = some (.slice v.sp P cq) := by have h9 := hx.cell 7; rw [h9, ← HP.out, ← HV.out.np, ← hcq]; rfl
    clear hrow hx
    by_cases hil : i < P
    · have hd1 : decide (i < P) = true := by simpa using hil
      have hd2 : decide ((i : Int) < (P : Int)) = true := by simp; omega
      obtain ⟨d, o, e, hrg⟩ := HV.out.ps.at_ i (by rw [HP.out]; exact hil)
      obtain ⟨xy, hxy⟩ : ∃ xy, m.ps.getD i (0, 0) = xy := ⟨_, rfl⟩
      rw [hxy] at hrg
      obtain ⟨x, y⟩ := xy
      dsimp only at hrg
      have HXY := Lib.hid hxy
      have h0 : w.cell? ⟨d, o + i * 2, none⟩ = some (.int .i64 x) := hrg 0 _ rfl
      have h1 : w.cell? ⟨d, o + i * 2 + 1, none⟩ = some (.int .i64 y) := hrg 1 _ rfl
      have Hd : Hid (d < w.heap.size) := Lib.hid (block_lt_of_cell h0)
      have HCell0 := Lib.hid ((HX.out.below.cell (by have := Hd.out; exact this)).trans h0)
      have HCell1 := Lib.hid ((HX.out.below.cell (by have := Hd.out; exact this)).trans h1)
      have HiP : Hid (i < P) := Lib.hid hil
      have Hlo : Hid (∀ k, qv.ownBlock = some k → k < wr.heap.size) := Lib.hid (fun k hk => (HRow.out.lt k hk).2)
      have hi64 : IntKind.i64.wrap ((i : Int) + 1) = (i : Int) + 1 := IntWalk.i64_in _ (by have := HPb.out; omega)
      rw [e] at q7
      have HQ7 := Lib.hid q7
      clear h0 h1 hrg hxy hcq
      go_upto_region 5 with fail
      refine Tn.wp_region_spec_at (C := fun W => wr.grownBy W qv.ownBlock) (Le := LeS 15 qv.ownBlock) (Pre := fun j W => j = 15 → Below wr.heap.size wr W) 16 (fun _ => (neS 14 1 54 2 (w.heap.size + 1) wr.heap.size x y (i + 1) (Bp.pcs (m.ps.take i ++ [(x, y)])) (fun ixx => ([qv, .pointer (some ⟨w.heap.size, 7, none⟩), .slice (some ⟨d, o, none⟩) P cq, .int .i64 (i : Int), .pointer (some ⟨d, o + i * 2, none⟩), .pointer (some ⟨d, o + i * 2, none⟩), .int .i64 x, .pointer (some ⟨w.heap.size, 7, none⟩), .slice (some ⟨d, o, none⟩) P cq, .int .i64 (i : Int), .pointer (some ⟨d, o + i * 2, none⟩), .pointer (some ⟨d, o + i * 2 + 1, none⟩), .int .i64 y, .agg #[.int .i64 x, .int .i64 y]] : List Value)[ixx]?))) (by kernel_rfl) (by kernel_rfl) ⟨rfl, rfl, rfl, Nat.le_refl _, fun _ _ _ => rfl⟩ (fun _ _ _ _ _ _ h => h) (fun _ j i W W' y hne hle h => neS_later Hlo.out hne hle h) (fun j i W W' hne hle hp e => (hp e).trans ((hle.2 (by omega)).mono (hp e).size)) (fun j _ => ⟨rfl, rfl, rfl, Nat.le_refl _, fun _ _ => rfl⟩) (fun ixx yy => ∀ z, ([qv, .pointer (some ⟨w.heap.size, 7, none⟩), .slice (some ⟨d, o, none⟩) P cq, .int .i64 (i : Int), .pointer (some ⟨d, o + i * 2, none⟩), .pointer (some ⟨d, o + i * 2, none⟩), .int .i64 x, .pointer (some ⟨w.heap.size, 7, none⟩), .slice (some ⟨d, o, none⟩) P cq, .int .i64 (i : Int), .pointer (some ⟨d, o + i * 2, none⟩), .pointer (some ⟨d, o + i * 2 + 1, none⟩), .int .i64 y, .agg #[.int .i64 x, .int .i64 y]] : List Value)[ixx]? = some z → yy = z) (fun _ _ _ _ h => h.2.2) (fun ixx => (([qv, .pointer (some ⟨w.heap.size, 7, none⟩), .slice (some ⟨d, o, none⟩) P cq, .int .i64 (i : Int), .pointer (some ⟨d, o + i * 2, none⟩), .pointer (some ⟨d, o + i * 2, none⟩), .int .i64 x, .pointer (some ⟨w.heap.size, 7, none⟩), .slice (some ⟨d, o, none⟩) P cq, .int .i64 (i : Int), .pointer (some ⟨d, o + i * 2, none⟩), .pointer (some ⟨d, o + i * 2 + 1, none⟩), .int .i64 y, .agg #[.int .i64 x, .int .i64 y]] : List Value)[ixx]?).getD undef) (fun ixx z h => by simp [h]) ?_ ?_
      · intro u hu
        have h0 : u 0 = qv := hu 0 _ rfl
        have h1 : u 1 = .pointer (some ⟨w.heap.size, 7, none⟩) := hu 1 _ rfl
        have h2 : u 2 = .slice (some ⟨d, o, none⟩) P cq := hu 2 _ rfl
        have h3 : u 3 = .int .i64 (i : Int) := hu 3 _ rfl
        have h4 : u 4 = .pointer (some ⟨d, o + i * 2, none⟩) := hu 4 _ rfl
        have h5 : u 5 = .pointer (some ⟨d, o + i * 2, none⟩) := hu 5 _ rfl
        have h6 : u 6 = .int .i64 x := hu 6 _ rfl
        have h7 : u 7 = .pointer (some ⟨w.heap.size, 7, none⟩) := hu 7 _ rfl
        have h8 : u 8 = .slice (some ⟨d, o, none⟩) P cq := hu 8 _ rfl
        have h9 : u 9 = .int .i64 (i : Int) := hu 9 _ rfl
        have h10 : u 10 = .pointer (some ⟨d, o + i * 2, none⟩) := hu 10 _ rfl
        have h11 : u 11 = .pointer (some ⟨d, o + i * 2 + 1, none⟩) := hu 11 _ rfl
        have h12 : u 12 = .int .i64 y := hu 12 _ rfl
        have h13 : u 13 = .agg #[.int .i64 x, .int .i64 y] := hu 13 _ rfl
        simp only [List.take_succ_cons, List.take_zero]
        refine Tn.spec_cons (fun W hC hd => ⟨by rfl, ?_⟩) ?_
        · exact Tn.gives_val (qv) W (by rfl) ⟨hC, leS_b (by decide) (Below.refl _ _), (fun h => absurd h (by decide)), (fun h => absurd h (by decide)), fun z hz => by cases hz; rfl⟩
        simp only [Act.put, List.setIfInBounds_toArray, List.set_cons_succ, List.set_cons_zero, Nat.reduceAdd]
        rw [h0]
        refine Tn.spec_cons (fun W hC hd => ⟨by rfl, ?_⟩) ?_
        · exact Tn.gives_val (.pointer (some ⟨w.heap.size, 7, none⟩)) W (exec_wf2 (.tmp 1) rfl w.heap.size rfl) ⟨hC, leS_b (by decide) (Below.refl _ _), (fun h => absurd h (by decide)), (fun h => absurd h (by decide)), fun z hz => by cases hz; rfl⟩
        simp only [Act.put, List.setIfInBounds_toArray, List.set_cons_succ, List.set_cons_zero, Nat.reduceAdd]
        rw [h1]
        refine Tn.spec_cons (fun W hC hd => ⟨by rfl, ?_⟩) ?_
        · exact Tn.gives_val (.slice (some ⟨d, o, none⟩) P cq) W (Bp.exec_load1 25 (.tmp 13) rfl ⟨w.heap.size, 7, none⟩ rfl _ (Bp.cell_grown hC HQ7.out (fun k hk => by have h9 := (Bp.own_block HRow.out hk).1; omega)) _ Try.underlying25 rfl) ⟨hC, leS_b (by decide) (Below.refl _ _), (fun h => absurd h (by decide)), (fun h => absurd h (by decide)), fun z hz => by cases hz; rfl⟩
        simp only [Act.put, List.setIfInBounds_toArray, List.set_cons_succ, List.set_cons_zero, Nat.reduceAdd]
        rw [h2]
        refine Tn.spec_cons (fun W hC hd => ⟨by rfl, ?_⟩) ?_
        · exact Tn.gives_val (.int .i64 (i : Int)) W (by rfl) ⟨hC, leS_b (by decide) (Below.refl _ _), (fun h => absurd h (by decide)), (fun h => absurd h (by decide)), fun z hz => by cases hz; rfl⟩
        simp only [Act.put, List.setIfInBounds_toArray, List.set_cons_succ, List.set_cons_zero, Nat.reduceAdd]
        rw [h3]
        refine Tn.spec_cons (fun W hC hd => ⟨by rfl, ?_⟩) ?_
        · exact Tn.gives_val (.pointer (some ⟨d, o + i * 2, none⟩)) W (Bp.exec_atP (.tmp 14) (.tmp 15) rfl d o P cq i rfl rfl HiP.out) ⟨hC, leS_b (by decide) (Below.refl _ _), (fun h => absurd h (by decide)), (fun h => absurd h (by decide)), fun z hz => by cases hz; rfl⟩
        simp only [Act.put, List.setIfInBounds_toArray, List.set_cons_succ, List.set_cons_zero, Nat.reduceAdd]
        rw [h4]
        refine Tn.spec_cons (fun W hC hd => ⟨by rfl, ?_⟩) ?_
        · exact Tn.gives_val (.pointer (some ⟨d, o + i * 2, none⟩)) W (Bp.exec_pfA (.tmp 16) rfl d (o + i * 2) rfl) ⟨hC, leS_b (by decide) (Below.refl _ _), (fun h => absurd h (by decide)), (fun h => absurd h (by decide)), fun z hz => by cases hz; rfl⟩
        simp only [Act.put, List.setIfInBounds_toArray, List.set_cons_succ, List.set_cons_zero, Nat.reduceAdd]
        rw [h5]
        refine Tn.spec_cons (fun W hC hd => ⟨by rfl, ?_⟩) ?_
        · exact Tn.gives_val (.int .i64 x) W (Bp.exec_load1 3 (.tmp 17) rfl ⟨d, o + i * 2, none⟩ rfl _ (Bp.cell_grown hC HCell0.out (fun k hk => by have h9 := (Bp.own_block HRow.out hk).1; have h8 := Hd.out; omega)) _ Try.underlying3 rfl) ⟨hC, leS_b (by decide) (Below.refl _ _), (fun h => absurd h (by decide)), (fun h => absurd h (by decide)), fun z hz => by cases hz; rfl⟩
        simp only [Act.put, List.setIfInBounds_toArray, List.set_cons_succ, List.set_cons_zero, Nat.reduceAdd]
        rw [h6]
        refine Tn.spec_cons (fun W hC hd => ⟨by rfl, ?_⟩) ?_
        · exact Tn.gives_val (.pointer (some ⟨w.heap.size, 7, none⟩)) W (exec_wf2 (.tmp 1) rfl w.heap.size rfl) ⟨hC, leS_b (by decide) (Below.refl _ _), (fun h => absurd h (by decide)), (fun h => absurd h (by decide)), fun z hz => by cases hz; rfl⟩
        simp only [Act.put, List.setIfInBounds_toArray, List.set_cons_succ, List.set_cons_zero, Nat.reduceAdd]
        rw [h7]
        refine Tn.spec_cons (fun W hC hd => ⟨by rfl, ?_⟩) ?_
        · exact Tn.gives_val (.slice (some ⟨d, o, none⟩) P cq) W (Bp.exec_load1 25 (.tmp 19) rfl ⟨w.heap.size, 7, none⟩ rfl _ (Bp.cell_grown hC HQ7.out (fun k hk => by have h9 := (Bp.own_block HRow.out hk).1; omega)) _ Try.underlying25 rfl) ⟨hC, leS_b (by decide) (Below.refl _ _), (fun h => absurd h (by decide)), (fun h => absurd h (by decide)), fun z hz => by cases hz; rfl⟩
        simp only [Act.put, List.setIfInBounds_toArray, List.set_cons_succ, List.set_cons_zero, Nat.reduceAdd]
        rw [h8]
        refine Tn.spec_cons (fun W hC hd => ⟨by rfl, ?_⟩) ?_
        · exact Tn.gives_val (.int .i64 (i : Int)) W (by rfl) ⟨hC, leS_b (by decide) (Below.refl _ _), (fun h => absurd h (by decide)), (fun h => absurd h (by decide)), fun z hz => by cases hz; rfl⟩
        simp only [Act.put, List.setIfInBounds_toArray, List.set_cons_succ, List.set_cons_zero, Nat.reduceAdd]
        rw [h9]
        refine Tn.spec_cons (fun W hC hd => ⟨by rfl, ?_⟩) ?_
        · exact Tn.gives_val (.pointer (some ⟨d, o + i * 2, none⟩)) W (Bp.exec_atP (.tmp 20) (.tmp 21) rfl d o P cq i rfl rfl HiP.out) ⟨hC, leS_b (by decide) (Below.refl _ _), (fun h => absurd h (by decide)), (fun h => absurd h (by decide)), fun z hz => by cases hz; rfl⟩
        simp only [Act.put, List.setIfInBounds_toArray, List.set_cons_succ, List.set_cons_zero, Nat.reduceAdd]
        rw [h10]
        refine Tn.spec_cons (fun W hC hd => ⟨by rfl, ?_⟩) ?_
        · exact Tn.gives_val (.pointer (some ⟨d, o + i * 2 + 1, none⟩)) W (Bp.exec_pfB (.tmp 22) rfl d (o + i * 2) rfl) ⟨hC, leS_b (by decide) (Below.refl _ _), (fun h => absurd h (by decide)), (fun h => absurd h (by decide)), fun z hz => by cases hz; rfl⟩
        simp only [Act.put, List.setIfInBounds_toArray, List.set_cons_succ, List.set_cons_zero, Nat.reduceAdd]
        rw [h11]
        refine Tn.spec_cons (fun W hC hd => ⟨by rfl, ?_⟩) ?_
        · exact Tn.gives_val (.int .i64 y) W (Bp.exec_load1 3 (.tmp 23) rfl ⟨d, o + i * 2 + 1, none⟩ rfl _ (Bp.cell_grown hC HCell1.out (fun k hk => by have h9 := (Bp.own_block HRow.out hk).1; have h8 := Hd.out; omega)) _ Try.underlying3 rfl) ⟨hC, leS_b (by decide) (Below.refl _ _), (fun h => absurd h (by decide)), (fun h => absurd h (by decide)), fun z hz => by cases hz; rfl⟩
        simp only [Act.put, List.setIfInBounds_toArray, List.set_cons_succ, List.set_cons_zero, Nat.reduceAdd]
        rw [h12]
        refine Tn.spec_cons (fun W hC hd => ⟨by rfl, ?_⟩) ?_
        · exact Tn.gives_val (.agg #[.int .i64 x, .int .i64 y]) W (Bp.exec_build2 (.tmp 18) (.tmp 24) rfl x y rfl rfl) ⟨hC, leS_b (by decide) (Below.refl _ _), (fun h => absurd h (by decide)), (fun h => absurd h (by decide)), fun z hz => by cases hz; rfl⟩
        simp only [Act.put, List.setIfInBounds_toArray, List.set_cons_succ, List.set_cons_zero, Nat.reduceAdd]
        rw [h13]
        refine Tn.spec_cons (fun W hC hd => ⟨by rfl, ?_⟩) ?_
        · exact Tn.gives_val _ _ (Bp.exec_slpair (.tmp 25) rfl x y rfl) ⟨Bp.grown_trans hC (Bp.grown_of ((Below.refl W.heap.size W).alloc (Nat.le_refl _) _) _), leS_b (by decide) ((Below.refl W.heap.size W).alloc (Nat.le_refl _) _), (fun _ => OneS.made x y W 54 hC.size), (fun h => absurd h (by decide)), fun z hz => by cases hz⟩
        simp only [Act.put, List.setIfInBounds_toArray, List.set_cons_succ, List.set_cons_zero, Nat.reduceAdd]
        refine Tn.spec_cons_at (fun W hC hp hd => ⟨by rfl, ?_⟩) ?_
        · obtain ⟨b8, e8, hl8, c8, c9⟩ := (hd ⟨14, .data⟩ (by simp) rfl).1 rfl
          have hown := HRow.out.kept (row := none) (Bp.grown_of (hp rfl) none) (by cases qv.ownBlock <;> simp)
          exact Bp.gives_append_pair (.tmp 12) (.tmp 26) rfl (w.heap.size + 1) qv i (m.ps.take i) (x, y) rfl hown b8 e8 c8 c9 (by have := HPb.out; have := HiP.out; omega) (Nat.le_trans (by first | exact HX.out.big | omega) hC.size) (fun v' W' hown hg => ⟨Bp.grown_trans hC hg, leS_g hg, (fun h => absurd h (by decide)), (fun _ => hown), fun z hz => by cases hz⟩)
        simp only [Act.put, List.setIfInBounds_toArray, List.set_cons_succ, List.set_cons_zero, Nat.reduceAdd]
        exact Tn.spec_nil
      · intro u W hu hC hP
        have h0 : u 0 = qv := hu 0 _ rfl
        have h1 : u 1 = .pointer (some ⟨w.heap.size, 7, none⟩) := hu 1 _ rfl
        have h2 : u 2 = .slice (some ⟨d, o, none⟩) P cq := hu 2 _ rfl
        have h3 : u 3 = .int .i64 (i : Int) := hu 3 _ rfl
        have h4 : u 4 = .pointer (some ⟨d, o + i * 2, none⟩) := hu 4 _ rfl
        have h5 : u 5 = .pointer (some ⟨d, o + i * 2, none⟩) := hu 5 _ rfl
        have h6 : u 6 = .int .i64 x := hu 6 _ rfl
        have h7 : u 7 = .pointer (some ⟨w.heap.size, 7, none⟩) := hu 7 _ rfl
        have h8 : u 8 = .slice (some ⟨d, o, none⟩) P cq := hu 8 _ rfl
        have h9 : u 9 = .int .i64 (i : Int) := hu 9 _ rfl
        have h10 : u 10 = .pointer (some ⟨d, o + i * 2, none⟩) := hu 10 _ rfl
        have h11 : u 11 = .pointer (some ⟨d, o + i * 2 + 1, none⟩) := hu 11 _ rfl
        have h12 : u 12 = .int .i64 y := hu 12 _ rfl
        have h13 : u 13 = .agg #[.int .i64 x, .int .i64 y] := hu 13 _ rfl
        obtain ⟨bq, eq, _⟩ := (hP 14 (by omega)).1 rfl
        have oq := (hP 15 (by omega)).2.1 rfl
        obtain ⟨vq, hvq⟩ : ∃ vq, u 15 = vq := ⟨_, rfl⟩
        rw [hvq] at oq
        simp only [List.take_succ_cons, List.take_zero, List.drop_succ_cons, List.drop_zero, Tn.putAll, Act.put, List.setIfInBounds_toArray, List.set_cons_succ, List.set_cons_zero, Nat.reduceAdd]
        rw [h0, h1, h2, h3, h4, h5, h6, h7, h8, h9, h10, h11, h12, h13, eq, hvq]
        have HOq := Lib.hid oq
        have HGq : Hid (wr.grownBy W qv.ownBlock) := Lib.hid hC
        clear hu hC hP oq hvq eq h0 h1 h2 h3 h4 h5 h6 h7 h8 h9 h10 h11 h12 h13
        obtain ⟨s9, c9, rfl, _, _⟩ := Bp.prs_of_own (ps := m.ps.take i ++ [(x, y)]) HOq.out
        go_wp2
        go_roundw
        case rel => exact ⟨i + 1, _, by omega, by go_num, rfl, by rw [Bp.ptake_at (by rw [HP.out]; exact HiP.out), HXY.out]; exact HOq.out, HX.out.grown HGq.out (fun k hk => (Bp.own_block HRow.out hk).1)⟩
        case measure => simp [intOf]; omega
    · obtain rfl : i = P := by omega
      have hdf : decide (i < i) = false := by simp
      have hdf2 : decide ((i : Int) < (i : Int)) = false := by simp
      have e9 : m.ps.take i = m.ps := List.take_of_length_le (by rw [HP.out]; exact Nat.le_refl _)
      have hrow := HRow.out
      rw [e9] at hrow
      obtain ⟨sq, cq2, rfl, _, _⟩ := Bp.prs_of_own hrow
      have HPr := Lib.hid (owns_mono hrow (Nat.zero_le _))
      clear e9 hil hrow
      go_wp2
      go_ret
      exact ⟨_, _, rfl, HPr.out, HX.out.below⟩
end Go.Proofs.Ytkfkjapkcjidnaa.Wg
namespace Go.Proofs.Ytkfkjapkcjidnaa.Wg
set_option maxRecDepth 100000
open Go.ChangeShapes Go.WideShapes Go.ChangeAt Go.RowKit Go.Shelf Go.Proofs.Ytkfkjapkcjidnaa.Tn
attribute [local go_sem] Oper.semAt_some

/-! ### what is wrong with a model, by the document -/
theorem Cfg.nats {c : Cfg} (hO : c.Ok) : c = ⟨(c.v.toNat : Int), (c.d.toNat : Int), c.h, (c.l.toNat : Int), c.x, (c.i.toNat : Int)⟩ := by
  obtain ⟨v, d, h, l, x, i⟩ := c
  obtain ⟨h1, h2, h3, h4, h5, h6⟩ := hO
  dsimp only at *
  congr 1 <;> omega
theorem refPartsC (w : World) {c : Cfg} (hO : c.Ok) : Calls Try.prog 26 #[.agg c.cells] w fun e w' => ∃ v, e = .returned v ∧ PtsR w.heap.size v c.blks w' ∧ Below w.heap.size w w' := by
  obtain ⟨V, D, I, e, h1, h2, h3, _, _, _, h4, h5, h6⟩ := cfg_blks hO
  have h := refParts_any w c.v.toNat c.d.toNat c.l.toNat c.i.toNat c.h c.x h5
  rw [← Cfg.nats hO] at h
  have hb : c.blks = blks c.v.toNat c.d.toNat c.l.toNat c.i.toNat := rfl
  rw [hb]
  exact h
theorem PtsAt.range {g : Nat} {l : List Bl} {W : World} (h : PtsAt g l W) {j : Nat} {b : Bl} (hj : l[j]? = some b) : W.rangeAt g (0 + j * 5) (prC (b.k : Int) (b.y : Int) (b.r : Int) (b.c : Int) (!isVec b.k)).toList := by
  obtain ⟨h0, h1, h2, h3, h4⟩ := h j b hj
  intro i u hu
  rw [Nat.zero_add]
  rcases i with _ | _ | _ | _ | _ | i
  · rw [Nat.add_zero, h0]; simpa [prC] using hu
  · rw [h1]; simpa [prC] using hu
  · rw [h2]; simpa [prC] using hu
  · rw [h3]; simpa [prC] using hu
  · rw [h4]; simpa [prC] using hu
  · simp [prC] at hu
structure RtI (w : World) (v : Wv) (g : Nat) (W : World) : Prop where
  fw : FwI w v W
  sz : W.heap[g]? = some (.cells v.c.cells 67 (0, 0))
theorem RtI.later {w W W' : World} {v : Wv} {g : Nat} (h : RtI w v g W) (hb : Below W.heap.size W W') : RtI w v g W' := ⟨h.fw.later hb, (hb.block _ (Array.getElem?_eq_some_iff.1 h.sz).1).trans h.sz⟩
theorem FwI.sz {w W : World} {v : Wv} (h : FwI w v W) : RtI w v W.heap.size (W.alloc (.cells v.c.cells 67)) := ⟨h.later ((Below.refl _ W).alloc (Nat.le_refl _) _), heap_alloc_new _ _⟩
/-- a coder's value, of which the number of texts is told -/
def CdT (E : Int) (NT : Nat) (v : Value) : Prop := ∃ s1 n1 c1 s2 n2 c2 z, v = .agg #[.slice s1 n1 c1, .slice s2 n2 c2, .int .i64 z] ∧ (E = 0 → n1 = NT)
def zCd : Array Value := #[.slice none 0 0, .slice none 0 0, .int .i64 0]
theorem exec_allocC {a : Act} {o : Oper} {W : World} (ho : o.op = .alloc 73) : (execOp a.eval o).run Try.prog W = .ok (.value (.pointer (some ⟨W.heap.size, 0, none⟩))) (W.alloc (.cells zCd 73)) := by
  unfold execOp
  simp only [ho]
  kernel_rfl
theorem gives_storeRow {P : Program} {a : Act} {o : Oper} {W : World} {G : Value → World → Prop} (ty : TypeId) (x y : Operand) (ho : o.op = .store ty x y) (g : Nat) (cells : Array Value) (hx : a.eval x = .pointer (some ⟨g, 0, none⟩)) (hy : a.eval y = .agg cells) (t : TypeId) (old : Array Value) (hg : W.heap[g]? = some (.cells old t (0, 0)))
    (hi : (P.info? ty).map (·.size) = some cells.size) (hold : old.size = cells.size) (h1 : cells.all (·.oneCell') = true) (hG : G undef (W.setRow g cells)) : Gives P o a W G := by
  unfold Gives execOp
  simp only [ho, hx, hy, Instr.storeAt, Instr.sureAddr, Sem.run_bind, Sem.run_pure, Result.andThen_ok, run_storeVar_row W g t ty old cells hg hi hold h1]
  exact hG
theorem owns_setRow {W : World} {base sz n : Nat} {e : TypeId} {v : Value} {xs : List Value} {blk : Nat} {cs cs' : Array Value} {t : TypeId} {fr : Nat × Nat} (h : W.ownsRow base e sz v n xs) (hb : W.heap[blk]? = some (.cells cs t fr)) (hne : t ≠ e) : (W.setRow blk cs').ownsRow base e sz v n xs := by
  refine ⟨h.1, ?_⟩
  rcases h.2 with h1 | ⟨g, cap, cur, e1, hbg, hg, hr⟩
  · exact .inl h1
  · exact .inr ⟨g, cap, cur, e1, hbg, (setRow_other _ _ _ _ (fun e2 => by subst e2; rw [hb] at hg; exact hne (Obj.cells.inj (Option.some.inj hg)).2.1)).trans hg, hr⟩
/-- operation q stores a row of a type beyond lo, the others leave what is there -/
def LeR (q : Nat) (t : TypeId) (lo sz : Nat) (k : Nat) (A B : World) : Prop := (k = q → ∃ blk cs cells, A.heap[blk]? = some (.cells cs t (0, 0)) ∧ lo ≤ blk ∧ cells.size = sz ∧ B = A.setRow blk cells) ∧ (k ≠ q → Below A.heap.size A B)
theorem leR_b {q : Nat} {t : TypeId} {lo sz k : Nat} {A B : World} (hk : k ≠ q) (hb : Below A.heap.size A B) : LeR q t lo sz k A B := ⟨fun h => absurd h hk, fun _ => hb⟩
/-- a row of a type at a block -/
def RwT (t : TypeId) (sz blk : Nat) (W : World) : Prop := ∃ cs : Array Value, cs.size = sz ∧ W.heap[blk]? = some (.cells cs t (0, 0))
theorem RwT.over {q : Nat} {t : TypeId} {lo sz k blk : Nat} {A B : World} (h : RwT t sz blk A) (hle : LeR q t lo sz k A B) : RwT t sz blk B := by
  obtain ⟨cs, h1, h2⟩ := h
  by_cases hk : k = q
  · obtain ⟨b, c, cells, h3, _, h4, rfl⟩ := hle.1 hk
    by_cases e : blk = b
    · subst e; exact ⟨cells, h4, setRow_heap _ _ _ _ _ _ h3⟩
    · exact ⟨cs, h1, (setRow_other _ _ _ _ e).trans h2⟩
  · exact ⟨cs, h1, ((hle.2 hk).block _ (Array.getElem?_eq_some_iff.1 h2).1).trans h2⟩
theorem owns_leR {q : Nat} {t : TypeId} {lo sz k : Nat} {A B : World} {base n s : Nat} {e : TypeId} {v : Value} {xs : List Value} (h : A.ownsRow base e s v n xs) (hne : t ≠ e) (hle : LeR q t lo sz k A B) : B.ownsRow base e s v n xs := by
  by_cases hk : k = q
  · obtain ⟨b, c, cells, h3, _, h4, rfl⟩ := hle.1 hk
    exact owns_setRow h h3 hne
  · exact h.kept (row := none) (Bp.grown_of (hle.2 hk) none) (by cases v.ownBlock <;> simp)
theorem size_cdr (a b c : Value) : (Try.prog.info? 73).map (·.size) = some (#[a, b, c] : Array Value).size := by kernel_rfl
theorem one_cdr (s1 : Option Addr) (n1 c1 : Nat) (s2 : Option Addr) (n2 c2 : Nat) (z : Int) : (#[.slice s1 n1 c1, .slice s2 n2 c2, .int .i64 z] : Array Value).all (·.oneCell') = true := by kernel_rfl
set_option maxHeartbeats 16000000 in
theorem right_any (w : World) (v : Wv) (m : Md) (hv : WvOK w v m) (ha : m.al.length ≤ 1000000) (hp : m.ps.length ≤ 100000) (hnl : v.nl ≤ 1000000) : Calls Try.prog 7 #[.agg v.cells] w fun e w' => e = .returned (.int .i64 m.chk) ∧ Below w.heap.size w w' := by
  have HX0 := Lib.hid (FwI.new w v)
  have HV := Lib.hid hv
  have HSz := Lib.hid (fun W => sizes_any W v.c)
  have HRc := Lib.hid (fun W => refChk_any W v.c)
  have HPr := Lib.hid (fun W (h : FwI w v W) => pairs_any W v m (HV.out.later h.below) hp)
  have HNw := Lib.hid (fun W sq cq (h : FwI w v W) (hq : Bp.Prs W sq cq m.ps) => Bp.refNew_any W v.sa sq v.ca cq m.al.length m.ps.length m.al m.ps ((HV.out.later h.below).al) rfl hq rfl (by omega) (by omega))
  have HC : Hid (v.c = m.cfg) := Lib.hid hv.c
  rw [HC.out] at HSz HRc
  unfold Cfg.cells at HSz HRc
  have HE0 : Hid (m.cfg.chk ≠ 0 → m.chk = m.cfg.chk) := Lib.hid fun h => by rw [chk_no (by rw [headE_cfg h]; exact h), headE_cfg h]
  have HE1 : Hid (m.cfg.chk = 0 → (Bp.newD m.al m.ps).1 ≠ 0 → m.chk = (Bp.newD m.al m.ps).1) := Lib.hid fun h1 h2 => by rw [chk_no (by rw [headE_new h1 h2]; exact h2), headE_new h1 h2]
  have HE2 : Hid (m.cfg.chk = 0 → (Bp.newD m.al m.ps).1 = 0 → (((Bp.newD m.al m.ps).2.length : Int) ≠ m.cfg.v ∨ (v.nl : Int) ≠ m.cfg.l) → m.chk = 13) := Lib.hid fun h1 h2 h3 => by
    have h4 : m.headE = 13 := by unfold Md.headE; rw [if_neg (by omega), if_neg (by omega), if_pos (by rw [HV.out.nl] at h3; exact h3)]
    rw [chk_no (by rw [h4]; decide), h4]
  have HE3 : Hid (m.cfg.chk = 0 → (Bp.newD m.al m.ps).1 = 0 → ((Bp.newD m.al m.ps).2.length : Int) = m.cfg.v → (v.nl : Int) = m.cfg.l → m.chk = partsE m m.cfg.blks) := Lib.hid fun h1 h2 h3 h4 => by
    have h5 : m.headE = 0 := by unfold Md.headE; rw [if_neg (by omega), if_neg (by omega), if_neg (by rw [HV.out.nl] at h4; omega)]
    exact chk_yes h5
  obtain ⟨E, hE⟩ : ∃ E, m.chk = E := ⟨_, rfl⟩
  rw [hE] at HE0 HE1 HE2 HE3 ⊢
  obtain ⟨E9, hE9⟩ : ∃ E9, (Bp.newD m.al m.ps).1 = E9 := ⟨_, rfl⟩
  obtain ⟨NT, hNT⟩ : ∃ NT, (Bp.newD m.al m.ps).2.length = NT := ⟨_, rfl⟩
  have HN9 := Lib.hid (And.intro hE9 hNT)
  rw [hE9] at HE1 HE2 HE3
  rw [hNT] at HE2 HE3
  obtain ⟨P, hP⟩ : ∃ P, m.ps.length = P := ⟨_, rfl⟩
  obtain ⟨N, hN⟩ : ∃ N, m.al.length = N := ⟨_, rfl⟩
  have HNa : Hid (v.na = N) := Lib.hid (by rw [hv.na, hN])
  rw [hP] at HPr HNw
  rw [hN] at HNw
  clear hv ha hp hE hE9 hNT hP hN
  go_enter Try.func7, Try.ntmps7
  go_upto_region 1 with fail
  refine gen_w (Q := fun w => Code.wp _ _ _ _ w) _ (FwI w v) HX0.out ?_
  clear HX0
  intro w1 hx
  have HX := Lib.hid hx
  clear hx
  have c0 : w1.cell? ⟨w.heap.size, 0, none⟩ = some (.int .i64 m.cfg.v) := (by have h9 := HX.out.cell 0; rw [h9]; simp only [Wv.cells, HC.out]; rfl)
  have c1 : w1.cell? ⟨w.heap.size, 1, none⟩ = some (.int .i64 m.cfg.d) := (by have h9 := HX.out.cell 1; rw [h9]; simp only [Wv.cells, HC.out]; rfl)
  have c2 : w1.cell? ⟨w.heap.size, 2, none⟩ = some (.int .i64 m.cfg.h) := (by have h9 := HX.out.cell 2; rw [h9]; simp only [Wv.cells, HC.out]; rfl)
  have c3 : w1.cell? ⟨w.heap.size, 3, none⟩ = some (.int .i64 m.cfg.l) := (by have h9 := HX.out.cell 3; rw [h9]; simp only [Wv.cells, HC.out]; rfl)
  have c4 : w1.cell? ⟨w.heap.size, 4, none⟩ = some (.int .i64 m.cfg.x) := (by have h9 := HX.out.cell 4; rw [h9]; simp only [Wv.cells, HC.out]; rfl)
  have c5 : w1.cell? ⟨w.heap.size, 5, none⟩ = some (.int .i64 m.cfg.i) := (by have h9 := HX.out.cell 5; rw [h9]; simp only [Wv.cells, HC.out]; rfl)
  go_wp2_with fail
  refine (HSz.out w1).mono ?_
  rintro e w2 ⟨rfl, hb2⟩
  have HX2 := Lib.hid (HX.out.later hb2)
  clear c0 c1 c2 c3 c4 c5 hb2 HX HSz
  go_upto_region 2 with fail
  have hz := HX2.out.sz
  rw [HC.out] at hz
  refine gen_w (Q := fun w => Code.wp _ _ _ _ w) _ (RtI w v w2.heap.size) (by rw [← HC.out] at hz; rw [← HC.out]; exact hz) ?_
  clear HX2 hz
  obtain ⟨g, hg⟩ : ∃ g, w2.heap.size = g := ⟨_, rfl⟩
  rw [hg]
  clear hg
  intro w3 hx
  have HX := Lib.hid hx
  clear hx
  go_upto_region 3 with (first
    | (refine wpList_load_row rfl 67 (.tmp 3) rfl g rfl 67 m.cfg.cells (0, 0) _ (by rw [← HC.out]; exact HX.out.sz) Try.underlying67 rfl size_sizes ?_)
    | (go_at_call 23; refine (HRc.out w3).mono ?_; rintro e w4 ⟨rfl, hb4⟩; have HX4 := Lib.hid (HX.out.later hb4); clear hb4))
  clear HX HRc
  by_cases hck : m.cfg.chk = 0
  · rw [hck]
    have HCk := Lib.hid hck
    clear hck
    go_upto_region 5 with fail
    have c6 : w4.cell? ⟨w.heap.size, 6, none⟩ = some (.slice v.sa N v.ca) := by rw [← HNa.out]; exact HX4.out.fw.cell 6
    have HC6 := Lib.hid c6
    clear c6
    refine Tn.wp_region_spec_at (C := fun W => Below w4.heap.size w4 W) (Le := LeR 9 73 w4.heap.size 3) (Pre := fun _ _ => True) 10
      (fun u j W v' => (∀ z, (fun j => if j = 0 then some (.pointer (some ⟨w.heap.size, 6, none⟩)) else if j = 1 then some (.slice v.sa N v.ca) else if j = 2 then some (.agg v.cells) else if j = 7 then some (.int .i64 E9) else none : Nat → Option Value) j = some z → v' = z) ∧ (j = 3 → ∃ sq cq, v' = .slice sq P cq ∧ W.ownsRow 0 54 2 (.slice sq P cq) P (Bp.pcs m.ps)) ∧ (j = 4 ∨ j = 5 → (∃ cv, v' = .tuple #[cv, .int .i64 E9] ∧ CdT E9 NT cv)) ∧ (j = 6 → CdT E9 NT v') ∧ (j = 8 → ∃ blk, v' = .pointer (some ⟨blk, 0, none⟩) ∧ w4.heap.size ≤ blk ∧ RwT 73 3 blk W) ∧ (j = 9 → ∀ blk cells, u 8 = .pointer (some ⟨blk, 0, none⟩) → u 6 = .agg cells → W.heap[blk]? = some (.cells cells 73 (0, 0))))
      (by kernel_rfl) (by kernel_rfl) ⟨rfl, rfl, rfl, Nat.le_refl _, fun _ _ => rfl⟩
      (fun u u' j W v' hu h => ⟨h.1, h.2.1, h.2.2.1, h.2.2.2.1, h.2.2.2.2.1, fun e blk cells h8 h6 => by
        subst e
        exact h.2.2.2.2.2 rfl blk cells ((hu _ rfl ⟨8, .data⟩ (by simp) (by kernel_rfl)).trans h8) ((hu _ rfl ⟨6, .data⟩ (by simp) (by kernel_rfl)).trans h6)⟩)
      (fun u j k A B v' hne hle h => ⟨h.1, (fun e => by obtain ⟨sq, cq, h1, h2⟩ := h.2.1 e; exact ⟨sq, cq, h1, owns_leR h2 (by decide) hle⟩), h.2.2.1, h.2.2.2.1, (fun e => by obtain ⟨blk, h1, h2, h3⟩ := h.2.2.2.2.1 e; exact ⟨blk, h1, h2, h3.over hle⟩), fun e blk cells h8 h6 => by
        have h9 := h.2.2.2.2.2 e blk cells h8 h6
        exact ((hle.2 (by omega)).block _ (Array.getElem?_eq_some_iff.1 h9).1).trans h9⟩)
      (fun _ _ _ _ _ _ h => h) (fun _ => trivial)
      (fun j v' => (∀ z, (fun j => if j = 0 then some (.pointer (some ⟨w.heap.size, 6, none⟩)) else if j = 1 then some (.slice v.sa N v.ca) else if j = 2 then some (.agg v.cells) else if j = 7 then some (.int .i64 E9) else none : Nat → Option Value) j = some z → v' = z) ∧ (j = 3 → ∃ sq cq, v' = .slice sq P cq) ∧ (j = 4 ∨ j = 5 → (∃ cv, v' = .tuple #[cv, .int .i64 E9] ∧ CdT E9 NT cv)) ∧ (j = 6 → CdT E9 NT v') ∧ (j = 8 → ∃ blk, v' = .pointer (some ⟨blk, 0, none⟩)))
      (fun _ _ _ _ h => ⟨h.1, (fun e => by obtain ⟨sq, cq, h1, _⟩ := h.2.1 e; exact ⟨sq, cq, h1⟩), h.2.2.1, h.2.2.2.1, (fun e => by obtain ⟨blk, h1, _⟩ := h.2.2.2.2.1 e; exact ⟨blk, h1⟩)⟩)
      (fun j => if j = 3 then .slice none P 0 else if j = 4 ∨ j = 5 then .tuple #[.agg #[.slice none NT 0, .slice none 0 0, .int .i64 0], .int .i64 E9] else if j = 6 then .agg #[.slice none NT 0, .slice none 0 0, .int .i64 0] else if j = 8 then .pointer (some ⟨0, 0, none⟩) else ((fun j => if j = 0 then some (.pointer (some ⟨w.heap.size, 6, none⟩)) else if j = 1 then some (.slice v.sa N v.ca) else if j = 2 then some (.agg v.cells) else if j = 7 then some (.int .i64 E9) else none : Nat → Option Value) j).getD undef)
      (fun j => ⟨fun z hz => by rcases j with _ | _ | _ | _ | _ | _ | _ | _ | j <;> simp at hz ⊢ <;> first | exact hz | omega, fun e => by rw [if_pos e]; exact ⟨_, _, rfl⟩, fun e => by rw [if_neg (by omega), if_pos e]; exact ⟨_, rfl, none, NT, 0, none, 0, 0, 0, rfl, fun _ => rfl⟩, fun e => by rw [if_neg (by omega), if_neg (by omega), if_pos e]; exact ⟨none, NT, 0, none, 0, 0, 0, rfl, fun _ => rfl⟩, fun e => by rw [if_neg (by omega), if_neg (by omega), if_neg (by omega), if_pos e]; exact ⟨_, rfl⟩⟩) ?_ ?_
    · intro u hu
      have e0 : u 0 = .pointer (some ⟨w.heap.size, 6, none⟩) := (hu 0).1 _ rfl
      have e1 : u 1 = .slice v.sa N v.ca := (hu 1).1 _ rfl
      have e2 : u 2 = .agg v.cells := (hu 2).1 _ rfl
      obtain ⟨sq, cq, e3⟩ := (hu 3).2.1 rfl
      obtain ⟨cv4, e4, hc4⟩ := (hu 4).2.2.1 (Or.inl rfl)
      obtain ⟨cv5, e5, hc5⟩ := (hu 5).2.2.1 (Or.inr rfl)
      have h6 := (hu 6).2.2.2.1 rfl
      have e7 : u 7 = .int .i64 E9 := (hu 7).1 _ rfl
      simp only [List.take_succ_cons, List.take_zero]
      refine Tn.spec_cons (fun Y hC hd => ⟨by rfl, Tn.gives_val (.pointer (some ⟨w.heap.size, 6, none⟩)) Y (exec_wf1 (.tmp 1) rfl w.heap.size rfl) ⟨hC, leR_b (by decide) (Below.refl _ _), (fun z hz => by cases hz; rfl), (fun e => by omega), (fun e => by omega), (fun e => by omega), (fun e => by omega), (fun e => by omega)⟩⟩) ?_
      simp only [Act.put, List.setIfInBounds_toArray, List.set_cons_succ, List.set_cons_zero, Nat.reduceAdd]
      rw [e0]
      refine Tn.spec_cons (fun Y hC hd => ⟨by rfl, Tn.gives_val (.slice v.sa N v.ca) Y (Bp.exec_load1 24 (.tmp 19) rfl ⟨w.heap.size, 6, none⟩ rfl _ ((hC.cell (block_lt_of_cell HC6.out)).trans HC6.out) _ Try.underlying24 rfl) ⟨hC, leR_b (by decide) (Below.refl _ _), (fun z hz => by cases hz; rfl), (fun e => by omega), (fun e => by omega), (fun e => by omega), (fun e => by omega), (fun e => by omega)⟩⟩) ?_
      simp only [Act.put, List.setIfInBounds_toArray, List.set_cons_succ, List.set_cons_zero, Nat.reduceAdd]
      rw [e1]
      refine Tn.spec_cons (fun Y hC hd => ⟨by rfl, Tn.gives_val (.agg v.cells) Y (exec_load_row 31 (.tmp 1) rfl w.heap.size rfl 31 v.cells (0, 0) _ (HX4.out.later hC).fw.row Try.underlying31 rfl size_wts) ⟨hC, leR_b (by decide) (Below.refl _ _), (fun z hz => by cases hz; rfl), (fun e => by omega), (fun e => by omega), (fun e => by omega), (fun e => by omega), (fun e => by omega)⟩⟩) ?_
      simp only [Act.put, List.setIfInBounds_toArray, List.set_cons_succ, List.set_cons_zero, Nat.reduceAdd]
      rw [e2]
      refine Tn.spec_cons (fun Y hC hd => ⟨by rfl, Tn.gives_call _ _ (Tn.exec_call1 25 (.tmp 21) #[31] _ rfl rfl (cf Try.func25 (by kernel_rfl) (by kernel_rfl) _ _)) ((HPr.out Y (HX4.out.later hC).fw).mono fun e2 Y' ⟨sq', cq', e3, h3, hb3⟩ => ⟨_, e3, hC.trans (hb3.mono hC.size), leR_b (by decide) hb3, (fun z hz => by cases hz), (fun _ => ⟨sq', cq', rfl, h3⟩), (fun e => by omega), (fun e => by omega), (fun e => by omega), (fun e => by omega)⟩)⟩) ?_
      simp only [Act.put, List.setIfInBounds_toArray, List.set_cons_succ, List.set_cons_zero, Nat.reduceAdd]
      rw [e3]
      refine Tn.spec_cons (fun Y hC hd => ⟨by rfl, Tn.gives_call _ _ (exec_call2 24 (.tmp 20) (.tmp 22) #[24, 71] _ _ rfl rfl rfl (cf Try.func24 (by kernel_rfl) (by kernel_rfl) _ _)) ?_⟩) ?_
      · obtain ⟨sq', cq', e3', hown⟩ := (hd ⟨3, .data⟩ (by simp) (by kernel_rfl)).2.1 rfl
        obtain ⟨sq2, cq2, e4', _, hq⟩ := Bp.prs_of_own hown
        rw [e3] at e3'
        injection e3' with q1 _ q3
        injection e4' with q4 _ q6
        subst q1 q3 q4 q6
        refine (HNw.out Y sq cq (HX4.out.later hC).fw hq).mono fun e2 Y' ⟨cv, e9, hb9, hcv⟩ => ?_
        rw [HN9.out.1] at e9 hcv
        refine ⟨_, e9, hC.trans (hb9.mono hC.size), leR_b (by decide) hb9, (fun z hz => by cases hz), (fun e => by omega), (fun _ => ⟨cv, rfl, ?_⟩), (fun e => by omega), (fun e => by omega), (fun e => by omega)⟩
        rcases hcv with ⟨hne, rfl⟩ | ⟨_, st, ct, sq2, cq2, rfl, _⟩
        · exact ⟨none, 0, 0, none, 0, 0, 0, rfl, fun h => absurd h hne⟩
        · exact ⟨st, _, ct, sq2, _, cq2, _, rfl, fun _ => HN9.out.2⟩
      simp only [Act.put, List.setIfInBounds_toArray, List.set_cons_succ, List.set_cons_zero, Nat.reduceAdd]
      rw [e4]
      refine Tn.spec_cons (fun Y hC hd => ⟨by rfl, Tn.gives_val (.tuple #[cv4, .int .i64 E9]) Y (by rfl) ⟨hC, leR_b (by decide) (Below.refl _ _), (fun z hz => by cases hz), (fun e => by omega), (fun _ => ⟨cv4, rfl, hc4⟩), (fun e => by omega), (fun e => by omega), (fun e => by omega)⟩⟩) ?_
      simp only [Act.put, List.setIfInBounds_toArray, List.set_cons_succ, List.set_cons_zero, Nat.reduceAdd]
      rw [e5]
      refine Tn.spec_cons (fun Y hC hd => ⟨by rfl, Tn.gives_val cv5 Y (by rfl) ⟨hC, leR_b (by decide) (Below.refl _ _), (fun z hz => by cases hz), (fun e => by omega), (fun e => by omega), (fun _ => hc5), (fun e => by omega), (fun e => by omega)⟩⟩) ?_
      simp only [Act.put, List.setIfInBounds_toArray, List.set_cons_succ, List.set_cons_zero, Nat.reduceAdd]
      obtain ⟨s1, n1, c1, s2, n2, c2, z9, e6, hn1⟩ := h6
      rw [e6]
      refine Tn.spec_cons (fun Y hC hd => ⟨by rfl, Tn.gives_val (.int .i64 E9) Y (by rfl) ⟨hC, leR_b (by decide) (Below.refl _ _), (fun z hz => by cases hz; rfl), (fun e => by omega), (fun e => by omega), (fun e => by omega), (fun e => by omega), (fun e => by omega)⟩⟩) ?_
      simp only [Act.put, List.setIfInBounds_toArray, List.set_cons_succ, List.set_cons_zero, Nat.reduceAdd]
      rw [e7]
      obtain ⟨blk8, e8⟩ := (hu 8).2.2.2.2 rfl
      refine Tn.spec_cons (fun Y hC hd => ⟨by rfl, Tn.gives_val (.pointer (some ⟨Y.heap.size, 0, none⟩)) _ (exec_allocC rfl) ⟨hC.alloc hC.size _, leR_b (by decide) ((Below.refl _ _).alloc (Nat.le_refl _) _), (fun z hz => by cases hz), (fun e => by omega), (fun e => by omega), (fun e => by omega), (fun _ => ⟨_, rfl, hC.size, zCd, rfl, heap_alloc_new _ _⟩), (fun e => by omega)⟩⟩) ?_
      simp only [Act.put, List.setIfInBounds_toArray, List.set_cons_succ, List.set_cons_zero, Nat.reduceAdd]
      rw [e8]
      refine Tn.spec_cons (fun Y hC hd => ⟨by rfl, ?_⟩) ?_
      · obtain ⟨blk, e8', hlo, cs, hcs, hrow⟩ := (hd ⟨8, .data⟩ (by simp) (by kernel_rfl)).2.2.2.2.1 rfl
        rw [e8] at e8'
        cases e8'
        exact gives_storeRow 73 (.tmp 5) (.tmp 24) rfl blk8 #[.slice s1 n1 c1, .slice s2 n2 c2, .int .i64 z9] rfl rfl 73 cs hrow (size_cdr _ _ _) hcs (one_cdr s1 n1 c1 s2 n2 c2 z9) ⟨below_setRow hC hlo _, ⟨fun _ => ⟨blk8, cs, _, hrow, hlo, rfl, rfl⟩, fun h => absurd rfl h⟩, (fun z hz => by cases hz), (fun e => by omega), (fun e => by omega), (fun e => by omega), (fun e => by omega), (fun _ blk cells h8 h6 => by
          rw [e8] at h8
          rw [e6] at h6
          cases h8
          cases h6
          exact setRow_heap _ _ _ _ _ _ hrow)⟩
      simp only [Act.put, Nat.reduceAdd]
      exact Tn.spec_nil
    intro u Y hu hC hP
    have e0 : u 0 = .pointer (some ⟨w.heap.size, 6, none⟩) := (hu 0).1 _ rfl
    have e1 : u 1 = .slice v.sa N v.ca := (hu 1).1 _ rfl
    have e2 : u 2 = .agg v.cells := (hu 2).1 _ rfl
    obtain ⟨sq, cq, e3⟩ := (hu 3).2.1 rfl
    obtain ⟨cv4, e4, _⟩ := (hu 4).2.2.1 (Or.inl rfl)
    obtain ⟨cv5, e5, _⟩ := (hu 5).2.2.1 (Or.inr rfl)
    obtain ⟨s1, n1, c1, s2, n2, c2, z9, e6, hn1⟩ := (hu 6).2.2.2.1 rfl
    have e7 : u 7 = .int .i64 E9 := (hu 7).1 _ rfl
    obtain ⟨blk, e8⟩ := (hu 8).2.2.2.2 rfl
    have hrow := (hP 9 (by omega)).2.2.2.2.2 rfl blk _ e8 e6
    obtain ⟨v9, e9⟩ : ∃ v9, u 9 = v9 := ⟨_, rfl⟩
    simp only [List.take_succ_cons, List.take_zero, List.drop_succ_cons, List.drop_zero, Tn.putAll, Act.put, List.setIfInBounds_toArray, List.set_cons_succ, List.set_cons_zero, Nat.reduceAdd]
    rw [e0, e1, e2, e3, e4, e5, e6, e7, e8]
    have HX6' := Lib.hid (HX4.out.later hC)
    have HRw' := Lib.hid hrow
    clear hu hC hP e0 e1 e2 e3 e4 e5 e6 e7 e8 e9 hrow
    go_upto_region 6 with fail
    refine gen_w (Q := fun w => Code.wp _ _ _ _ w) _ (fun W => RtI w v g W ∧ W.heap[blk]? = some (.cells #[.slice s1 n1 c1, .slice s2 n2 c2, .int .i64 z9] 73 (0, 0))) ⟨HX6'.out, HRw'.out⟩ ?_
    clear HX6' HRw' HX4 HC6
    rintro w6 ⟨hx, hrw⟩
    have HX6 := Lib.hid hx
    have HRw := Lib.hid hrw
    clear hx hrw
    clear HPr HNw
    by_cases h9 : E9 = 0
    · obtain rfl := hn1 h9
      have HE9 := Lib.hid h9
      subst h9
      have b0 : w6.cell? ⟨blk, 0, none⟩ = some (.slice s1 n1 c1) := by rw [cell_of_row _ _ _ _ _ _ HRw.out]; rfl
      have z0 : w6.cell? ⟨g, 0, none⟩ = some (.int .i64 m.cfg.v) := by rw [cell_of_row _ _ _ _ _ _ HX6.out.sz, HC.out]; rfl
      have z3 : w6.cell? ⟨g, 3, none⟩ = some (.int .i64 m.cfg.l) := by rw [cell_of_row _ _ _ _ _ _ HX6.out.sz, HC.out]; rfl
      have c11 : w6.cell? ⟨w.heap.size, 11, none⟩ = some (.slice v.sl v.nl v.cl) := HX6.out.fw.cell 11
      have HE2' := Lib.hid (HE2.out HCk.out rfl)
      have HE3' := Lib.hid (HE3.out HCk.out rfl)
      clear HE0 HE1 HE2 HE3 hn1
      by_cases h1 : (n1 : Int) = m.cfg.v
      · have d1 : ((n1 : Int) != m.cfg.v) = false := by rw [h1]; simp
        by_cases h2 : (v.nl : Int) = m.cfg.l
        · have d2 : ((v.nl : Int) != m.cfg.l) = false := by rw [h2]; simp
          have HE4 := Lib.hid (HE3'.out h1 h2)
          have HOk := Lib.hid (Cfg.ok_of_chk HCk.out)
          have HNl : Hid (v.nl = m.cfg.l.toNat) := Lib.hid (by omega)
          clear h1 h2 HE2' HE3'
          go_upto_region 10 with fail
          clear d1 d2 b0 z0 z3 c11
          have HPt := Lib.hid (refPartsC w6 HOk.out)
          unfold Cfg.cells at HPt
          go_upto_region 11 with (first
            | (refine wpList_load_row rfl 67 (.tmp 3) rfl g rfl 67 m.cfg.cells (0, 0) _ (by rw [← HC.out]; exact HX6.out.sz) Try.underlying67 rfl size_sizes ?_)
            | (go_at_call 26; refine HPt.out.mono ?_; rintro e w7 ⟨pv, rfl, hpt, hb7⟩; have HX7 := Lib.hid (HX6.out.later hb7); have HPts := Lib.hid hpt; clear hb7 hpt))
          clear HX6 HPt HRw
          obtain ⟨V, D, I, hbk, _, _, _, _, _, _, hL1, hL4, _⟩ := cfg_blks HOk.out
          have hlen := blks_length V D m.cfg.l.toNat I
          rw [← hbk] at hlen
          have HBl : Hid (∀ b ∈ m.cfg.blks, OkL v.nl b) := Lib.hid fun b hb => by rw [HNl.out]; exact blks_okL (hbk ▸ hb)
          obtain ⟨BL, hBL⟩ : ∃ BL, m.cfg.blks = BL := ⟨_, rfl⟩
          rw [hBL] at hlen HPts HE4 HBl
          obtain ⟨g2, cap2, rfl, hcap2, _, hat, _⟩ := HPts.out.form (by omega)
          have HAt := Lib.hid hat
          obtain ⟨n, hn⟩ : ∃ n, BL.length = n := ⟨_, rfl⟩
          rw [hn] at hcap2 hlen ⊢
          have Hn := Lib.hid hn
          have hn39 : n ≤ 39 := by omega
          clear hlen hbk hBL hat hn hL1 hL4 HPts hcap2
          go_wp2
          go_loopw [8] (fun jv wr => ∃ j : Nat, j ≤ n ∧ jv = .int .i64 (j : Int) ∧ RtI w v g wr ∧ PtsAt g2 BL wr ∧ partsE m BL = partsE m (BL.drop j)) (fun jv _ => n - (intOf jv).toNat)
          case atStart => exact ⟨0, by omega, rfl, HX7.out, HAt.out, rfl⟩
          case round =>
          obtain ⟨i, hi, rfl, hx, hat, hpe⟩ := hrel
          have HXr := Lib.hid hx
          have HAr := Lib.hid hat
          have HPe := Lib.hid hpe
          clear hx hat hpe HX7 HAt
          by_cases hlt : i < n
          · have d1 : decide (i < n) = true := by simpa using hlt
            have d2 : decide ((i : Int) < (n : Int)) = true := by simp; omega
            have hw5 : IntKind.i64.wrap ((i : Int) + 1) = (i : Int) + 1 := IntWalk.i64_in _ (by omega)
            obtain ⟨b, hb⟩ : ∃ b, BL[i]? = some b := ⟨BL[i]'(by rw [Hn.out]; exact hlt), by simp [Hn.out, hlt]⟩
            have hdr : BL.drop i = b :: BL.drop (i + 1) := by
              have h1 : i < BL.length := (List.getElem?_eq_some_iff.1 hb).1
              rw [List.drop_eq_getElem_cons h1]
              have h2 := (List.getElem?_eq_some_iff.1 hb).2
              rw [h2]
            have HDr := Lib.hid hdr
            have HRg := Lib.hid (HAr.out.range hb)
            have HK1 : Hid ((b.k = 1 ∧ b.y = 0) ∨ (b.k = 11 ∧ b.y = 0) ∨ (b.k = 12 ∧ b.y = 0) ∨ (b.y < v.nl ∧ 2 ≤ b.k ∧ b.k ≤ 10)) := Lib.hid (HBl.out b (List.mem_of_getElem? hb))
            have HLt := Lib.hid hlt
            obtain ⟨p, hp⟩ : ∃ p, m.part b.k b.y = p := ⟨_, rfl⟩
            have HPp := Lib.hid hp
            obtain ⟨R, hR⟩ : ∃ R, (if isVec b.k then 0 else p.r) = R := ⟨_, rfl⟩
            obtain ⟨C, hC⟩ : ∃ C, (if isVec b.k then 0 else p.c) = C := ⟨_, rfl⟩
            have HRC := Lib.hid (And.intro hR hC)
            obtain ⟨pE, hpE⟩ : ∃ pE, partE b p = pE := ⟨_, rfl⟩
            have HPE := Lib.hid hpE
            obtain ⟨pa, hpa⟩ : ∃ pa, prC (b.k : Int) (b.y : Int) (b.r : Int) (b.c : Int) (!isVec b.k) = pa := ⟨_, rfl⟩
            have HPa := Lib.hid hpa
            have HPs : Hid ((Try.prog.info? 61).map (·.size) = some pa.toList.length) := Lib.hid (by rw [← hpa]; exact sizePO)
            rw [hpa] at HRg
            clear hlt hb hdr hp hR hC hpE hi hpa
            go_upto_region 14 with fail
            refine Tn.wp_region_spec (C := fun W => Below wr.heap.size wr W) (Le := fun A B => Below A.heap.size A B) 11
              (fun _ j W v' => (j < 9 → v' = ([.slice (some ⟨g2, 0, none⟩) n cap2, .int .i64 (i : Int), .pointer (some ⟨g2, 0 + i * 5, none⟩), .agg pa, .agg v.cells, .slice (some ⟨g2, 0, none⟩) n cap2, .int .i64 (i : Int), .pointer (some ⟨g2, 0 + i * 5, none⟩), .agg pa] : List Value).getD j undef) ∧ (j = 9 → ∃ sp cap, v' = .agg (gvC R C sp p.l.length cap) ∧ Nums wr sp cap p.l) ∧ (j = 10 → v' = .int .i64 pE))
              (by kernel_rfl) (by kernel_rfl) ⟨rfl, rfl, rfl, Nat.le_refl _, fun _ _ => rfl⟩ (fun _ _ _ _ _ _ h => h)
              (fun _ _ A B v' hl h => h)
              (fun j v' => (j < 9 → v' = ([.slice (some ⟨g2, 0, none⟩) n cap2, .int .i64 (i : Int), .pointer (some ⟨g2, 0 + i * 5, none⟩), .agg pa, .agg v.cells, .slice (some ⟨g2, 0, none⟩) n cap2, .int .i64 (i : Int), .pointer (some ⟨g2, 0 + i * 5, none⟩), .agg pa] : List Value).getD j undef) ∧ (j = 9 → ∃ sp cap, v' = .agg (gvC R C sp p.l.length cap)) ∧ (j = 10 → v' = .int .i64 pE)) (fun _ _ _ _ h => ⟨h.1, (fun e => by obtain ⟨sp, cap, h1, _⟩ := h.2.1 e; exact ⟨sp, cap, h1⟩), h.2.2⟩)
              (fun j => if j = 9 then .agg (gvC R C none p.l.length 0) else if j = 10 then .int .i64 pE else ([.slice (some ⟨g2, 0, none⟩) n cap2, .int .i64 (i : Int), .pointer (some ⟨g2, 0 + i * 5, none⟩), .agg pa, .agg v.cells, .slice (some ⟨g2, 0, none⟩) n cap2, .int .i64 (i : Int), .pointer (some ⟨g2, 0 + i * 5, none⟩), .agg pa] : List Value).getD j undef) (fun j => ⟨fun e => by rw [if_neg (by omega), if_neg (by omega)], fun e => by rw [if_pos e]; exact ⟨_, _, rfl⟩, fun e => by rw [if_neg (by omega), if_pos e]⟩) ?_ ?_
            · intro u hu
              have e0 : u 0 = .slice (some ⟨g2, 0, none⟩) n cap2 := (hu 0).1 (by decide)
              have e1 : u 1 = .int .i64 (i : Int) := (hu 1).1 (by decide)
              have e2 : u 2 = .pointer (some ⟨g2, 0 + i * 5, none⟩) := (hu 2).1 (by decide)
              have e3 : u 3 = .agg pa := (hu 3).1 (by decide)
              have e4 : u 4 = .agg v.cells := (hu 4).1 (by decide)
              have e5 : u 5 = .slice (some ⟨g2, 0, none⟩) n cap2 := (hu 5).1 (by decide)
              have e6 : u 6 = .int .i64 (i : Int) := (hu 6).1 (by decide)
              have e7 : u 7 = .pointer (some ⟨g2, 0 + i * 5, none⟩) := (hu 7).1 (by decide)
              have e8 : u 8 = .agg pa := (hu 8).1 (by decide)
              obtain ⟨sN, cN, e9⟩ := (hu 9).2.1 rfl
              have e10 : u 10 = .int .i64 pE := (hu 10).2.2 rfl
              simp only [List.take_succ_cons, List.take_zero]
              refine Tn.spec_cons (fun Y hC hd => ⟨by rfl, Tn.gives_val (.slice (some ⟨g2, 0, none⟩) n cap2) Y (by rfl) ⟨hC, Below.refl _ _, fun _ => rfl, (fun e => by cases e), (fun e => by cases e)⟩⟩) ?_
              simp only [Act.put, List.setIfInBounds_toArray, List.set_cons_succ, List.set_cons_zero, Nat.reduceAdd]
              rw [e0]
              refine Tn.spec_cons (fun Y hC hd => ⟨by rfl, Tn.gives_val (.int .i64 (i : Int)) Y (by rfl) ⟨hC, Below.refl _ _, fun _ => rfl, (fun e => by cases e), (fun e => by cases e)⟩⟩) ?_
              simp only [Act.put, List.setIfInBounds_toArray, List.set_cons_succ, List.set_cons_zero, Nat.reduceAdd]
              rw [e1]
              refine Tn.spec_cons (fun Y hC hd => ⟨by rfl, Tn.gives_val (.pointer (some ⟨g2, 0 + i * 5, none⟩)) Y (exec_at5 77 61 Try.underlying77 sizePO (.tmp 51) (.tmp 52) rfl g2 0 n cap2 i rfl rfl HLt.out) ⟨hC, Below.refl _ _, fun _ => rfl, (fun e => by cases e), (fun e => by cases e)⟩⟩) ?_
              simp only [Act.put, List.setIfInBounds_toArray, List.set_cons_succ, List.set_cons_zero, Nat.reduceAdd]
              rw [e2]
              refine Tn.spec_cons (fun Y hC hd => ⟨by rfl, Tn.gives_val (.agg pa) Y (exec_load_mid 61 (.tmp 53) rfl g2 (0 + i * 5) rfl pa.toList _ (fun j u hu => (hC.cell (block_lt_of_cell (HRg.out j u hu))).trans (HRg.out j u hu)) Try.underlying61 rfl HPs.out) ⟨hC, Below.refl _ _, fun _ => rfl, (fun e => by cases e), (fun e => by cases e)⟩⟩) ?_
              simp only [Act.put, List.setIfInBounds_toArray, List.set_cons_succ, List.set_cons_zero, Nat.reduceAdd]
              rw [e3]
              refine Tn.spec_cons (fun Y hC hd => ⟨by rfl, Tn.gives_val (.agg v.cells) Y (exec_load_row 31 (.tmp 1) rfl w.heap.size rfl 31 v.cells (0, 0) _ (HXr.out.later hC).fw.row Try.underlying31 rfl size_wts) ⟨hC, Below.refl _ _, fun _ => rfl, (fun e => by cases e), (fun e => by cases e)⟩⟩) ?_
              simp only [Act.put, List.setIfInBounds_toArray, List.set_cons_succ, List.set_cons_zero, Nat.reduceAdd]
              rw [e4]
              refine Tn.spec_cons (fun Y hC hd => ⟨by rfl, Tn.gives_val (.slice (some ⟨g2, 0, none⟩) n cap2) Y (by rfl) ⟨hC, Below.refl _ _, fun _ => rfl, (fun e => by cases e), (fun e => by cases e)⟩⟩) ?_
              simp only [Act.put, List.setIfInBounds_toArray, List.set_cons_succ, List.set_cons_zero, Nat.reduceAdd]
              rw [e5]
              refine Tn.spec_cons (fun Y hC hd => ⟨by rfl, Tn.gives_val (.int .i64 (i : Int)) Y (by rfl) ⟨hC, Below.refl _ _, fun _ => rfl, (fun e => by cases e), (fun e => by cases e)⟩⟩) ?_
              simp only [Act.put, List.setIfInBounds_toArray, List.set_cons_succ, List.set_cons_zero, Nat.reduceAdd]
              rw [e6]
              refine Tn.spec_cons (fun Y hC hd => ⟨by rfl, Tn.gives_val (.pointer (some ⟨g2, 0 + i * 5, none⟩)) Y (exec_at5 77 61 Try.underlying77 sizePO (.tmp 56) (.tmp 57) rfl g2 0 n cap2 i rfl rfl HLt.out) ⟨hC, Below.refl _ _, fun _ => rfl, (fun e => by cases e), (fun e => by cases e)⟩⟩) ?_
              simp only [Act.put, List.setIfInBounds_toArray, List.set_cons_succ, List.set_cons_zero, Nat.reduceAdd]
              rw [e7]
              refine Tn.spec_cons (fun Y hC hd => ⟨by rfl, Tn.gives_val (.agg pa) Y (exec_load_mid 61 (.tmp 58) rfl g2 (0 + i * 5) rfl pa.toList _ (fun j u hu => (hC.cell (block_lt_of_cell (HRg.out j u hu))).trans (HRg.out j u hu)) Try.underlying61 rfl HPs.out) ⟨hC, Below.refl _ _, fun _ => rfl, (fun e => by cases e), (fun e => by cases e)⟩⟩) ?_
              simp only [Act.put, List.setIfInBounds_toArray, List.set_cons_succ, List.set_cons_zero, Nat.reduceAdd]
              rw [e8]
              refine Tn.spec_cons (fun Y hC hd => ⟨by rfl, Tn.gives_call _ _ (exec_call2 20 (.tmp 55) (.tmp 59) #[31, 61] _ _ rfl rfl rfl (cf Try.func20 (by kernel_rfl) (by kernel_rfl) _ _)) ?_⟩) ?_
              · rw [← HPa.out]
                refine (given_part wr Y hC v m (HV.out.later HXr.out.fw.below) b.k b.y HK1.out (b.r : Int) (b.c : Int) (!isVec b.k)).mono fun e2 Y' ⟨sp, cap, e3, h3, hb3⟩ => ?_
                rw [HPp.out] at e3 h3
                rw [HRC.out.1, HRC.out.2] at e3
                exact ⟨_, e3, hC.trans (hb3.mono hC.size), hb3, (fun h => by omega), (fun _ => ⟨sp, cap, rfl, h3⟩), (fun h => by omega)⟩
              simp only [Act.put, List.setIfInBounds_toArray, List.set_cons_succ, List.set_cons_zero, Nat.reduceAdd]
              rw [e9]
              refine Tn.spec_cons (fun Y hC hd => ⟨by rfl, Tn.gives_call _ _ (exec_call2 27 (.tmp 54) (.tmp 60) #[61, 58] _ _ rfl rfl rfl (cf Try.func27 (by kernel_rfl) (by kernel_rfl) _ _)) ?_⟩) ?_
              · obtain ⟨sp, cap, e9', hn9⟩ := (hd ⟨9, .data⟩ (by simp) (by kernel_rfl)).2.1 rfl
                rw [e9] at e9'
                unfold gvC at e9'
                injection e9' with e9'
                have q := congrArg Array.toList e9'
                simp only [List.cons.injEq, Value.slice.injEq, true_and, and_true] at q
                obtain ⟨q1, q2⟩ := q
                subst q1 q2
                rw [← HPa.out, ← HRC.out.1, ← HRC.out.2]
                refine (refRight_any Y b p sN cN p.l.length rfl (Sl.below hn9 (Nat.le_refl _) hC)).mono fun e2 Y' ⟨e3, hb3⟩ => ?_
                rw [HPE.out] at e3
                exact ⟨_, e3, hC.trans (hb3.mono hC.size), hb3, (fun h => by omega), (fun h => by omega), (fun _ => rfl)⟩
              simp only [Act.put, List.setIfInBounds_toArray, List.set_cons_succ, List.set_cons_zero, Nat.reduceAdd]
              rw [e10]
              exact Tn.spec_nil
            intro u Y hu hC hP
            have e0 : u 0 = .slice (some ⟨g2, 0, none⟩) n cap2 := (hu 0).1 (by decide)
            have e1 : u 1 = .int .i64 (i : Int) := (hu 1).1 (by decide)
            have e2 : u 2 = .pointer (some ⟨g2, 0 + i * 5, none⟩) := (hu 2).1 (by decide)
            have e3 : u 3 = .agg pa := (hu 3).1 (by decide)
            have e4 : u 4 = .agg v.cells := (hu 4).1 (by decide)
            have e5 : u 5 = .slice (some ⟨g2, 0, none⟩) n cap2 := (hu 5).1 (by decide)
            have e6 : u 6 = .int .i64 (i : Int) := (hu 6).1 (by decide)
            have e7 : u 7 = .pointer (some ⟨g2, 0 + i * 5, none⟩) := (hu 7).1 (by decide)
            have e8 : u 8 = .agg pa := (hu 8).1 (by decide)
            obtain ⟨sN, cN, e9⟩ := (hu 9).2.1 rfl
            have e10 : u 10 = .int .i64 pE := (hu 10).2.2 rfl
            simp only [List.take_succ_cons, List.take_zero, List.drop_succ_cons, List.drop_zero, Tn.putAll, Act.put, List.setIfInBounds_toArray, List.set_cons_succ, List.set_cons_zero, Nat.reduceAdd]
            rw [e0, e1, e2, e3, e4, e5, e6, e7, e8, e9, e10]
            clear e0 e1 e2 e3 e4 e5 e6 e7 e8 e9 e10
            have HX8 := Lib.hid (HXr.out.later hC)
            have HA8 := Lib.hid (HAr.out.later hC)
            clear hu hC hP
            by_cases h0 : pE = 0
            · subst h0
              go_wp2
              go_roundw
              case rel => exact ⟨i + 1, by have := HLt.out; omega, by go_num, HX8.out, HA8.out, by rw [HPe.out, HDr.out]; exact partsE_yes (by rw [HPp.out, HPE.out])⟩
              case measure => simp [intOf]; have := HLt.out; omega
            · have q1 : (pE == 0) = false := by simpa using h0
              have q2 : (pE != 0) = true := by simpa using h0
              have HEE : Hid (E = pE) := Lib.hid (by rw [HE4.out, HPe.out, HDr.out, partsE_no (by rw [HPp.out, HPE.out]; exact h0), HPp.out, HPE.out])
              clear h0
              go_wp2
              go_ret
              exact ⟨by rw [HEE.out]; rfl, HX8.out.fw.below⟩
          · obtain rfl : i = n := by omega
            have d1 : decide (i < i) = false := by simp
            have d2 : decide ((i : Int) < (i : Int)) = false := by simp
            have HEE : Hid (E = 0) := Lib.hid (by rw [HE4.out, HPe.out, List.drop_of_length_le (by rw [Hn.out]; exact Nat.le_refl _)]; rfl)
            clear hlt hi
            go_wp2
            go_ret
            exact ⟨by rw [HEE.out]; rfl, HXr.out.fw.below⟩
        · have d2 : ((v.nl : Int) != m.cfg.l) = true := by rw [bne_iff_ne]; exact h2
          have HEE := Lib.hid (HE2'.out (Or.inr h2))
          clear h1 h2
          go_wp2
          go_ret
          exact ⟨by rw [HEE.out]; rfl, HX6.out.fw.below⟩
      · have d1 : ((n1 : Int) != m.cfg.v) = true := by rw [bne_iff_ne]; exact h1
        have HEE := Lib.hid (HE2'.out (Or.inl h1))
        clear h1
        go_wp2
        go_ret
        exact ⟨by rw [HEE.out]; rfl, HX6.out.fw.below⟩
    · have q1 : (E9 == 0) = false := by simpa using h9
      have q2 : (E9 != 0) = true := by simpa using h9
      have HEE := Lib.hid (HE1.out HCk.out h9)
      clear h9 hn1
      go_wp2
      go_ret
      exact ⟨by rw [HEE.out]; rfl, HX6.out.fw.below⟩
  · have q1 : (m.cfg.chk == 0) = false := by simpa using hck
    have q2 : (m.cfg.chk != 0) = true := by simpa using hck
    have HEE := Lib.hid (HE0.out hck)
    clear hck
    go_wp2
    go_ret
    exact ⟨by rw [HEE.out]; rfl, HX4.out.fw.below⟩
end Go.Proofs.Ytkfkjapkcjidnaa.Wg
namespace Go.Proofs.Ytkfkjapkcjidnaa.Wg
set_option maxRecDepth 100000
open Go.ChangeShapes Go.WideShapes Go.ChangeAt Go.RowKit Go.Shelf Go.Proofs.Ytkfkjapkcjidnaa.Tn
attribute [local go_sem] Oper.semAt_some

/-! ### rows of leaves that grow by rows of leaves -/
theorem PcT.mono {B B' : Nat} {W : World} {u : Value} {l : List Int} (h : PcT B W u l) (hB : B ≤ B') : PcT B' W u l := by
  obtain ⟨sp, cap, e, hb, ht⟩ := h
  exact ⟨sp, cap, e, hb, fun c o e1 h0 => (ht c o e1 h0).imp (fun h => by omega) id⟩
/-- a row of leaves at base, whose pieces lie below B, or are bytes -/
def LvG (B base : Nat) (v : Value) (ls : List (List Int)) (W : World) : Prop :=
  ∃ vs : List Value, W.ownsRow base 24 1 v ls.length vs ∧ vs.length = ls.length ∧ (∀ i u, vs[i]? = some u → PcT B W u (ls.getD i [])) ∧ base ≤ W.heap.size
section
variable {B base : Nat} {W W' : World} {v : Value} {ls : List (List Int)}
theorem LvG.lv (h : LvG B base v ls W) (hB : B ≤ base) : LvR base v ls W := by
  obtain ⟨vs, h1, h2, h3, h4⟩ := h
  exact ⟨vs, h1, h2, fun i u hu => (h3 i u hu).mono hB, h4⟩
theorem LvG.of (h : LvR base v ls W) : LvG base base v ls W := h
theorem LvG.nil (W : World) (hb : base ≤ W.heap.size) : LvG B base (.slice none 0 0) [] W := ⟨[], World.ownsRow_nil _ _ _ _, rfl, fun i u hu => by simp at hu, hb⟩
theorem LvG.later (h : LvG B base v ls W) (hb : Below W.heap.size W W') : LvG B base v ls W' := by
  obtain ⟨vs, h1, h2, h3, h4⟩ := h
  exact ⟨vs, owns_below h1 hb, h2, fun i u hu => (h3 i u hu).later hb, Nat.le_trans h4 hb.size⟩
theorem PcT.grownG (hr : LvG B base v ls W) (hB : B ≤ base) (hg : W.grownBy W' v.ownBlock) {u : Value} {l : List Int} (h : PcT B W u l) : PcT B W' u l :=
  h.over (P := fun c => ∃ o, W.heap[c]? = some o ∧ (c < base ∨ ∀ cs fr, o ≠ .cells cs 24 fr)) (fun c hc o x hx => by
    have hl := block_lt_of_cell hx
    refine ⟨W.heap[c], by simp [hl], ?_⟩
    rcases hc with h1 | ⟨cs, fr, h1⟩
    · exact Or.inl (by omega)
    · refine Or.inr fun cs' fr' e => ?_
      rw [Array.getElem?_eq_getElem hl] at h1
      rw [Option.some.inj h1] at e
      cases e) (fun c ⟨o, ho, hne⟩ => ((hr.lv hB).keeps hg ho hne).trans ho.symm)
/-- such a row as a slice of pieces -/
theorem LvG.form (h : LvG B base v ls W) : ∃ sx cx us, v = .slice sx ls.length cx ∧ us.length = ls.length ∧ Sl W sx cx us ∧ ∀ i u, us[i]? = some u → PcT B W u (ls.getD i []) := by
  obtain ⟨vs, h1, h2, h3, _⟩ := h
  obtain ⟨sp, cap, e, hl, hs, _⟩ := Sl.all1 h1
  exact ⟨sp, cap, vs, e, h2, hs, h3⟩
end
theorem wpList_push_lvg {W : World} {ops : Array Oper} {rest : List Oper} {o : Oper} {a : Act} {Q : Exit → Act → World → Prop} (hgd : o.guard = none) (s x : Operand) (ho : o.op = .call { callee := .builtin .append, args := #[s, x], argTypes := #[39, 39] })
    (B base : Nat) (hB : B ≤ base) (v : Value) (ls ls2 : List (List Int)) (us : List Value) (hs : a.eval s = v) (hv : LvG B base v ls W) (sx : Option Addr) (n2 cx : Nat) (hx : a.eval x = .slice sx n2 cx) (hn2 : ls2.length = n2) (hl : us.length = n2) (hsl : Sl W sx cx us) (hu : ∀ i u, us[i]? = some u → PcT B W u (ls2.getD i [])) (hn : ls.length + n2 ≤ 999990)
    (h : ∀ v' w', LvG B base v' (ls ++ ls2) w' → W.grownBy w' v.ownBlock → wpList Try.prog ops Q rest (a.put o.dst v') w') : wpList Try.prog ops Q (o :: rest) a W := by
  have hr := hv
  obtain ⟨vs, h1, h2, h3, h4⟩ := hv
  refine wpList_append_sl 39 24 24 (.slice none 0 0) Try.underlying39 info39 rfl (by decide) hgd s x ho base v ls.length n2 vs us hs h1 sx cx hx hl hsl (fun y hy => by
    obtain ⟨i, hi⟩ := List.mem_iff_getElem?.1 hy
    obtain ⟨sp, cap, rfl, _⟩ := hu i y hi
    rfl) (by omega) h4 ?_
  intro v' w' k1 k2
  refine h v' w' ⟨vs ++ us, by rw [List.length_append, hn2]; exact k1, by simp [h2, hl, hn2], fun i y hy => ?_, Nat.le_trans h4 k2.size⟩ k2
  by_cases hi : i < vs.length
  · rw [List.getElem?_append_left hi] at hy
    have e : (ls ++ ls2).getD i [] = ls.getD i [] := by
      rw [List.getD_eq_getElem?_getD, List.getElem?_append_left (by omega), ← List.getD_eq_getElem?_getD]
    rw [e]
    exact PcT.grownG hr hB k2 (h3 i y hy)
  · rw [List.getElem?_append_right (by omega)] at hy
    have e : (ls ++ ls2).getD i [] = ls2.getD (i - vs.length) [] := by
      rw [List.getD_eq_getElem?_getD, List.getElem?_append_right (by omega), ← List.getD_eq_getElem?_getD, h2]
    rw [e]
    exact PcT.grownG hr hB k2 (hu _ y hy)
/-! ### the first leaf, by the document -/
theorem run_arr6 (p : Nat) (w : World) : (Instr.sliceAt 67 (.pointer (some ⟨p, 0, none⟩)) none none none).run Try.prog w = .ok (.slice (some ⟨p, 0, none⟩) 6 6) w := by
  cases hq : Try.prog.info? 3 with
  | none => have := size3; simp [hq] at this
  | some i =>
    have hadd := Tn.add_plain p 0 0
    simp only [Nat.zero_add] at hadd
    simp [Instr.sliceAt, Instr.sureAddr, run_underlying Try.underlying67, Instr.sliceBounds, sizeOf, typeInfo, hq, hadd]
theorem cfg_nums {W : World} {g : Nat} {c : Cfg} (h : W.heap[g]? = some (.cells c.cells 67 (0, 0))) : Cd.Nums W (some ⟨g, 0, none⟩) 6 c.list := by
  refine ⟨by simp [Cfg.list], by unfold maxLen; omega, (fun h => by cases h), fun _ => ⟨_, _, rfl, fun i v hv => ?_⟩⟩
  rw [cell_of_row _ _ _ _ _ _ h, Nat.zero_add, ← hv]
  rcases i with _ | _ | _ | _ | _ | _ | i <;> rfl
theorem pieces3 {W : World} {g : Nat} {a b c : Value} {la lb lc : List Int} (hg : W.heap[g]? = some (.cells #[a, b, c] 24 (0, 0))) (ha : Cd.PcVal W a la) (hb : Cd.PcVal W b lb) (hc : Cd.PcVal W c lc) : Cd.Pieces W (some ⟨g, 0, none⟩) 3 [la, lb, lc] := by
  refine ⟨[a, b, c], rfl, ⟨by simp, by unfold maxLen; omega, (fun h => by cases h), fun _ => ⟨_, _, rfl, fun i v hv => ?_⟩⟩, fun i v hv => ?_⟩
  · rw [cell_of_row _ _ _ _ _ _ hg, Nat.zero_add, ← hv]
    rcases i with _ | _ | _ | i <;> rfl
  · rcases i with _ | _ | _ | i
    · obtain rfl : a = v := by simpa using hv
      exact ha
    · obtain rfl : b = v := by simpa using hv
      exact hb
    · obtain rfl : c = v := by simpa using hv
      exact hc
    · simp at hv
set_option maxHeartbeats 4000000 in
theorem refHead_any (w : World) (c : Cfg) (hc : i64 c.list) (sa : Option Addr) (na ca : Nat) (al : List Int) (ha : Cd.Bytes w sa ca al) (hna : al.length = na) (ha3 : na ≤ 1000) (sf : Option Addr) (nf cf : Nat) (fl : List Int) (hf : Cd.Nums w sf cf fl) (hnf : fl.length = nf) (hfi : i64 fl) (hf3 : nf ≤ 1000) :
    Calls Try.prog 29 #[.agg c.cells, .slice sa na ca, .slice sf nf cf] w fun e w' => ∃ sp cap, e = .returned (.slice sp (Cd.join [Cd.nums c.list, al, Cd.nums fl]).length cap) ∧ Cd.Bytes w' sp cap (Cd.join [Cd.nums c.list, al, Cd.nums fl]) ∧ Below w.heap.size w w' := by
  have HA := Lib.hid ha
  have HF := Lib.hid hf
  have HNa := Lib.hid hna
  have HNf := Lib.hid hnf
  have HFi := Lib.hid hfi
  have HCi := Lib.hid hc
  have HL3 := Lib.hid (And.intro ha3 hf3)
  have hb1 : Below w.heap.size w (w.alloc (.cells c.cells 67)) := (Below.refl _ _).alloc (Nat.le_refl _) _
  have HX0 : Hid (Below w.heap.size w (w.alloc (.cells c.cells 67)) ∧ (w.alloc (.cells c.cells 67)).heap[w.heap.size]? = some (.cells c.cells 67 (0, 0))) := Lib.hid ⟨hb1, heap_alloc_new _ _⟩
  have HJl : Hid ((Cd.join [Cd.nums c.list, al, Cd.nums fl]).length ≤ 990000) := Lib.hid (by
    rw [join_length]
    simp only [List.map_cons, List.map_nil, List.sum_cons, List.sum_nil, numsQ_length, hna, hnf]
    have : c.list.length = 6 := rfl
    omega)
  clear ha hf hna hnf hfi hc ha3 hf3 hb1
  obtain ⟨N6, hN6⟩ : ∃ N, Cd.nums c.list = N := ⟨_, rfl⟩
  obtain ⟨NF, hNF⟩ : ∃ N, Cd.nums fl = N := ⟨_, rfl⟩
  have HL6 : Hid (N6.length = 48) := Lib.hid (by rw [← hN6, numsQ_length]; rfl)
  have HLF : Hid (NF.length = 8 * nf) := Lib.hid (by rw [← hNF, numsQ_length, HNf.out])
  have HE6 := Lib.hid hN6
  have HEF := Lib.hid hNF
  rw [hN6, hNF] at HJl ⊢
  clear hN6 hNF
  obtain ⟨J, hJ⟩ : ∃ J, Cd.join [N6, al, NF] = J := ⟨_, rfl⟩
  have HJ := Lib.hid hJ
  rw [hJ] at HJl ⊢
  clear hJ
  go_enter Try.func29, Try.ntmps29
  go_upto_region 1 with fail
  refine gen_w (Q := fun w => Code.wp _ _ _ _ w) _ (fun W => Below w.heap.size w W ∧ W.heap[w.heap.size]? = some (.cells c.cells 67 (0, 0))) HX0.out ?_
  clear HX0
  rintro w1 ⟨hb1, hr1⟩
  have HB1 := Lib.hid hb1
  have HR1 := Lib.hid hr1
  clear hb1 hr1
  have hr6 := run_arr6 w.heap.size
  go_wp2_with fail
  refine (Cd.ref_numbers w1 (some ⟨w.heap.size, 0, none⟩) 6 6 c.list rfl (cfg_nums HR1.out) HCi.out (by omega)).mono ?_
  rintro e w2 ⟨s2, c2, rfl, hy2, hb2⟩
  rw [HE6.out] at hy2
  have HB2 := Lib.hid (HB1.out.trans (hb2.mono HB1.out.size))
  have HY2 := Lib.hid hy2
  clear hb2 hy2 hr6
  go_wp2_with fail
  refine (Cd.ref_numbers w2 sf cf nf fl HNf.out (Cd.Sl.below HF.out (Nat.le_refl _) HB2.out) HFi.out HL3.out.2).mono ?_
  rintro e w3 ⟨s3, c3, rfl, hy3, hb3⟩
  rw [HEF.out] at hy3
  have HB3 := Lib.hid (HB2.out.trans (hb3.mono HB2.out.size))
  have hY2 := HY2.out.below hb3
  have hal : Below w3.heap.size w3 (w3.alloc (.cells #[.slice s2 (8 * 6) c2, .slice sa na ca, .slice s3 (8 * nf) c3] 24)) := (Below.refl _ _).alloc (Nat.le_refl _) _
  have HP3 := Lib.hid (pieces3 (heap_alloc_new w3 (.cells #[.slice s2 (8 * 6) c2, .slice sa na ca, .slice s3 (8 * nf) c3] 24)) (la := N6) (lb := al) (lc := NF) ⟨s2, c2, by rw [HL6.out], hY2.below hal⟩ ⟨sa, ca, by rw [HNa.out], HA.out.below (HB3.out.trans (hal.mono HB3.out.size))⟩ ⟨s3, c3, by rw [HLF.out], hy3.below hal⟩)
  have HB4 := Lib.hid (HB3.out.trans (hal.mono HB3.out.size))
  clear hb3 hy3 hY2 hal
  go_wp2_with fail
  refine (Cd.ref_join _ (some ⟨w3.heap.size, 0, none⟩) 3 3 [N6, al, NF] rfl HP3.out (by rw [HJ.out]; exact HJl.out)).mono ?_
  rintro e w4 ⟨s4, c4, rfl, hy4, hb4⟩
  rw [HJ.out] at hy4
  have HB5 : Hid (Below w.heap.size w w4) := Lib.hid (HB4.out.trans (hb4.mono HB4.out.size))
  have HY4 := Lib.hid hy4
  clear hb4 hy4
  rw [HJ.out]
  go_wp2
  go_ret
  exact ⟨s4, c4, rfl, HY4.out, HB5.out⟩
/-! ### the leaves of a part, by the document -/
theorem leavesB_get {b : Bl} {p : Mt} {i : Nat} (hi : i < b.r) : (leavesB b p)[i]? = some (Cd.nums ((p.l.drop (i * b.c)).take b.c)) := by
  simp [leavesB, rowsL, hi]
set_option maxHeartbeats 8000000 in
theorem refLeaves_any (w : World) (b : Bl) (p : Mt) (r c : Int) (mm : Bool) (sp : Option Addr) (cap n : Nat) (hn : p.l.length = n) (hl : Nums w sp cap p.l) (hlen : p.l.length = b.r * b.c) (hc : 1 ≤ b.c ∧ b.c ≤ 64) (hr : b.r ≤ 512) (hi : i64 p.l) :
    Calls Try.prog 30 #[.agg (prC (b.k : Int) (b.y : Int) (b.r : Int) (b.c : Int) mm), .agg (gvC r c sp n cap)] w fun e w' => ∃ v, e = .returned v ∧ LvG 0 (w.heap.size + 2) v (leavesB b p) w' ∧ Below w.heap.size w w' := by
  have HL := Lib.hid hl
  have HX0 := Lib.hid (RrI.new w (prC (b.k : Int) (b.y : Int) (b.r : Int) (b.c : Int) mm) (gvC r c sp n cap))
  have HI := Lib.hid hi
  obtain ⟨C, hC⟩ : ∃ C, b.c = C := ⟨_, rfl⟩
  obtain ⟨R, hR⟩ : ∃ R, b.r = R := ⟨_, rfl⟩
  have HG : Hid (∀ i, i < R → (leavesB b p)[i]? = some (Cd.nums ((p.l.drop (i * C)).take C))) := Lib.hid fun i h => by rw [← hC]; exact leavesB_get (by omega)
  have HLe : Hid ((leavesB b p).length = R) := Lib.hid (by rw [leavesB_length, hR])
  rw [hC, hR] at HX0 hlen ⊢
  rw [hC] at hc
  rw [hR] at hr
  have HC := Lib.hid hc
  have HR := Lib.hid hr
  have HN : Hid (n = R * C) := Lib.hid (by rw [← hn, hlen])
  have HPl := Lib.hid hn
  obtain ⟨LS, hLS⟩ : ∃ LS, leavesB b p = LS := ⟨_, rfl⟩
  rw [hLS] at HG HLe ⊢
  clear hl hi hC hR hlen hc hr hn hLS
  unfold prC gvC at HX0 ⊢
  go_enter Try.func30, Try.ntmps30
  go_upto_region 1 with fail
  refine gen_w (Q := fun w => Code.wp _ _ _ _ w) _ (RrI w _ _) HX0.out ?_
  clear HX0
  intro w1 hx
  have HX1 := Lib.hid hx
  clear hx
  have HBg : Hid (w.heap.size + 2 ≤ w1.heap.size) := Lib.hid (Array.getElem?_eq_some_iff.1 HX1.out.rg).1
  go_wp2
  go_loopw [5, 6] (fun ov iv wr => ∃ i : Nat, i ≤ R ∧ iv = .int .i64 (i : Int) ∧ LvG 0 (w.heap.size + 2) ov (LS.take i) wr ∧ RrI w _ _ wr) (fun _ iv _ => R - (intOf iv).toNat)
  case atStart => exact ⟨0, by omega, rfl, LvG.nil _ HBg.out, HX1.out⟩
  case round =>
  obtain ⟨i, hi, rfl, hlv, hx⟩ := hrel
  have HLv := Lib.hid hlv
  have HX := Lib.hid hx
  clear hlv hx HX1
  have c2 : wr.cell? ⟨w.heap.size, 2, none⟩ = some (.int .i64 (R : Int)) := HX.out.cp 2
  have c3 : wr.cell? ⟨w.heap.size, 3, none⟩ = some (.int .i64 (C : Int)) := HX.out.cp 3
  have g2 : wr.cell? ⟨w.heap.size + 1, 2, none⟩ = some (.slice sp n cap) := HX.out.cg 2
  by_cases hlt : i < R
  · have d1 : decide (i < R) = true := by simpa using hlt
    have d2 : decide ((i : Int) < (R : Int)) = true := by simp; omega
    have hw5 : IntKind.i64.wrap ((i : Int) + 1) = (i : Int) + 1 := IntWalk.i64_in _ (by have := HR.out; omega)
    have hle : (i + 1) * C ≤ R * C := Nat.mul_le_mul_right C hlt
    rw [Nat.succ_mul] at hle
    have hnr := nums_mid HL.out C i HC.out.1 (by rw [HPl.out, HN.out]; exact hle)
    have hRl : R * C ≤ 512 * 64 := Nat.mul_le_mul HR.out HC.out.2
    have hnc : n ≤ cap := by have := HL.out.le; rw [List.length_map, HPl.out] at this; exact this
    have hg := HG.out i hlt
    have hrl : ((p.l.drop (i * C)).take C).length = C := by rw [List.length_take, List.length_drop, HPl.out, HN.out]; omega
    have hri : i64 ((p.l.drop (i * C)).take C) := fun x hx => HI.out x (List.mem_of_mem_drop (List.mem_of_mem_take hx))
    obtain ⟨row, hrow⟩ : ∃ row, (p.l.drop (i * C)).take C = row := ⟨_, rfl⟩
    rw [hrow] at hnr hg hrl hri
    obtain ⟨q, hq⟩ : ∃ q, i * C = q := ⟨_, rfl⟩
    have hqi : (i : Int) * (C : Int) = (q : Int) := by rw [← hq]; simp
    rw [hq] at hnr hle
    obtain ⟨h, hh⟩ : ∃ h, q + C = h := ⟨_, rfl⟩
    have m1 : IntKind.i64.wrap ((i : Int) * (C : Int)) = (q : Int) := by rw [hqi]; exact IntWalk.i64_in _ (by omega)
    have m2 : IntKind.i64.wrap ((q : Int) + (C : Int)) = (h : Int) := by rw [IntWalk.i64_in _ (by omega)]; omega
    have hrm := run_mid sp n cap q h (by omega) (by have := HN.out; omega)
    rw [show h - q = C by omega] at hrm
    have HRm := Lib.hid hrm
    have HNr := Lib.hid (Cd.Sl.below hnr (Nat.le_refl _) HX.out.below)
    have HRl := Lib.hid hrl
    have HRi := Lib.hid hri
    have HTk : Hid (LS.take (i + 1) = LS.take i ++ [Cd.nums row]) := Lib.hid (by rw [List.take_add_one, hg]; rfl)
    have HLen : Hid ((LS.take i).length ≤ 512) := Lib.hid (by rw [List.length_take, HLe.out]; have := HR.out; omega)
    have HLt := Lib.hid hlt
    have HNl : Hid ((Cd.nums row).length = 8 * C) := Lib.hid (by rw [numsQ_length, hrl])
    clear hle hnr hRl hnc hg hrl hri hrow hq hqi hh hrm hlt hi
    go_wp2_with (first
      | (refine wpList_exec rfl (.slice (cutA sp cap q) C (cap - q)) (Cd.exec_cut 26 3 (.tmp 15) (some (.tmp 19)) (some (.tmp 26)) rfl Try.underlying26 _ (HRm.out _)) ?_)
      | (go_at_call 16; refine (Cd.ref_numbersO wr (cutA sp cap q) (cap - q) C row HRl.out HNr.out HRi.out (by have := HC.out.2; omega)).mono ?_; rintro e w2 ⟨s2, c2', rfl, hown, _, hb2⟩; have HX2 := Lib.hid (HX.out.later hb2); have hal : Below w2.heap.size w2 (w2.alloc (.cells #[.slice s2 (8 * C) c2'] 24)) := (Below.refl _ _).alloc (Nat.le_refl _) _; have HX3 := Lib.hid (HX2.out.later hal); have HL3 := Lib.hid ((HLv.out.later hb2).later hal); have hpc : PcT 0 w2 (.slice s2 (8 * C) c2') (Cd.nums row) := PcT.own hown (Cd.rng_nums row); have HP3 := Lib.hid (hpc.later hal); have HR3 : Hid (Sl (w2.alloc (.cells #[.slice s2 (8 * C) c2'] 24)) (some ⟨w2.heap.size, 0, none⟩) 1 [.slice s2 (8 * C) c2']) := Lib.hid (Sl.new w2 _ _ 24 (0, 0) rfl (by simp)); clear hown hb2 hal hpc)
      | (refine wpList_push_lvg rfl (.tmp 13) (.tmp 29) rfl 0 (w.heap.size + 2) (Nat.zero_le _) _ (LS.take i) [Cd.nums row] [.slice s2 (8 * C) c2'] rfl HL3.out (some ⟨w2.heap.size, 0, none⟩) 1 1 rfl rfl rfl HR3.out (fun j u hj => by
          rcases j with _ | j
          · obtain rfl : Value.slice s2 (8 * C) c2' = u := by simpa using hj
            exact HP3.out
          · simp at hj) (by have := HLen.out; omega) ?_; intro v4 w4 hl4 hg4; have HL4 := Lib.hid hl4; have hb4 := (HL3.out.lv (Nat.zero_le _)).below hg4; have HX4 : Hid (RrI w _ _ w4) := Lib.hid ⟨HX3.out.below.trans (hb4.mono (by omega)), (hb4.block _ (by omega)).trans HX3.out.rp, (hb4.block _ (by omega)).trans HX3.out.rg⟩; clear hl4 hg4 hb4))
    go_roundw
    case rel => exact ⟨i + 1, by have := HLt.out; omega, by go_num, by rw [HTk.out]; exact HL4.out, HX4.out⟩
    case measure => simp [intOf]; have := HLt.out; omega
  · obtain rfl : i = R := by omega
    have d1 : decide (i < i) = false := by simp
    have d2 : decide ((i : Int) < (i : Int)) = false := by simp
    have hlv := HLv.out
    rw [List.take_of_length_le (by rw [HLe.out]; exact Nat.le_refl _)] at hlv
    have HLv2 := Lib.hid hlv
    clear hlt hi hlv HLv
    go_wp2
    go_ret
    exact ⟨_, rfl, HLv2.out, HX.out.below⟩
end Go.Proofs.Ytkfkjapkcjidnaa.Wg
namespace Go.Proofs.Ytkfkjapkcjidnaa.Wg
set_option maxRecDepth 100000
open Go.ChangeShapes Go.WideShapes Go.ChangeAt Go.RowKit Go.Shelf Go.Proofs.Ytkfkjapkcjidnaa.Tn
attribute [local go_sem] Oper.semAt_some

/-! ### two numbers more -/
section
variable {a : Act} {o : Oper} {W W' : World}
theorem exec_sl2 (x y : Operand) (ho : o.op = .buildSlice 26 2 #[(0, x), (1, y)]) (u v : Int) (hx : a.eval x = .int .i64 u) (hy : a.eval y = .int .i64 v) : (execOp a.eval o).run Try.prog W = .ok (.value (.slice (some ⟨W.heap.size, 0, none⟩) 2 2)) (W.alloc (.cells #[.int .i64 u, .int .i64 v] 3)) := by
  obtain ⟨i0, hi, hz0, hz1, hz2⟩ := info_parts info3
  unfold execOp
  have hr := run_buildSlice (P := Try.prog) W 26 3 2 #[(0, .int .i64 u), (1, .int .i64 v)] #[.int .i64 u, .int .i64 v] i0 _ Try.underlying26 hi hz0 (by rw [hz1]; decide) (by rw [hz1]; decide) (by rw [hz1]; kernel_rfl)
  have e : (#[((0 : Nat), x), (1, y)].map fun (i, x) => (i, a.eval x)) = #[(0, .int .i64 u), (1, .int .i64 v)] := by simp [hx, hy]
  simp only [ho, e, Sem.run_bind, hr, Result.andThen_ok, Sem.run_pure]
theorem gives_append_two {G : Value → World → Prop} (s x : Operand) (ho : o.op = .call { callee := .builtin .append, args := #[s, x], argTypes := #[26, 26] }) (base : Nat) (v : Value) (n : Nat) (l : List Int) (p q : Int) (hs : a.eval s = v) (hown : W.ownsRow base 3 1 v n (l.map (Value.int .i64))) (b : Nat)
    (hx : a.eval x = .slice (some ⟨b, 0, none⟩) 2 2) (hc : W.cell? ⟨b, 0, none⟩ = some (.int .i64 p)) (hc2 : W.cell? ⟨b, 1, none⟩ = some (.int .i64 q)) (hn : n ≤ 999990) (hbase : base ≤ W.heap.size) (h : ∀ v' W', W'.ownsRow base 3 1 v' (n + 2) ((l ++ [p, q]).map (Value.int .i64)) → W.grownBy W' v.ownBlock → G v' W') : Gives Try.prog o a W G := by
  obtain ⟨i0, hi, hz0, hz1, hz2⟩ := info_parts info3
  obtain ⟨v', w', hrun, hown', hg, _⟩ := run_append_own (P := Try.prog) W base 26 o.type 3 i0 _ 1 8 Try.underlying26 hi hz0 hz1 hz2 rfl (by decide) v n _ hown ⟨b, 0, none⟩ 2 2 [.int .i64 p, .int .i64 q] rfl (fun j u hj => by
      rcases j with _ | _ | j
      · obtain rfl : Value.int .i64 p = u := by simpa using hj
        rw [Tn.add_plain]
        exact hc
      · obtain rfl : Value.int .i64 q = u := by simpa using hj
        rw [Tn.add_plain]
        exact hc2
      · simp at hj) (fun u hu => by
      simp at hu
      rcases hu with rfl | rfl <;> rfl)
      (by unfold maxLen; omega) (by omega) hbase
  have hrun' : (execOp a.eval o).run Try.prog W = .ok (.value v') w' := by simp [execOp, ho, resolve, invoke, builtin, hs, hx, hrun, Result.andThen]
  exact Tn.gives_val v' w' hrun' (h v' w' (by rw [List.map_append]; exact hown') hg)
end
theorem RtI.grown {w W W' : World} {v : Wv} {g : Nat} (h : RtI w v g W) {row : Option Nat} (hg : W.grownBy W' row) (hr : ∀ k, row = some k → w.heap.size + 1 ≤ k ∧ k ≠ g) : RtI w v g W' :=
  ⟨h.fw.grown hg fun k hk => (hr k hk).1, (hg.block g (Array.getElem?_eq_some_iff.1 h.sz).1 (fun e => (hr g e.symm).2 rfl)).trans h.sz⟩
theorem RtI.past {w W W' : World} {v : Wv} {g base : Nat} (h : RtI w v g W) (hb : Below base W W') (h1 : w.heap.size + 1 ≤ base) (h2 : g < base) : RtI w v g W' :=
  ⟨⟨h.fw.below.trans (hb.mono (by omega)), (hb.block _ (by omega)).trans h.fw.row⟩, (hb.block _ h2).trans h.sz⟩
theorem flat_succ {ps : List (Int × Int)} {i : Nat} {x y : Int} (hi : i < ps.length) (h : ps.getD i (0, 0) = (x, y)) : flatP (ps.take (i + 1)) = flatP (ps.take i) ++ [x, y] := by
  rw [Bp.ptake_at hi, h]
  simp [flatP]
theorem lvg_base {B b1 b2 : Nat} {v : Value} {ls : List (List Int)} {W : World} (h : LvG B b1 v ls W) (hb : b2 ≤ b1) : LvG B b2 v ls W := by
  obtain ⟨vs, h1, h2, h3, h4⟩ := h
  exact ⟨vs, owns_mono h1 hb, h2, h3, by omega⟩
/-- numbers and truths in memory stay over a step that turns a row of slices alone -/
theorem pts_past {B base : Nat} {v : Value} {ls : List (List Int)} {W W' : World} (h : LvG B base v ls W) (hg : W.grownBy W' v.ownBlock) {g : Nat} {l : List Bl} (hp : PtsAt g l W ∧ ∃ cs fr, W.heap[g]? = some (.cells cs 61 fr)) : PtsAt g l W' ∧ ∃ cs fr, W'.heap[g]? = some (.cells cs 61 fr) := by
  obtain ⟨hp, cs, fr, hg2⟩ := hp
  have hb : W'.heap[g]? = W.heap[g]? := by
    refine hg.block g (Array.getElem?_eq_some_iff.1 hg2).1 (fun e => ?_)
    obtain ⟨vs, h1, _⟩ := h
    rcases h1.2 with ⟨rfl, _⟩ | ⟨g3, cap, cur, rfl, _, h3, _⟩
    · cases e
    · cases e
      rw [hg2] at h3
      exact absurd (Obj.cells.inj (Option.some.inj h3)).2.1 (by decide)
  refine ⟨fun j b hj => ?_, cs, fr, hb.trans hg2⟩
  have h9 := hp j b hj
  unfold World.cell? at h9 ⊢
  simp only [hb]
  exact h9
/-- the parts, and what their block is -/
def PtsK (g : Nat) (l : List Bl) (W : World) : Prop := PtsAt g l W ∧ ∃ cs fr, W.heap[g]? = some (.cells cs 61 fr)
theorem PtsK.later {g : Nat} {l : List Bl} {W W' : World} (h : PtsK g l W) (hb : Below W.heap.size W W') : PtsK g l W' := by
  obtain ⟨h1, cs, fr, h2⟩ := h
  exact ⟨h1.later hb, cs, fr, (hb.block _ (Array.getElem?_eq_some_iff.1 h2).1).trans h2⟩
theorem PtsR.formK {base : Nat} {v : Value} {l : List Bl} {W : World} (h : PtsR base v l W) (hl : 0 < l.length) : ∃ g cap, v = .slice (some ⟨g, 0, none⟩) l.length cap ∧ l.length ≤ cap ∧ PtsK g l W := by
  obtain ⟨g, cap, e, h1, _, h2, _⟩ := h.form hl
  refine ⟨g, cap, e, h1, h2, ?_⟩
  rcases h.1.2 with ⟨e2, _⟩ | ⟨g3, cap3, cur, e3, _, h3, _⟩
  · rw [e2] at e; cases e
  · rw [e3] at e; cases e; exact ⟨cur, _, h3⟩
theorem laysB_rmax {D I : Nat} (hD : D ≤ 64) (hI : I ≤ 64) : ∀ {L : Nat} {b : Bl}, b ∈ laysB D I L → b.r ≤ 512
  | 0, b, h => by simp [laysB] at h
  | L + 1, b, h => by
    have e : laysB D I (L + 1) = laysB D I L ++ layB D I L := rfl
    rw [e, List.mem_append, lay_take] at h
    rcases h with h | h
    · exact laysB_rmax hD hI h
    · simp only [List.mem_cons, List.not_mem_nil, or_false] at h
      rcases h with rfl | rfl | rfl | rfl | rfl | rfl | rfl | rfl | rfl <;> dsimp only <;> omega
theorem blks_rows_le {V D L I : Nat} {b : Bl} (h : b ∈ blks V D L I) (hV : V ≤ 512) (hD : D ≤ 64) (hI : I ≤ 64) : b.r ≤ 512 := by
  unfold blks at h
  simp only [List.mem_cons, List.mem_append, List.not_mem_nil, or_false] at h
  rcases h with rfl | h | rfl | rfl
  · exact hV
  · exact laysB_rmax hD hI h
  · dsimp only; omega
  · exact hV
/-! ### the leaves of a model, by the document -/
set_option maxHeartbeats 16000000 in
theorem leavesW_any (w : World) (v : Wv) (m : Md) (hv : WvOK w v m) (hE : m.chk = 0) (ha : m.al.length ≤ 1000) (hp : m.ps.length ≤ 400) (hi : i64 (flatP m.ps)) : Calls Try.prog 10 #[.agg v.cells] w fun e w' => ∃ val base, e = .returned val ∧ LvR base val (leavesD m) w' ∧ w.heap.size ≤ base ∧ Below w.heap.size w w' := by
  have HX0 := Lib.hid (FwI.new w v)
  have HV := Lib.hid hv
  have HI := Lib.hid hi
  have HSz := Lib.hid (fun W => sizes_any W v.c)
  have HC : Hid (v.c = m.cfg) := Lib.hid hv.c
  rw [HC.out] at HSz
  unfold Cfg.cells at HSz
  obtain ⟨hH, hPz⟩ := chk_zero hE
  obtain ⟨hck, _, _, hnl⟩ := headE_zero hH
  have HOk := Lib.hid (Cfg.ok_of_chk hck)
  have HPa := Lib.hid (fun b (hb : b ∈ m.cfg.blks) => parts_of hE hb)
  have HNl : Hid (v.nl = m.cfg.l.toNat) := Lib.hid (by rw [hv.nl]; omega)
  have HAl := Lib.hid ha
  have HPb := Lib.hid hp
  obtain ⟨P, hP⟩ : ∃ P, m.ps.length = P := ⟨_, rfl⟩
  have HP := Lib.hid hP
  rw [hP] at HPb
  have HDl : Hid (leavesD m = headB m.cfg m.al m.ps :: leavesT m) := Lib.hid rfl
  obtain ⟨LD, hLD⟩ : ∃ LD, leavesD m = LD := ⟨_, rfl⟩
  rw [hLD] at HDl ⊢
  clear hv hi hE ha hp hH hPz hck hnl hP hLD
  go_enter Try.func10, Try.ntmps10
  go_upto_region 1 with fail
  refine gen_w (Q := fun w => Code.wp _ _ _ _ w) _ (FwI w v) HX0.out ?_
  clear HX0
  intro w1 hx
  have HX := Lib.hid hx
  clear hx
  have c0 : w1.cell? ⟨w.heap.size, 0, none⟩ = some (.int .i64 m.cfg.v) := (by have h9 := HX.out.cell 0; rw [h9]; simp only [Wv.cells, HC.out]; rfl)
  have c1 : w1.cell? ⟨w.heap.size, 1, none⟩ = some (.int .i64 m.cfg.d) := (by have h9 := HX.out.cell 1; rw [h9]; simp only [Wv.cells, HC.out]; rfl)
  have c2 : w1.cell? ⟨w.heap.size, 2, none⟩ = some (.int .i64 m.cfg.h) := (by have h9 := HX.out.cell 2; rw [h9]; simp only [Wv.cells, HC.out]; rfl)
  have c3 : w1.cell? ⟨w.heap.size, 3, none⟩ = some (.int .i64 m.cfg.l) := (by have h9 := HX.out.cell 3; rw [h9]; simp only [Wv.cells, HC.out]; rfl)
  have c4 : w1.cell? ⟨w.heap.size, 4, none⟩ = some (.int .i64 m.cfg.x) := (by have h9 := HX.out.cell 4; rw [h9]; simp only [Wv.cells, HC.out]; rfl)
  have c5 : w1.cell? ⟨w.heap.size, 5, none⟩ = some (.int .i64 m.cfg.i) := (by have h9 := HX.out.cell 5; rw [h9]; simp only [Wv.cells, HC.out]; rfl)
  go_wp2_with fail
  refine (HSz.out w1).mono ?_
  rintro e w2 ⟨rfl, hb2⟩
  have HX2 := Lib.hid (HX.out.later hb2)
  clear c0 c1 c2 c3 c4 c5 hb2 HX HSz
  go_upto_region 2 with fail
  have hz := HX2.out.sz
  have hgz : w.heap.size + 1 ≤ w2.heap.size := HX2.out.big
  rw [HC.out] at hz
  refine gen_w (Q := fun w => Code.wp _ _ _ _ w) _ (fun W => RtI w v w2.heap.size W ∧ w2.heap.size + 1 ≤ W.heap.size) ⟨(by rw [← HC.out] at hz; rw [← HC.out]; exact hz), by simp⟩ ?_
  have HGz := Lib.hid hgz
  clear HX2 hz hgz
  obtain ⟨g, hg⟩ : ∃ g, w2.heap.size = g := ⟨_, rfl⟩
  rw [hg] at HGz ⊢
  clear hg
  rintro w3 ⟨hx, hgs⟩
  have HX3 := Lib.hid hx
  have HB0 : Hid (w.heap.size + 1 ≤ g ∧ g + 1 ≤ w3.heap.size) := Lib.hid ⟨HGz.out, hgs⟩
  clear hx hgs HGz
  obtain ⟨bs, hbs⟩ : ∃ bs, w3.heap.size = bs := ⟨_, rfl⟩
  have HBs3 : Hid (bs ≤ w3.heap.size) := Lib.hid (by omega)
  rw [hbs] at HB0
  clear hbs
  go_wp2
  go_loopw [4, 5] (fun lv iv wr => ∃ (i : Nat) (qv : Value), i ≤ P ∧ iv = .int .i64 i ∧ qv = lv ∧ wr.ownsRow bs 3 1 qv (2 * i) ((flatP (m.ps.take i)).map (Value.int .i64)) ∧ RtI w v g wr ∧ bs ≤ wr.heap.size) (fun _ iv _ => P - (intOf iv).toNat)
  case atStart => exact ⟨0, _, by omega, rfl, rfl, World.ownsRow_nil _ _ _ _, HX3.out, HBs3.out⟩
  case round =>
  clear HX3 HBs3
  obtain ⟨i, qv, hi, rfl, rfl, hrow, hx, hbz⟩ := hrel
  have HRow := Lib.hid hrow
  have HX := Lib.hid hx
  have HBs := Lib.hid hbz
  obtain ⟨cq, hcq⟩ : ∃ cq, v.cp = cq := ⟨_, rfl⟩
  have q7 : wr.cell? ⟨w.heap.size, 7, none⟩ = some (.slice v.sp P cq) := by have h9 := hx.fw.cell 7; rw [h9, ← HP.out, ← HV.out.np, ← hcq]; rfl
  clear hrow hx hbz
  by_cases hil : i < P
  · have hd1 : decide (i < P) = true := by simpa using hil
    have hd2 : decide ((i : Int) < (P : Int)) = true := by simp; omega
    obtain ⟨d, o, e, hrg⟩ := HV.out.ps.at_ i (by rw [HP.out]; exact hil)
    obtain ⟨xy, hxy⟩ : ∃ xy, m.ps.getD i (0, 0) = xy := ⟨_, rfl⟩
    rw [hxy] at hrg
    obtain ⟨x, y⟩ := xy
    dsimp only at hrg
    have HXY := Lib.hid hxy
    have h0 : w.cell? ⟨d, o + i * 2, none⟩ = some (.int .i64 x) := hrg 0 _ rfl
    have h1 : w.cell? ⟨d, o + i * 2 + 1, none⟩ = some (.int .i64 y) := hrg 1 _ rfl
    have Hd : Hid (d < w.heap.size ∧ w.heap.size + 1 ≤ bs) := Lib.hid ⟨block_lt_of_cell h0, by have := HB0.out; omega⟩
    have HCell0 := Lib.hid ((HX.out.fw.below.cell (by have := Hd.out; exact this.1)).trans h0)
    have HCell1 := Lib.hid ((HX.out.fw.below.cell (by have := Hd.out; exact this.1)).trans h1)
    have HiP : Hid (i < P) := Lib.hid hil
    have Hlo : Hid (∀ k, qv.ownBlock = some k → k < wr.heap.size) := Lib.hid (fun k hk => (HRow.out.lt k hk).2)
    have hi64 : IntKind.i64.wrap ((i : Int) + 1) = (i : Int) + 1 := IntWalk.i64_in _ (by have := HPb.out; omega)
    rw [e] at q7
    have HQ7 := Lib.hid q7
    clear h0 h1 hrg hxy hcq
    go_upto_region 6 with fail
    refine Tn.wp_region_spec_at (C := fun W => wr.grownBy W qv.ownBlock) (Le := LeS 14 qv.ownBlock) (Pre := fun j W => j = 14 → Below wr.heap.size wr W) 15 (fun _ => (neS 13 2 3 1 bs wr.heap.size x y (2 * i + 2) ((flatP (m.ps.take i) ++ [x, y]).map (Value.int .i64)) (fun ixx => ([qv, .pointer (some ⟨w.heap.size, 7, none⟩), .slice (some ⟨d, o, none⟩) P cq, .int .i64 (i : Int), .pointer (some ⟨d, o + i * 2, none⟩), .pointer (some ⟨d, o + i * 2, none⟩), .int .i64 x, .pointer (some ⟨w.heap.size, 7, none⟩), .slice (some ⟨d, o, none⟩) P cq, .int .i64 (i : Int), .pointer (some ⟨d, o + i * 2, none⟩), .pointer (some ⟨d, o + i * 2 + 1, none⟩), .int .i64 y] : List Value)[ixx]?))) (by kernel_rfl) (by kernel_rfl) ⟨rfl, rfl, rfl, Nat.le_refl _, fun _ _ _ => rfl⟩ (fun _ _ _ _ _ _ h => h) (fun _ j i W W' y hne hle h => neS_later Hlo.out hne hle h) (fun j i W W' hne hle hp e => (hp e).trans ((hle.2 (by omega)).mono (hp e).size)) (fun j _ => ⟨rfl, rfl, rfl, Nat.le_refl _, fun _ _ => rfl⟩) (fun ixx yy => ∀ z, ([qv, .pointer (some ⟨w.heap.size, 7, none⟩), .slice (some ⟨d, o, none⟩) P cq, .int .i64 (i : Int), .pointer (some ⟨d, o + i * 2, none⟩), .pointer (some ⟨d, o + i * 2, none⟩), .int .i64 x, .pointer (some ⟨w.heap.size, 7, none⟩), .slice (some ⟨d, o, none⟩) P cq, .int .i64 (i : Int), .pointer (some ⟨d, o + i * 2, none⟩), .pointer (some ⟨d, o + i * 2 + 1, none⟩), .int .i64 y] : List Value)[ixx]? = some z → yy = z) (fun _ _ _ _ h => h.2.2) (fun ixx => (([qv, .pointer (some ⟨w.heap.size, 7, none⟩), .slice (some ⟨d, o, none⟩) P cq, .int .i64 (i : Int), .pointer (some ⟨d, o + i * 2, none⟩), .pointer (some ⟨d, o + i * 2, none⟩), .int .i64 x, .pointer (some ⟨w.heap.size, 7, none⟩), .slice (some ⟨d, o, none⟩) P cq, .int .i64 (i : Int), .pointer (some ⟨d, o + i * 2, none⟩), .pointer (some ⟨d, o + i * 2 + 1, none⟩), .int .i64 y] : List Value)[ixx]?).getD undef) (fun ixx z h => by simp [h]) ?_ ?_
    · intro u hu
      have h0 : u 0 = qv := hu 0 _ rfl
      have h1 : u 1 = .pointer (some ⟨w.heap.size, 7, none⟩) := hu 1 _ rfl
      have h2 : u 2 = .slice (some ⟨d, o, none⟩) P cq := hu 2 _ rfl
      have h3 : u 3 = .int .i64 (i : Int) := hu 3 _ rfl
      have h4 : u 4 = .pointer (some ⟨d, o + i * 2, none⟩) := hu 4 _ rfl
      have h5 : u 5 = .pointer (some ⟨d, o + i * 2, none⟩) := hu 5 _ rfl
      have h6 : u 6 = .int .i64 x := hu 6 _ rfl
      have h7 : u 7 = .pointer (some ⟨w.heap.size, 7, none⟩) := hu 7 _ rfl
      have h8 : u 8 = .slice (some ⟨d, o, none⟩) P cq := hu 8 _ rfl
      have h9 : u 9 = .int .i64 (i : Int) := hu 9 _ rfl
      have h10 : u 10 = .pointer (some ⟨d, o + i * 2, none⟩) := hu 10 _ rfl
      have h11 : u 11 = .pointer (some ⟨d, o + i * 2 + 1, none⟩) := hu 11 _ rfl
      have h12 : u 12 = .int .i64 y := hu 12 _ rfl
      simp only [List.take_succ_cons, List.take_zero]
      refine Tn.spec_cons (fun W hC hd => ⟨by rfl, ?_⟩) ?_
      · exact Tn.gives_val (qv) W (by rfl) ⟨hC, leS_b (by decide) (Below.refl _ _), (fun h => absurd h (by decide)), (fun h => absurd h (by decide)), fun z hz => by cases hz; rfl⟩
      simp only [Act.put, List.setIfInBounds_toArray, List.set_cons_succ, List.set_cons_zero, Nat.reduceAdd]
      rw [h0]
      refine Tn.spec_cons (fun W hC hd => ⟨by rfl, ?_⟩) ?_
      · exact Tn.gives_val (.pointer (some ⟨w.heap.size, 7, none⟩)) W (exec_wf2 (.tmp 1) rfl w.heap.size rfl) ⟨hC, leS_b (by decide) (Below.refl _ _), (fun h => absurd h (by decide)), (fun h => absurd h (by decide)), fun z hz => by cases hz; rfl⟩
      simp only [Act.put, List.setIfInBounds_toArray, List.set_cons_succ, List.set_cons_zero, Nat.reduceAdd]
      rw [h1]
      refine Tn.spec_cons (fun W hC hd => ⟨by rfl, ?_⟩) ?_
      · exact Tn.gives_val (.slice (some ⟨d, o, none⟩) P cq) W (Bp.exec_load1 25 (.tmp 20) rfl ⟨w.heap.size, 7, none⟩ rfl _ (Bp.cell_grown hC HQ7.out (fun k hk => by have h9 := (Bp.own_block HRow.out hk).1; have h8 := Hd.out; omega)) _ Try.underlying25 rfl) ⟨hC, leS_b (by decide) (Below.refl _ _), (fun h => absurd h (by decide)), (fun h => absurd h (by decide)), fun z hz => by cases hz; rfl⟩
      simp only [Act.put, List.setIfInBounds_toArray, List.set_cons_succ, List.set_cons_zero, Nat.reduceAdd]
      rw [h2]
      refine Tn.spec_cons (fun W hC hd => ⟨by rfl, ?_⟩) ?_
      · exact Tn.gives_val (.int .i64 (i : Int)) W (by rfl) ⟨hC, leS_b (by decide) (Below.refl _ _), (fun h => absurd h (by decide)), (fun h => absurd h (by decide)), fun z hz => by cases hz; rfl⟩
      simp only [Act.put, List.setIfInBounds_toArray, List.set_cons_succ, List.set_cons_zero, Nat.reduceAdd]
      rw [h3]
      refine Tn.spec_cons (fun W hC hd => ⟨by rfl, ?_⟩) ?_
      · exact Tn.gives_val (.pointer (some ⟨d, o + i * 2, none⟩)) W (Bp.exec_atP (.tmp 21) (.tmp 22) rfl d o P cq i rfl rfl HiP.out) ⟨hC, leS_b (by decide) (Below.refl _ _), (fun h => absurd h (by decide)), (fun h => absurd h (by decide)), fun z hz => by cases hz; rfl⟩
      simp only [Act.put, List.setIfInBounds_toArray, List.set_cons_succ, List.set_cons_zero, Nat.reduceAdd]
      rw [h4]
      refine Tn.spec_cons (fun W hC hd => ⟨by rfl, ?_⟩) ?_
      · exact Tn.gives_val (.pointer (some ⟨d, o + i * 2, none⟩)) W (Bp.exec_pfA (.tmp 23) rfl d (o + i * 2) rfl) ⟨hC, leS_b (by decide) (Below.refl _ _), (fun h => absurd h (by decide)), (fun h => absurd h (by decide)), fun z hz => by cases hz; rfl⟩
      simp only [Act.put, List.setIfInBounds_toArray, List.set_cons_succ, List.set_cons_zero, Nat.reduceAdd]
      rw [h5]
      refine Tn.spec_cons (fun W hC hd => ⟨by rfl, ?_⟩) ?_
      · exact Tn.gives_val (.int .i64 x) W (Bp.exec_load1 3 (.tmp 24) rfl ⟨d, o + i * 2, none⟩ rfl _ (Bp.cell_grown hC HCell0.out (fun k hk => by have h9 := (Bp.own_block HRow.out hk).1; have h8 := Hd.out; omega)) _ Try.underlying3 rfl) ⟨hC, leS_b (by decide) (Below.refl _ _), (fun h => absurd h (by decide)), (fun h => absurd h (by decide)), fun z hz => by cases hz; rfl⟩
      simp only [Act.put, List.setIfInBounds_toArray, List.set_cons_succ, List.set_cons_zero, Nat.reduceAdd]
      rw [h6]
      refine Tn.spec_cons (fun W hC hd => ⟨by rfl, ?_⟩) ?_
      · exact Tn.gives_val (.pointer (some ⟨w.heap.size, 7, none⟩)) W (exec_wf2 (.tmp 1) rfl w.heap.size rfl) ⟨hC, leS_b (by decide) (Below.refl _ _), (fun h => absurd h (by decide)), (fun h => absurd h (by decide)), fun z hz => by cases hz; rfl⟩
      simp only [Act.put, List.setIfInBounds_toArray, List.set_cons_succ, List.set_cons_zero, Nat.reduceAdd]
      rw [h7]
      refine Tn.spec_cons (fun W hC hd => ⟨by rfl, ?_⟩) ?_
      · exact Tn.gives_val (.slice (some ⟨d, o, none⟩) P cq) W (Bp.exec_load1 25 (.tmp 26) rfl ⟨w.heap.size, 7, none⟩ rfl _ (Bp.cell_grown hC HQ7.out (fun k hk => by have h9 := (Bp.own_block HRow.out hk).1; have h8 := Hd.out; omega)) _ Try.underlying25 rfl) ⟨hC, leS_b (by decide) (Below.refl _ _), (fun h => absurd h (by decide)), (fun h => absurd h (by decide)), fun z hz => by cases hz; rfl⟩
      simp only [Act.put, List.setIfInBounds_toArray, List.set_cons_succ, List.set_cons_zero, Nat.reduceAdd]
      rw [h8]
      refine Tn.spec_cons (fun W hC hd => ⟨by rfl, ?_⟩) ?_
      · exact Tn.gives_val (.int .i64 (i : Int)) W (by rfl) ⟨hC, leS_b (by decide) (Below.refl _ _), (fun h => absurd h (by decide)), (fun h => absurd h (by decide)), fun z hz => by cases hz; rfl⟩
      simp only [Act.put, List.setIfInBounds_toArray, List.set_cons_succ, List.set_cons_zero, Nat.reduceAdd]
      rw [h9]
      refine Tn.spec_cons (fun W hC hd => ⟨by rfl, ?_⟩) ?_
      · exact Tn.gives_val (.pointer (some ⟨d, o + i * 2, none⟩)) W (Bp.exec_atP (.tmp 27) (.tmp 28) rfl d o P cq i rfl rfl HiP.out) ⟨hC, leS_b (by decide) (Below.refl _ _), (fun h => absurd h (by decide)), (fun h => absurd h (by decide)), fun z hz => by cases hz; rfl⟩
      simp only [Act.put, List.setIfInBounds_toArray, List.set_cons_succ, List.set_cons_zero, Nat.reduceAdd]
      rw [h10]
      refine Tn.spec_cons (fun W hC hd => ⟨by rfl, ?_⟩) ?_
      · exact Tn.gives_val (.pointer (some ⟨d, o + i * 2 + 1, none⟩)) W (Bp.exec_pfB (.tmp 29) rfl d (o + i * 2) rfl) ⟨hC, leS_b (by decide) (Below.refl _ _), (fun h => absurd h (by decide)), (fun h => absurd h (by decide)), fun z hz => by cases hz; rfl⟩
      simp only [Act.put, List.setIfInBounds_toArray, List.set_cons_succ, List.set_cons_zero, Nat.reduceAdd]
      rw [h11]
      refine Tn.spec_cons (fun W hC hd => ⟨by rfl, ?_⟩) ?_
      · exact Tn.gives_val (.int .i64 y) W (Bp.exec_load1 3 (.tmp 30) rfl ⟨d, o + i * 2 + 1, none⟩ rfl _ (Bp.cell_grown hC HCell1.out (fun k hk => by have h9 := (Bp.own_block HRow.out hk).1; have h8 := Hd.out; omega)) _ Try.underlying3 rfl) ⟨hC, leS_b (by decide) (Below.refl _ _), (fun h => absurd h (by decide)), (fun h => absurd h (by decide)), fun z hz => by cases hz; rfl⟩
      simp only [Act.put, List.setIfInBounds_toArray, List.set_cons_succ, List.set_cons_zero, Nat.reduceAdd]
      rw [h12]
      refine Tn.spec_cons (fun W hC hd => ⟨by rfl, ?_⟩) ?_
      · exact Tn.gives_val _ _ (exec_sl2 (.tmp 25) (.tmp 31) rfl x y rfl rfl) ⟨Bp.grown_trans hC (Bp.grown_of ((Below.refl W.heap.size W).alloc (Nat.le_refl _) _) _), leS_b (by decide) ((Below.refl W.heap.size W).alloc (Nat.le_refl _) _), (fun _ => OneS.made x y W 3 hC.size), (fun h => absurd h (by decide)), fun z hz => by cases hz⟩
      simp only [Act.put, List.setIfInBounds_toArray, List.set_cons_succ, List.set_cons_zero, Nat.reduceAdd]
      refine Tn.spec_cons_at (fun W hC hp hd => ⟨by rfl, ?_⟩) ?_
      · obtain ⟨b8, e8, hl8, c8, c9⟩ := (hd ⟨13, .data⟩ (by simp) rfl).1 rfl
        have hown := HRow.out.kept (row := none) (Bp.grown_of (hp rfl) none) (by cases qv.ownBlock <;> simp)
        exact gives_append_two (.tmp 19) (.tmp 32) rfl bs qv (2 * i) (flatP (m.ps.take i)) x y rfl hown b8 e8 c8 c9 (by have := HPb.out; have := HiP.out; omega) (Nat.le_trans HBs.out hC.size) (fun v' W' hown hg => ⟨Bp.grown_trans hC hg, leS_g hg, (fun h => absurd h (by decide)), (fun _ => hown), fun z hz => by cases hz⟩)
      simp only [Act.put, List.setIfInBounds_toArray, List.set_cons_succ, List.set_cons_zero, Nat.reduceAdd]
      exact Tn.spec_nil
    · intro u W hu hC hP
      have h0 : u 0 = qv := hu 0 _ rfl
      have h1 : u 1 = .pointer (some ⟨w.heap.size, 7, none⟩) := hu 1 _ rfl
      have h2 : u 2 = .slice (some ⟨d, o, none⟩) P cq := hu 2 _ rfl
      have h3 : u 3 = .int .i64 (i : Int) := hu 3 _ rfl
      have h4 : u 4 = .pointer (some ⟨d, o + i * 2, none⟩) := hu 4 _ rfl
      have h5 : u 5 = .pointer (some ⟨d, o + i * 2, none⟩) := hu 5 _ rfl
      have h6 : u 6 = .int .i64 x := hu 6 _ rfl
      have h7 : u 7 = .pointer (some ⟨w.heap.size, 7, none⟩) := hu 7 _ rfl
      have h8 : u 8 = .slice (some ⟨d, o, none⟩) P cq := hu 8 _ rfl
      have h9 : u 9 = .int .i64 (i : Int) := hu 9 _ rfl
      have h10 : u 10 = .pointer (some ⟨d, o + i * 2, none⟩) := hu 10 _ rfl
      have h11 : u 11 = .pointer (some ⟨d, o + i * 2 + 1, none⟩) := hu 11 _ rfl
      have h12 : u 12 = .int .i64 y := hu 12 _ rfl
      obtain ⟨bq, eq, _⟩ := (hP 13 (by omega)).1 rfl
      have oq := (hP 14 (by omega)).2.1 rfl
      obtain ⟨vq, hvq⟩ : ∃ vq, u 14 = vq := ⟨_, rfl⟩
      rw [hvq] at oq
      simp only [List.take_succ_cons, List.take_zero, List.drop_succ_cons, List.drop_zero, Tn.putAll, Act.put, List.setIfInBounds_toArray, List.set_cons_succ, List.set_cons_zero, Nat.reduceAdd]
      rw [h0, h1, h2, h3, h4, h5, h6, h7, h8, h9, h10, h11, h12, eq, hvq]
      have HOq := Lib.hid oq
      have HGq : Hid (wr.grownBy W qv.ownBlock) := Lib.hid hC
      clear hu hC hP oq hvq eq h0 h1 h2 h3 h4 h5 h6 h7 h8 h9 h10 h11 h12
      obtain ⟨s9, c9, rfl, _, _⟩ := Sl.all1 HOq.out
      go_wp2
      go_roundw
      case rel => exact ⟨i + 1, _, by omega, by go_num, rfl, by rw [flat_succ (by rw [HP.out]; exact HiP.out) HXY.out, show 2 * (i + 1) = 2 * i + 2 by omega]; exact HOq.out, HX.out.grown HGq.out (fun k hk => by have h9 := (Bp.own_block HRow.out hk).1; have := HB0.out; omega), Nat.le_trans HBs.out HGq.out.size⟩
      case measure => simp [intOf]; omega
  · obtain rfl : i = P := by omega
    have hdf : decide (i < i) = false := by simp
    have hdf2 : decide ((i : Int) < (i : Int)) = false := by simp
    have e9 : m.ps.take i = m.ps := List.take_of_length_le (by rw [HP.out]; exact Nat.le_refl _)
    have hrow := HRow.out
    rw [e9] at hrow
    obtain ⟨sf, kf, rfl, _, hfs, _⟩ := Sl.all1 hrow
    have HFs : Hid (Cd.Nums wr sf kf (flatP m.ps)) := Lib.hid (cdSl hfs)
    clear e9 hil hrow hfs hi HRow hcq
    have c6 : wr.cell? ⟨w.heap.size, 6, none⟩ = some (.slice v.sa v.na v.ca) := HX.out.fw.cell 6
    have HHd := Lib.hid (refHead_any wr m.cfg (cfg_i64 HOk.out) v.sa v.na v.ca m.al (cdBytes ((HV.out.later HX.out.fw.below).al)) HV.out.na.symm (by rw [HV.out.na]; exact HAl.out) sf (2 * i) kf (flatP m.ps) HFs.out (by rw [flatP_length, HP.out]) HI.out (by have := HPb.out; omega))
    rw [show Cd.join [Cd.nums m.cfg.list, m.al, Cd.nums (flatP m.ps)] = headB m.cfg m.al m.ps from rfl] at HHd
    unfold Cfg.cells at HHd
    obtain ⟨hb, hhb⟩ : ∃ hb, headB m.cfg m.al m.ps = hb := ⟨_, rfl⟩
    rw [hhb] at HHd HDl
    obtain ⟨hbl, hhbl⟩ : ∃ n, hb.length = n := ⟨_, rfl⟩
    rw [hhbl] at HHd
    have HHl := Lib.hid hhbl
    clear hhb hhbl
    go_upto_region 8 with (first
      | (refine wpList_load_row rfl 67 (.tmp 3) rfl g rfl 67 m.cfg.cells (0, 0) _ (by rw [← HC.out]; exact HX.out.sz) Try.underlying67 rfl size_sizes ?_)
      | (go_at_call 29; refine HHd.out.mono ?_; rintro e w5 ⟨s5, c5, rfl, hy5, hb5⟩; have HX5 := Lib.hid (HX.out.later hb5); have HY5 := Lib.hid hy5; clear hb5 hy5))
    have hu : PcT w5.heap.size w5 (.slice s5 hbl c5) hb := by have h9 := PcT.old HY5.out; rw [HHl.out] at h9; exact h9
    have hlv := LvR.new w5 _ _ hu
    have hx6 := HX5.out.later ((Below.refl w5.heap.size w5).alloc (Nat.le_refl _) (.cells #[.slice s5 hbl c5] 24))
    have HB5 : Hid (w.heap.size + 1 ≤ w5.heap.size ∧ g + 1 ≤ w5.heap.size) := Lib.hid ⟨HX5.out.fw.big, (Array.getElem?_eq_some_iff.1 HX5.out.sz).1⟩
    obtain ⟨bl, hbl2⟩ : ∃ bl, w5.heap.size = bl := ⟨_, rfl⟩
    refine gen_w (Q := fun w => Code.wp _ _ _ _ w) _ (fun W => LvG bl bl (.slice (some ⟨bl, 0, none⟩) 1 1) [hb] W ∧ RtI w v g W) (by rw [← hbl2]; exact ⟨LvG.of hlv, hx6⟩) ?_
    rw [hbl2] at HB5 ⊢
    clear hu hlv hx6 hbl2 c6 q7 HHd HX5 HY5 HX HFs HHl HBs
    rintro w6 ⟨hlv, hx⟩
    have HLv6 := Lib.hid hlv
    have HX6 := Lib.hid hx
    clear hlv hx
    have HPt := Lib.hid (refPartsC w6 HOk.out)
    unfold Cfg.cells at HPt
    go_upto_region 9 with (first
      | (refine wpList_load_row rfl 67 (.tmp 3) rfl g rfl 67 m.cfg.cells (0, 0) _ (by rw [← HC.out]; exact HX6.out.sz) Try.underlying67 rfl size_sizes ?_)
      | (go_at_call 26; refine HPt.out.mono ?_; rintro e w7 ⟨pv, rfl, hpt, hb7⟩; have HX7 := Lib.hid (HX6.out.later hb7); have HLv7 := Lib.hid (HLv6.out.later hb7); have HPts := Lib.hid hpt; clear hb7 hpt))
    clear HX6 HLv6 HPt
    obtain ⟨V, D, I, hbk, _, _, _, hV1, hD1, hI1, hL1, hL4, _⟩ := cfg_blks HOk.out
    have hlen := blks_length V D m.cfg.l.toNat I
    rw [← hbk] at hlen
    have HBl : Hid (∀ b ∈ m.cfg.blks, OkL v.nl b) := Lib.hid fun b hb => by rw [HNl.out]; exact blks_okL (hbk ▸ hb)
    have HCl : Hid (∀ b ∈ m.cfg.blks, (1 ≤ b.c ∧ b.c ≤ 64) ∧ b.r ≤ 512) := Lib.hid fun b hb => by
      have h1 := blks_cols (hbk ▸ hb)
      have h2 := blks_rows_le (hbk ▸ hb) (by omega) (by omega) (by omega)
      refine ⟨?_, h2⟩
      split at h1 <;> omega
    have HTe : Hid (leavesT m = m.cfg.blks.flatMap fun b => leavesB b (m.part b.k b.y)) := Lib.hid rfl
    obtain ⟨BL, hBL⟩ : ∃ BL, m.cfg.blks = BL := ⟨_, rfl⟩
    have hrows : (hb :: leavesT m).length ≤ 3000 := by
      have h9 := leavesT_length m
      have h8 := Cfg.rows_le HOk.out
      rw [List.length_cons, h9]
      omega
    have HRows := Lib.hid hrows
    rw [hBL] at hlen HPts HPa HBl HCl HTe
    obtain ⟨g2, cap2, rfl, hcap2, hat⟩ := HPts.out.formK (by omega)
    have HAt := Lib.hid hat
    obtain ⟨n, hn⟩ : ∃ n, BL.length = n := ⟨_, rfl⟩
    rw [hn] at hcap2 hlen ⊢
    have Hn := Lib.hid hn
    have hn39 : n ≤ 39 := by omega
    clear hlen hbk hBL hat hn hL1 hL4 HPts hcap2 hV1 hD1 hI1 hrows
    go_wp2
    go_loopw [6, 8] (fun ov jv wr => ∃ (j : Nat) (qv : Value), j ≤ n ∧ jv = .int .i64 (j : Int) ∧ qv = ov ∧ LvG bl bl qv (hb :: (BL.take j).flatMap fun b => leavesB b (m.part b.k b.y)) wr ∧ RtI w v g wr ∧ PtsK g2 BL wr) (fun _ jv _ => n - (intOf jv).toNat)
    case atStart => exact ⟨0, _, by omega, rfl, rfl, HLv7.out, HX7.out, HAt.out⟩
    case round =>
    obtain ⟨i, qv, hi, rfl, rfl, hlv, hx, hat⟩ := hrel
    have HLv := Lib.hid hlv
    have HXr := Lib.hid hx
    have HAr := Lib.hid hat
    clear hlv hx hat HX7 HAt HLv7
    by_cases hlt : i < n
    · have d1 : decide (i < n) = true := by simpa using hlt
      have d2 : decide ((i : Int) < (n : Int)) = true := by simp; omega
      have hw5 : IntKind.i64.wrap ((i : Int) + 1) = (i : Int) + 1 := IntWalk.i64_in _ (by omega)
      obtain ⟨b, hb2⟩ : ∃ b, BL[i]? = some b := ⟨BL[i]'(by rw [Hn.out]; exact hlt), by simp [Hn.out, hlt]⟩
      have hmem := List.mem_of_getElem? hb2
      have htk : BL.take (i + 1) = BL.take i ++ [b] := by rw [List.take_add_one, hb2]; rfl
      obtain ⟨ls, hls⟩ : ∃ ls, (hb :: (BL.take i).flatMap fun b => leavesB b (m.part b.k b.y)) = ls := ⟨_, rfl⟩
      have hsucc : (hb :: (BL.take (i + 1)).flatMap fun b => leavesB b (m.part b.k b.y)) = ls ++ leavesB b (m.part b.k b.y) := by rw [htk, List.flatMap_append, ← hls]; simp
      have hmany : ls.length + (leavesB b (m.part b.k b.y)).length ≤ 3000 := by
        have h9 := HRows.out
        have h8 : (hb :: leavesT m) = (hb :: (BL.take (i + 1)).flatMap fun b => leavesB b (m.part b.k b.y)) ++ (BL.drop (i + 1)).flatMap fun b => leavesB b (m.part b.k b.y) := by
          rw [HTe.out, List.cons_append, ← List.flatMap_append, List.take_append_drop]
        rw [h8, hsucc, List.length_append, List.length_append] at h9
        omega
      rw [hls] at HLv
      have HRg := Lib.hid (HAr.out.1.range hb2)
      have HK1 : Hid ((b.k = 1 ∧ b.y = 0) ∨ (b.k = 11 ∧ b.y = 0) ∨ (b.k = 12 ∧ b.y = 0) ∨ (b.y < v.nl ∧ 2 ≤ b.k ∧ b.k ≤ 10)) := Lib.hid (HBl.out b hmem)
      have hpa := HPa.out b hmem
      have hcl := HCl.out b hmem
      obtain ⟨p, hp⟩ : ∃ p, m.part b.k b.y = p := ⟨_, rfl⟩
      rw [hp] at hpa hsucc hmany
      have HLs : Hid (∀ Y r c sp cap n, p.l.length = n → Nums Y sp cap p.l → Calls Try.prog 30 #[.agg (prC (b.k : Int) (b.y : Int) (b.r : Int) (b.c : Int) (!isVec b.k)), .agg (gvC r c sp n cap)] Y fun e w' => ∃ v, e = .returned v ∧ LvG 0 (Y.heap.size + 2) v (leavesB b p) w' ∧ Below Y.heap.size Y w') := Lib.hid fun Y r c sp cap n h1 h2 => refLeaves_any Y b p r c (!isVec b.k) sp cap n h1 h2 hpa.2.2.1 hcl.1 hcl.2 hpa.2.2.2
      have HPp := Lib.hid hp
      have HSu := Lib.hid hsucc
      have HMy := Lib.hid hmany
      have HLt := Lib.hid hlt
      obtain ⟨R, hR⟩ : ∃ R, (if isVec b.k then 0 else p.r) = R := ⟨_, rfl⟩
      obtain ⟨C, hC⟩ : ∃ C, (if isVec b.k then 0 else p.c) = C := ⟨_, rfl⟩
      have HRC := Lib.hid (And.intro hR hC)
      obtain ⟨l2, hl2⟩ : ∃ l2, leavesB b p = l2 := ⟨_, rfl⟩
      rw [hl2] at HLs HSu HMy
      obtain ⟨N2, hN2⟩ : ∃ N2, l2.length = N2 := ⟨_, rfl⟩
      have HN2 := Lib.hid hN2
      rw [hN2] at HMy
      obtain ⟨pa, hpa'⟩ : ∃ pa, prC (b.k : Int) (b.y : Int) (b.r : Int) (b.c : Int) (!isVec b.k) = pa := ⟨_, rfl⟩
      have HPa' := Lib.hid hpa'
      have HPs : Hid ((Try.prog.info? 61).map (·.size) = some pa.toList.length) := Lib.hid (by rw [← hpa']; exact sizePO)
      rw [hpa'] at HRg HLs
      clear hlt hb2 hp hR hC hpa' hmem htk hls hsucc hmany hpa hcl hi hl2 hN2
      go_upto_region 12 with fail
      refine Tn.wp_region_spec (C := fun W => Below wr.heap.size wr W) (Le := fun A B => Below A.heap.size A B) 12
        (fun _ j W v' => (j < 10 → v' = ([qv, .slice (some ⟨g2, 0, none⟩) n cap2, .int .i64 (i : Int), .pointer (some ⟨g2, 0 + i * 5, none⟩), .agg pa, .agg v.cells, .slice (some ⟨g2, 0, none⟩) n cap2, .int .i64 (i : Int), .pointer (some ⟨g2, 0 + i * 5, none⟩), .agg pa] : List Value).getD j undef) ∧ (j = 10 → ∃ sp cap, v' = .agg (gvC R C sp p.l.length cap) ∧ Nums wr sp cap p.l) ∧ (j = 11 → (∃ sx cx, v' = .slice sx l2.length cx) ∧ LvG 0 wr.heap.size v' l2 W))
        (by kernel_rfl) (by kernel_rfl) ⟨rfl, rfl, rfl, Nat.le_refl _, fun _ _ => rfl⟩ (fun _ _ _ _ _ _ h => h)
        (fun _ _ A B v' hl h => ⟨h.1, h.2.1, fun e => ⟨(h.2.2 e).1, (h.2.2 e).2.later hl⟩⟩)
        (fun j v' => (j < 10 → v' = ([qv, .slice (some ⟨g2, 0, none⟩) n cap2, .int .i64 (i : Int), .pointer (some ⟨g2, 0 + i * 5, none⟩), .agg pa, .agg v.cells, .slice (some ⟨g2, 0, none⟩) n cap2, .int .i64 (i : Int), .pointer (some ⟨g2, 0 + i * 5, none⟩), .agg pa] : List Value).getD j undef) ∧ (j = 10 → ∃ sp cap, v' = .agg (gvC R C sp p.l.length cap)) ∧ (j = 11 → ∃ sx cx, v' = .slice sx l2.length cx)) (fun _ _ _ _ h => ⟨h.1, (fun e => by obtain ⟨sp, cap, h1, _⟩ := h.2.1 e; exact ⟨sp, cap, h1⟩), fun e => (h.2.2 e).1⟩)
        (fun j => if j = 10 then .agg (gvC R C none p.l.length 0) else if j = 11 then .slice none l2.length 0 else ([qv, .slice (some ⟨g2, 0, none⟩) n cap2, .int .i64 (i : Int), .pointer (some ⟨g2, 0 + i * 5, none⟩), .agg pa, .agg v.cells, .slice (some ⟨g2, 0, none⟩) n cap2, .int .i64 (i : Int), .pointer (some ⟨g2, 0 + i * 5, none⟩), .agg pa] : List Value).getD j undef) (fun j => ⟨fun e => by rw [if_neg (by omega), if_neg (by omega)], fun e => by rw [if_pos e]; exact ⟨_, _, rfl⟩, fun e => by rw [if_neg (by omega), if_pos e]; exact ⟨_, _, rfl⟩⟩) ?_ ?_
      · intro u hu
        have e0 : u 0 = qv := (hu 0).1 (by decide)
        have e1 : u 1 = .slice (some ⟨g2, 0, none⟩) n cap2 := (hu 1).1 (by decide)
        have e2 : u 2 = .int .i64 (i : Int) := (hu 2).1 (by decide)
        have e3 : u 3 = .pointer (some ⟨g2, 0 + i * 5, none⟩) := (hu 3).1 (by decide)
        have e4 : u 4 = .agg pa := (hu 4).1 (by decide)
        have e5 : u 5 = .agg v.cells := (hu 5).1 (by decide)
        have e6 : u 6 = .slice (some ⟨g2, 0, none⟩) n cap2 := (hu 6).1 (by decide)
        have e7 : u 7 = .int .i64 (i : Int) := (hu 7).1 (by decide)
        have e8 : u 8 = .pointer (some ⟨g2, 0 + i * 5, none⟩) := (hu 8).1 (by decide)
        have e9 : u 9 = .agg pa := (hu 9).1 (by decide)
        obtain ⟨sN, cN, e10⟩ := (hu 10).2.1 rfl
        simp only [List.take_succ_cons, List.take_zero]
        refine Tn.spec_cons (fun Y hC hd => ⟨by rfl, Tn.gives_val (qv) Y (by rfl) ⟨hC, Below.refl _ _, fun _ => rfl, (fun e => by cases e), (fun e => by cases e)⟩⟩) ?_
        simp only [Act.put, List.setIfInBounds_toArray, List.set_cons_succ, List.set_cons_zero, Nat.reduceAdd]
        rw [e0]
        refine Tn.spec_cons (fun Y hC hd => ⟨by rfl, Tn.gives_val (.slice (some ⟨g2, 0, none⟩) n cap2) Y (by rfl) ⟨hC, Below.refl _ _, fun _ => rfl, (fun e => by cases e), (fun e => by cases e)⟩⟩) ?_
        simp only [Act.put, List.setIfInBounds_toArray, List.set_cons_succ, List.set_cons_zero, Nat.reduceAdd]
        rw [e1]
        refine Tn.spec_cons (fun Y hC hd => ⟨by rfl, Tn.gives_val (.int .i64 (i : Int)) Y (by rfl) ⟨hC, Below.refl _ _, fun _ => rfl, (fun e => by cases e), (fun e => by cases e)⟩⟩) ?_
        simp only [Act.put, List.setIfInBounds_toArray, List.set_cons_succ, List.set_cons_zero, Nat.reduceAdd]
        rw [e2]
        refine Tn.spec_cons (fun Y hC hd => ⟨by rfl, Tn.gives_val (.pointer (some ⟨g2, 0 + i * 5, none⟩)) Y (exec_at5 77 61 Try.underlying77 sizePO (.tmp 49) (.tmp 50) rfl g2 0 n cap2 i rfl rfl HLt.out) ⟨hC, Below.refl _ _, fun _ => rfl, (fun e => by cases e), (fun e => by cases e)⟩⟩) ?_
        simp only [Act.put, List.setIfInBounds_toArray, List.set_cons_succ, List.set_cons_zero, Nat.reduceAdd]
        rw [e3]
        refine Tn.spec_cons (fun Y hC hd => ⟨by rfl, Tn.gives_val (.agg pa) Y (exec_load_mid 61 (.tmp 51) rfl g2 (0 + i * 5) rfl pa.toList _ (fun j u hu => (hC.cell (block_lt_of_cell (HRg.out j u hu))).trans (HRg.out j u hu)) Try.underlying61 rfl HPs.out) ⟨hC, Below.refl _ _, fun _ => rfl, (fun e => by cases e), (fun e => by cases e)⟩⟩) ?_
        simp only [Act.put, List.setIfInBounds_toArray, List.set_cons_succ, List.set_cons_zero, Nat.reduceAdd]
        rw [e4]
        refine Tn.spec_cons (fun Y hC hd => ⟨by rfl, Tn.gives_val (.agg v.cells) Y (exec_load_row 31 (.tmp 1) rfl w.heap.size rfl 31 v.cells (0, 0) _ (HXr.out.later hC).fw.row Try.underlying31 rfl size_wts) ⟨hC, Below.refl _ _, fun _ => rfl, (fun e => by cases e), (fun e => by cases e)⟩⟩) ?_
        simp only [Act.put, List.setIfInBounds_toArray, List.set_cons_succ, List.set_cons_zero, Nat.reduceAdd]
        rw [e5]
        refine Tn.spec_cons (fun Y hC hd => ⟨by rfl, Tn.gives_val (.slice (some ⟨g2, 0, none⟩) n cap2) Y (by rfl) ⟨hC, Below.refl _ _, fun _ => rfl, (fun e => by cases e), (fun e => by cases e)⟩⟩) ?_
        simp only [Act.put, List.setIfInBounds_toArray, List.set_cons_succ, List.set_cons_zero, Nat.reduceAdd]
        rw [e6]
        refine Tn.spec_cons (fun Y hC hd => ⟨by rfl, Tn.gives_val (.int .i64 (i : Int)) Y (by rfl) ⟨hC, Below.refl _ _, fun _ => rfl, (fun e => by cases e), (fun e => by cases e)⟩⟩) ?_
        simp only [Act.put, List.setIfInBounds_toArray, List.set_cons_succ, List.set_cons_zero, Nat.reduceAdd]
        rw [e7]
        refine Tn.spec_cons (fun Y hC hd => ⟨by rfl, Tn.gives_val (.pointer (some ⟨g2, 0 + i * 5, none⟩)) Y (exec_at5 77 61 Try.underlying77 sizePO (.tmp 54) (.tmp 55) rfl g2 0 n cap2 i rfl rfl HLt.out) ⟨hC, Below.refl _ _, fun _ => rfl, (fun e => by cases e), (fun e => by cases e)⟩⟩) ?_
        simp only [Act.put, List.setIfInBounds_toArray, List.set_cons_succ, List.set_cons_zero, Nat.reduceAdd]
        rw [e8]
        refine Tn.spec_cons (fun Y hC hd => ⟨by rfl, Tn.gives_val (.agg pa) Y (exec_load_mid 61 (.tmp 56) rfl g2 (0 + i * 5) rfl pa.toList _ (fun j u hu => (hC.cell (block_lt_of_cell (HRg.out j u hu))).trans (HRg.out j u hu)) Try.underlying61 rfl HPs.out) ⟨hC, Below.refl _ _, fun _ => rfl, (fun e => by cases e), (fun e => by cases e)⟩⟩) ?_
        simp only [Act.put, List.setIfInBounds_toArray, List.set_cons_succ, List.set_cons_zero, Nat.reduceAdd]
        rw [e9]
        refine Tn.spec_cons (fun Y hC hd => ⟨by rfl, Tn.gives_call _ _ (exec_call2 20 (.tmp 53) (.tmp 57) #[31, 61] _ _ rfl rfl rfl (cf Try.func20 (by kernel_rfl) (by kernel_rfl) _ _)) ?_⟩) ?_
        · rw [← HPa'.out]
          refine (given_part wr Y hC v m (HV.out.later HXr.out.fw.below) b.k b.y HK1.out (b.r : Int) (b.c : Int) (!isVec b.k)).mono fun e2 Y' ⟨sp, cap, e3, h3, hb3⟩ => ?_
          rw [HPp.out] at e3 h3
          rw [HRC.out.1, HRC.out.2] at e3
          exact ⟨_, e3, hC.trans (hb3.mono hC.size), hb3, (fun h => by omega), (fun _ => ⟨sp, cap, rfl, h3⟩), (fun h => by omega)⟩
        simp only [Act.put, List.setIfInBounds_toArray, List.set_cons_succ, List.set_cons_zero, Nat.reduceAdd]
        rw [e10]
        refine Tn.spec_cons (fun Y hC hd => ⟨by rfl, Tn.gives_call _ _ (exec_call2 30 (.tmp 52) (.tmp 58) #[61, 58] _ _ rfl rfl rfl (cf Try.func30 (by kernel_rfl) (by kernel_rfl) _ _)) ?_⟩) ?_
        · obtain ⟨sp, cap, e9', hn9⟩ := (hd ⟨10, .data⟩ (by simp) (by kernel_rfl)).2.1 rfl
          rw [e10] at e9'
          unfold gvC at e9'
          injection e9' with e9'
          have q := congrArg Array.toList e9'
          simp only [List.cons.injEq, Value.slice.injEq, true_and, and_true] at q
          obtain ⟨q1, q2⟩ := q
          subst q1 q2
          refine (HLs.out Y R C sN cN p.l.length rfl (Sl.below hn9 (Nat.le_refl _) hC)).mono fun e2 Y' ⟨v9, e3, hl9, hb3⟩ => ?_
          obtain ⟨sx, cx, us, ev, _, _, _⟩ := hl9.form
          exact ⟨_, e3, hC.trans (hb3.mono hC.size), hb3, (fun h => by omega), (fun h => by omega), (fun _ => ⟨⟨sx, cx, ev⟩, lvg_base hl9 (by have := hC.size; omega)⟩)⟩
        simp only [Act.put, List.setIfInBounds_toArray, List.set_cons_succ, List.set_cons_zero, Nat.reduceAdd]
        exact Tn.spec_nil
      intro u Y hu hC hP
      have e0 : u 0 = qv := (hu 0).1 (by decide)
      have e1 : u 1 = .slice (some ⟨g2, 0, none⟩) n cap2 := (hu 1).1 (by decide)
      have e2 : u 2 = .int .i64 (i : Int) := (hu 2).1 (by decide)
      have e3 : u 3 = .pointer (some ⟨g2, 0 + i * 5, none⟩) := (hu 3).1 (by decide)
      have e4 : u 4 = .agg pa := (hu 4).1 (by decide)
      have e5 : u 5 = .agg v.cells := (hu 5).1 (by decide)
      have e6 : u 6 = .slice (some ⟨g2, 0, none⟩) n cap2 := (hu 6).1 (by decide)
      have e7 : u 7 = .int .i64 (i : Int) := (hu 7).1 (by decide)
      have e8 : u 8 = .pointer (some ⟨g2, 0 + i * 5, none⟩) := (hu 8).1 (by decide)
      have e9 : u 9 = .agg pa := (hu 9).1 (by decide)
      obtain ⟨sN, cN, e10⟩ := (hu 10).2.1 rfl
      have hlv11 := ((hP 11 (by omega)).2.2 rfl).2
      obtain ⟨v11, e11⟩ : ∃ v11, u 11 = v11 := ⟨_, rfl⟩
      rw [e11] at hlv11
      simp only [List.take_succ_cons, List.take_zero, List.drop_succ_cons, List.drop_zero, Tn.putAll, Act.put, List.setIfInBounds_toArray, List.set_cons_succ, List.set_cons_zero, Nat.reduceAdd]
      rw [e0, e1, e2, e3, e4, e5, e6, e7, e8, e9, e10, e11]
      clear e0 e1 e2 e3 e4 e5 e6 e7 e8 e9 e10 e11
      have HX8 := Lib.hid (HXr.out.later hC)
      have HA8 := Lib.hid (HAr.out.later hC)
      have HLv8 := Lib.hid (HLv.out.later hC)
      clear hu hC hP
      obtain ⟨sx, cx, us, hv11, hus, hsl11, hpc11⟩ := hlv11.form
      obtain rfl := hv11
      go_wp2_with (refine wpList_push_lvg rfl (.tmp 48) (.tmp 59) rfl bl bl (Nat.le_refl _) qv ls l2 us rfl HLv8.out sx l2.length cx rfl rfl hus hsl11 (fun j u hj => (hpc11 j u hj).mono (Nat.zero_le _)) (by rw [HN2.out]; have := HMy.out; omega) ?_; intro v9 w9 hl9 hg9; have HL9 := Lib.hid hl9; have hb9 := (HLv8.out.lv (Nat.le_refl _)).below hg9; have HX9 := Lib.hid (HX8.out.past hb9 HB5.out.1 HB5.out.2); have HA9 : Hid (PtsK g2 BL w9) := Lib.hid (pts_past HLv8.out hg9 HA8.out); clear hl9 hg9 hb9)
      go_roundw
      case rel => exact ⟨i + 1, _, by have := HLt.out; omega, by go_num, rfl, by rw [HPp.out] at *; rw [HSu.out]; exact HL9.out, HX9.out, HA9.out⟩
      case measure => simp [intOf]; have := HLt.out; omega
    · obtain rfl : i = n := by omega
      have d1 : decide (i < i) = false := by simp
      have d2 : decide ((i : Int) < (i : Int)) = false := by simp
      have hlv := HLv.out
      rw [List.take_of_length_le (by rw [Hn.out]; exact Nat.le_refl _), ← HTe.out, ← HDl.out] at hlv
      have HLv2 := Lib.hid hlv
      clear hlt hi hlv HLv
      go_wp2
      go_ret
      exact ⟨_, bl, rfl, HLv2.out, by have := HB5.out; omega, HXr.out.fw.below⟩
end Go.Proofs.Ytkfkjapkcjidnaa.Wg
