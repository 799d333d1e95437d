/- Pools of rows in pages (Y): Clone, row, tellFree$1, leave. -/
import Derived.Test.YtcfhchdkohjbfaaKf
namespace Go.Proofs.Ytcfhchdkohjbfaa.Kv.Y
set_option maxRecDepth 100000
open Go.ChangeShapes Go.WideShapes Go.ChangeAt Go.RowKit Go.Proofs.Ytcfhchdkohjbfaa.Tn
open Go.ChangeMaps (setBlock heap_setBlock_same heap_setBlock_other)

/-- what these pools are of -/
def kind : Kind Int := ⟨fun x => (.int .u8 x), 101, 105, 5⟩
theorem infoE : (Try.prog.info? 5).map (fun i => (i.zero, i.size, i.bytes)) = some (some (.int .u8 0), 1, 1) := by kernel_rfl
theorem ones (l : List Int) : ∀ v ∈ l.map kind.vl, v.oneCell' = true := by
  intro v hv
  obtain ⟨x, _, rfl⟩ := List.mem_map.1 hv
  rfl
set_option maxHeartbeats 1000000 in
/-- slices.Clone -/
theorem clone_any (w : World) (v : Value) (b : Option Nat) (xs : List Value) (hp : Row w 5 v b xs) (h1 : ∀ v ∈ xs, v.oneCell' = true) (N : Nat) (hN : xs.length = N) (hl : N ≤ 1000000) : Calls Try.prog 66 #[v] w fun e w' => ∃ sq cq b', e = .returned (.slice sq N cq) ∧ Row w' 5 (.slice sq N cq) b' xs ∧ (∀ q, b' = some q → w.heap.size ≤ q) ∧ Below w.heap.size w w' := by
  obtain ⟨sp, cap, rfl, hs⟩ := hp.sl
  have HS := Lib.hid hs
  have h0 := hs.nul
  have H1 := Lib.hid h1
  clear hp hs h1
  rcases sp with _ | ad
  · obtain rfl := h0 rfl
    have hP : xs = [] := List.eq_nil_of_length_eq_zero (by have := HS.out.le; omega)
    subst hP
    obtain rfl : N = 0 := hN.symm
    clear HS h0 hl H1 hN
    have he : ∀ W, (binOp .eql 103 (.slice none 0 0) (.slice none 0 0)).run Try.prog W = .ok (.bool true) W := fun W => Lib.run_eql_slice_nil W 103 5 none 0 0 0 0 Try.underlying103
    go_enter Try.func66, Try.ntmps66
    go_wp2
    go_ret
    exact ⟨none, 0, none, rfl, Row.nil _ _ _, (fun q h => by cases h), Below.refl _ _⟩
  · clear h0
    rw [hN]
    have HN := Lib.hid hN
    have HL := Lib.hid hl
    clear hN hl
    have he : ∀ W, (binOp .eql 103 (.slice (some ad) N cap) (.slice none 0 0)).run Try.prog W = .ok (.bool false) W := fun W => Lib.run_eql_slice_nil W 103 5 (some ad) N cap 0 0 Try.underlying103
    go_enter Try.func66, Try.ntmps66
    go_wp2_with (at_builtin; refine wpList_append_sl 103 5 1 (.int .u8 0) Try.underlying103 infoE rfl (by decide) rfl _ _ rfl w.heap.size _ 0 N [] _ rfl (World.ownsRow_made w #[] 0 (Nat.le_refl _) (by unfold maxLen; omega) rfl) _ _ rfl HN.out (HS.out.below (Nat.le_refl _) ((Below.refl _ _).alloc (Nat.le_refl _) _)) H1.out (by have := HL.out; omega) (by simp) ?_; intro v' w' ho hg)
    go_ret
    obtain ⟨_, b', h1, _, h2⟩ := Row.of_owns ho
    obtain ⟨sq, cq, rfl, _⟩ := h1.slice
    have hx : ([] ++ xs).length = N := HN.out
    rw [hx] at h1 ⊢
    refine ⟨sq, cq, b', rfl, by simpa using h1, h2, ((Below.refl w.heap.size w).alloc (Nat.le_refl _) (.cells #[] 5)).trans (Below.ofGrown hg (by simp) (fun k hk => ?_))⟩
    have : w.heap.size = k := by simpa [Value.ownBlock, Act.eval] using hk
    omega
theorem grown_refl (w : World) (row : Option Nat) : w.grownBy w row := ⟨rfl, rfl, rfl, Nat.le_refl _, fun _ _ _ => rfl⟩
section
variable {w : World} {τ : Tags} {g : Nat} {ly : Lay} {s op : Nat} {pg : Pg Int} {ro : Ro}
theorem row_nil (w : World) (id : Int) : Calls Try.prog 55 #[.pointer none, .int .i64 id] w fun e w' => e = .returned (.tuple #[.pointer none, .int .i64 2]) ∧ w = w' := by
  go_enter Try.func55, Try.ntmps55
  go_wp2
  go_ret2
  exact ⟨rfl, rfl⟩
theorem row_no (h : PoolAt kind w τ g ly s op pg ro) (id : Int) (hid : ¬ (0 ≤ id ∧ isOpen ro id.toNat = true)) : Calls Try.prog 55 #[.pointer (some ⟨g, 0, none⟩), .int .i64 id] w fun e w' => e = .returned (.tuple #[.pointer none, .int .i64 14]) ∧ w = w' := by
  have hl := run_look h.mp id hid
  obtain ⟨_, _, c2, _⟩ := h.cells
  clear h hid
  go_enter Try.func55, Try.ntmps55
  go_wp2
  go_ret2
  exact ⟨rfl, rfl⟩
theorem row_yes (h : PoolAt kind w τ g ly s op pg ro) (id : Nat) (hid : isOpen ro id = true) : Calls Try.prog 55 #[.pointer (some ⟨g, 0, none⟩), .int .i64 (id : Int)] w fun e w' => e = .returned (.tuple #[.pointer (some ⟨ly.rb id, 0, none⟩), .int .i64 0]) ∧ w = w' := by
  have hl := run_look_yes h.mp id hid
  obtain ⟨_, _, c2, _⟩ := h.cells
  clear h hid
  go_enter Try.func55, Try.ntmps55
  go_wp2
  go_ret2
  exact ⟨rfl, rfl⟩
/-- is a page free? -/
theorem free_any (h : PoolAt kind w τ g ly s op pg ro) (k : Nat) (c : List Int × Nat) (hc : pg[k]? = some c) (q : Nat) (hq : w.heap[q]? = some (.cells #[.pointer (some ⟨g, 0, none⟩)] 63 (0, 0))) : Calls Try.prog 71 #[.int .i64 (k : Int), .pointer (some ⟨q, 0, none⟩)] w fun e w' => e = .returned (.bool (c.2 == 0)) ∧ w = w' := by
  have hk := (List.getElem?_eq_some_iff.1 hc).1
  obtain ⟨_, c1, _, _⟩ := h.cells
  obtain ⟨_, c2⟩ := h.page hc
  have c3 : w.cell? ⟨q, 0, none⟩ = some (.pointer (some ⟨g, 0, none⟩)) := by rw [cell_of_row _ _ _ _ _ _ hq]; rfl
  have e : ((c.2 : Int) == 0) = (c.2 == 0) := by
    rw [Bool.eq_iff_iff]; simp
  generalize pg.length = N at *
  clear h hc hq
  obtain ⟨B, hB⟩ : ∃ B, (c.2 == 0) = B := ⟨_, rfl⟩
  rw [hB] at e ⊢
  clear hB
  go_enter Try.func71, Try.ntmps71
  go_wp2
  go_ret
  exact ⟨rfl, rfl⟩
/-- a page is held once less -/
theorem leave_any (h : PoolAt kind w τ g ly s op pg ro) (k : Nat) (c : List Int × Nat) (hc : pg[k]? = some c) (h0 : 1 ≤ c.2) (_hm : pg.length ≤ 1000000) (hc2 : c.2 ≤ 1000000) : Calls Try.prog 57 #[.pointer (some ⟨g, 0, none⟩), .int .i64 (k : Int)] w fun e w' => e = .returned (.tuple #[]) ∧ ∃ τ' ly', PoolAt kind w' τ' g ly' s op (leave pg k) ro ∧ Step Tag.mine τ τ' w w' ∧ ly'.rb = ly.rb ∧ ly'.pv = ly.pv ∧ ly'.pb = ly.pb := by
  have hk := (List.getElem?_eq_some_iff.1 hc).1
  obtain ⟨_, c1, _, _⟩ := h.cells
  obtain ⟨c2, c3⟩ := h.page hc
  have f3 := (h.free (k * 2 + 1)).2.1
  have f2 := (h.free (k * 2)).2.1
  have h1 := h.setCount hc (c.2 - 1)
  have hs1 : Step Tag.mine τ τ w (w.setCell ⟨ly.b, k * 2 + 1, none⟩ (.int .i64 ((c.2 - 1 : Nat) : Int))) := step_set h.tpages rfl
  have H1 := Lib.hid h1
  have HS1 := Lib.hid hs1
  have HC : Hid (pg[k]? = some c) := Lib.hid hc
  have HL : Hid (leave pg k = pg.set k (if c.2 = 1 then ([], 0) else (c.1, c.2 - 1))) := Lib.hid (by unfold leave; rw [hc])
  have hw : IntKind.i64.wrap ((c.2 : Int) - 1) = ((c.2 - 1 : Nat) : Int) := by rw [IntWalk.i64_in _ (by omega)]; omega
  generalize hN : pg.length = N at *
  have HN := Lib.hid hN
  clear h hc h1 hs1 hN
  have hset : ∀ x y, (pg.set k x).set k y = pg.set k y := fun x y => by simp
  have HSet := Lib.hid hset
  clear hset
  by_cases h1 : c.2 = 1
  · have e1 : (((c.2 - 1 : Nat) : Int) == 0) = true := by rw [h1]; rfl
    have HE := Lib.hid h1
    clear h1
    generalize c.2 - 1 = m at *
    go_enter Try.func57, Try.ntmps57
    go_wp2
    go_end0
    have hk1 : (pg.set k (c.1, m))[k]? = some (c.1, m) := by rw [set_at, HC.out]; simp
    obtain ⟨τ', ly', h2, h3, h4, h5, h6, _⟩ := H1.out.setThing hk1 (grown_refl _ _) (v := .slice none 0 0) (d := none) (l := []) (Row.nil _ _ _) (Or.inl rfl)
    have hm0 : m = 0 := by simpa using e1
    refine ⟨rfl, τ', ly', ?_, HS1.out.trans h3, h4, h5, h6⟩
    rw [HL.out, if_pos HE.out]
    rw [HSet.out, hm0] at h2
    rw [hm0]
    exact h2
  · have e1 : (((c.2 - 1 : Nat) : Int) == 0) = false := by
      have : ((c.2 - 1 : Nat) : Int) ≠ 0 := by omega
      simpa using this
    have HE := Lib.hid h1
    have HM : Hid (c.2 - 1 = c.2 - 1) := Lib.hid rfl
    clear h1
    go_enter Try.func57, Try.ntmps57
    go_wp2
    go_end0
    refine ⟨rfl, τ, ly, ?_, HS1.out, rfl, rfl, rfl⟩
    rw [HL.out, if_neg HE.out]
    exact H1.out
end
end Go.Proofs.Ytcfhchdkohjbfaa.Kv.Y
