import Derived.Test.YtighmhoekbnagaaDoorKf
import Derived.Great.BuildSlice
namespace Go.Proofs.YtighmhoekbnagaaDoor
open Go.ChangeShapes Go.WideShapes Go.ChangeAt Go.RowKit

/-! ### the leaves of a part -/
theorem shl_mul (x h : Nat) : ((x : Int) * 2 ^ h) = ((x * 2 ^ h : Nat) : Int) := by
  rw [Int.natCast_mul, Int.natCast_pow]; rfl
theorem shl_one (h : Nat) : ((2 : Int) ^ h) = ((2 ^ h : Nat) : Int) := by
  rw [Int.natCast_pow]; rfl
set_option maxRecDepth 100000 in
set_option maxHeartbeats 4000000 in
theorem leaves_any (w : World) (h p : Nat) (sp : Option Addr) (n cap : Nat) (hcap : n ≤ cap) (hn : n ≤ 256) (hp : p * 2 ^ h ≤ n) (hh : 2 ^ h ≤ 256) :
    Calls Tryd.prog 39 #[.agg #[.int .i64 h, .int .i64 p], .slice sp n cap] w fun e w' => e = .returned (.slice (cutA sp cap (p * 2 ^ h)) (min (2 ^ h) (n - p * 2 ^ h)) (cap - p * 2 ^ h)) ∧ Below w.heap.size w w' := by
  have e2 := shl_one h
  have hh63 : h ≤ 62 := by
    rcases Nat.lt_or_ge 62 h with h1 | h1
    · have := Nat.pow_le_pow_right (n := 2) (by omega) (show 9 ≤ h by omega)
      omega
    · exact h1
  obtain ⟨q, hq⟩ : ∃ q, 2 ^ h = q := ⟨_, rfl⟩
  rw [hq] at e2 hp hh ⊢
  obtain ⟨r, hr⟩ : ∃ r, p * q = r := ⟨_, rfl⟩
  have e1 : (p : Int) * (q : Int) = (r : Int) := by rw [← hr, Int.natCast_mul]
  rw [hr] at hp ⊢
  clear hq hr
  have HC1 := run_cut 22 28 Tryd.underlying22 size28 sp n cap r hp
  have hw1 : wrap64 (r : Int) = (r : Int) := by unfold wrap64; omega
  have hw2 : wrap64 (q : Int) = (q : Int) := by unfold wrap64; omega
  go_enter Tryd.func39, Tryd.ntmps39
  go_wp2
  have hm : (min (q : Int) ((n - r : Nat) : Int)).toNat = min q (n - r) := by omega
  rw [hm]
  go_ret
  exact ⟨rfl, (Below.refl _ _).alloc (Nat.le_refl _) _⟩
theorem seg_length (ls : List (List Int)) (h p : Nat) : (seg ls h p).length = min (2 ^ h) (ls.length - p * 2 ^ h) := by
  unfold seg; rw [List.length_take, List.length_drop]
theorem Pcs.seg {w : World} {sp : Option Addr} {cap : Nat} {ls : List (List Int)} (hP : Pcs w sp cap ls) (h p : Nat) (hp : p * 2 ^ h ≤ ls.length) : Pcs w (cutA sp cap (p * 2 ^ h)) (cap - p * 2 ^ h) (seg ls h p) :=
  (hP.cut (p * 2 ^ h) hp).first (2 ^ h)
theorem seg_map (ls : List (List Int)) (f : List Int → List Int) (h p : Nat) : seg (ls.map f) h p = (seg ls h p).map f := by
  unfold seg; rw [List.map_take, List.map_drop]

/-! ### digests that the call owns -/
theorem zero24 : (Tryd.prog.info? 24).map (fun i => (i.zero, i.size, i.bytes)) = some (some (.agg (rowB (zs 32))), 32, 32) := by kernel_rfl
theorem cellsZ : (Value.agg (rowB (zs 32))).cells.size = 32 := by kernel_rfl
/-- the cells of digests -/
def dcells (ds : List (List Int)) : List Value := ds.flatten.map (Value.int .u8)
theorem dcells_one (ds : List (List Int)) : ∀ u ∈ dcells ds, u.oneCell' = true := map_one _
theorem dcells_append (a b : List (List Int)) : dcells (a ++ b) = dcells a ++ dcells b := by simp [dcells]
theorem dcells_len (ds : List (List Int)) (h : ∀ d ∈ ds, d.length = 32) : (dcells ds).length = ds.length * 32 := by
  unfold dcells; rw [List.length_map, flat_len ds h, Nat.mul_comm]
section
variable {w : World} {ops : Array Oper} {rest : List Oper} {o : Oper} {a : Act} {Q : Exit → Act → World → Prop}
/-- append of digests to a row of the call's own -/
theorem wpList_append_dig (hgd : o.guard = none) (s x : Operand) (ho : o.op = .call { callee := .builtin .append, args := #[s, x], argTypes := #[33, 33] }) (base : Nat) (v : Value) (n m : Nat) (xs ys : List (List Int)) (hs : a.eval s = v) (hown : w.ownsRow base 24 32 v n (dcells xs))
    (ad : Addr) (cap : Nat) (hx : a.eval x = .slice (some ad) m cap) (hm : ys.length = m) (hy : ∀ d ∈ ys, d.length = 32) (hc : ∀ j u, (dcells ys)[j]? = some u → w.cell? (ad.add j) = some u) (hn : n + m ≤ 1000000) (hbase : base ≤ w.heap.size)
    (h : ∀ v' w', w'.ownsRow base 24 32 v' (n + m) (dcells (xs ++ ys)) → w.grownBy w' v.ownBlock → wpList Tryd.prog ops Q rest (a.put o.dst v') w') : wpList Tryd.prog ops Q (o :: rest) a w := by
  subst hm
  obtain ⟨i0, hi, hz0, hz1, hz2⟩ := info_parts zero24
  obtain ⟨v', w', hrun, hown', hg, _⟩ := run_append_own (P := Tryd.prog) w base 33 o.type 24 i0 (.agg (rowB (zs 32))) 32 32 Tryd.underlying33 hi hz0 hz1 hz2 cellsZ (by decide) v n _ hown ad ys.length cap (dcells ys) (dcells_len ys hy) hc (dcells_one ys)
    (by unfold maxLen; omega) (by omega) hbase
  refine wpList_plain hgd fun K hK => ?_
  unfold Oper.wp
  simp [execOp, ho, resolve, invoke, builtin, hs, hx, hrun, Result.andThen]
  exact hK _ _ (h v' w' (by rw [dcells_append]; exact hown') hg)
end
/-- a slice literal of one digest -/
theorem wpList_one_dig {w : World} {ops : Array Oper} {rest : List Oper} {o : Oper} {a : Act} {Q : Exit → Act → World → Prop} (hg : o.guard = none) (x : Operand) (ho : o.op = .buildSlice 33 1 #[(0, x)]) (d : List Int) (hx : a.eval x = .agg (rowB d)) (hd : d.length = 32)
    (h : wpList Tryd.prog ops Q rest (a.put o.dst (.slice (some ⟨w.heap.size, 0, none⟩) 1 1)) (w.alloc (.cells (rowB d) 24))) : wpList Tryd.prog ops Q (o :: rest) a w := by
  obtain ⟨i0, hi, hz0, hz1, hz2⟩ := info_parts zero24
  refine wpList_buildSlice hg 33 24 1 #[(0, x)] ho (rowB d) i0 _ Tryd.underlying33 hi hz0 (by rw [hz1]; decide) (by rw [hz1]; decide) ?_ h
  rw [hz1]
  have hf := Go.Great.fill_whole (s := 32) (by decide) [.agg (rowB d)] ((Array.range (1 * 32)).map ((Value.agg (rowB (zs 32))).cells[· % (Value.agg (rowB (zs 32))).cells.size]!)) (fun v hv => by
    obtain rfl := List.mem_singleton.1 hv
    show (rowB d).size = 32
    rw [rowB_size, hd]) (by simp)
  have e1 : (#[(0, x)].map fun (i, x) => (i, a.eval x)).toList = [(0, .agg (rowB d))] := by simp [hx]
  rw [e1]
  refine (Eq.trans ?_ hf).trans ?_
  · rfl
  · rw [show ([Value.agg (rowB d)].flatMap fun v => v.cells.toList) = (rowB d).toList from by rw [List.flatMap_cons, List.flatMap_nil, List.append_nil]; rfl, Array.toArray_toList]
/-- what the call owns is a slice of digests -/
theorem own_digs {w : World} {base n : Nat} {v : Value} {ds : List (List Int)} (h : w.ownsRow base 24 32 v n (dcells ds)) (ha : ∀ d ∈ ds, d.length = 32) : ∃ sp cap, v = .slice sp n cap ∧ ds.length = n ∧ Digs w sp cap ds ∧ (∀ c o, sp = some ⟨c, o, none⟩ → base ≤ c) := by
  have hl : ds.length = n := by have := h.1; rw [dcells_len ds ha] at this; omega
  rcases h.2 with ⟨rfl, rfl⟩ | ⟨g, cap, cur, rfl, hbg, hg, hnc, hcm, _, htake⟩
  · obtain rfl : ds = [] := List.eq_nil_of_length_eq_zero hl
    exact ⟨none, 0, rfl, rfl, Digs.nil w, fun _ _ h => by cases h⟩
  · refine ⟨_, cap, rfl, hl, ⟨by omega, hcm, (fun h => by cases h), ha, fun _ => ⟨g, 0, rfl, fun i hi => ?_⟩⟩, fun c o h => by cases h; exact hbg⟩
    have := h.cells (g := g) rfl i (.int .u8 (ds.flatten.getD i 0)) (by unfold dcells; rw [List.getElem?_map, List.getElem?_eq_getElem hi, List.getD_eq_getElem?_getD, List.getElem?_eq_getElem hi]; rfl)
    rwa [add_plain] at this
/-- one digest in a new block -/
theorem new_dig (w : World) (d : List Int) (t : TypeId) (fr : Nat × Nat) : ∀ j u, (dcells [d])[j]? = some u → (w.alloc (.cells (rowB d) t fr)).cell? ((⟨w.heap.size, 0, none⟩ : Addr).add j) = some u := by
  intro j u hu
  rw [add_plain, cell_of_row _ _ _ _ _ _ (heap_alloc_new _ _), Nat.zero_add, ← hu]
  simp [dcells, rowB]
end Go.Proofs.YtighmhoekbnagaaDoor
