import Derived.Test.YtighmhoekbnagaaDoorTc
import Derived.Test.YtighmhoekbnagaaDoorNa
import Derived.Test.YtighmhoekbnagaaDoorFm
import Derived.Deep.MidRow
namespace Go.Proofs.YtighmhoekbnagaaDoor
open Go.ChangeShapes Go.WideShapes Go.ChangeAt Go.RowKit

/-! ### a tree in memory -/
theorem cell_same {W W' : World} {b : Nat} (h : W'.heap[b]? = W.heap[b]?) (o : Nat) : W'.cell? ⟨b, o, none⟩ = W.cell? ⟨b, o, none⟩ := by simp [World.cell?, h]
theorem frozen_same {W W' : World} {b : Nat} (h : W'.heap[b]? = W.heap[b]?) (o : Nat) : W'.frozen? ⟨b, o, none⟩ = W.frozen? ⟨b, o, none⟩ := by simp [World.frozen?, h]
/-- a block of digests -/
structure RowD (W : World) (b : Nat) (ds : List (List Int)) : Prop where
  ty : ∃ C, W.heap[b]? = some (.cells C 24 (0, 0)) ∧ C.size = 32 * ds.length
  all : ∀ d ∈ ds, d.length = 32
  lies : ∀ p, p < ds.length → W.rangeAt b (32 * p) ((ds.getD p []).map (Value.int .u8))
section
variable {W W' : World} {b : Nat} {ds : List (List Int)}
theorem RowD.kept (h : RowD W b ds) (hk : W'.heap[b]? = W.heap[b]?) : RowD W' b ds := by
  obtain ⟨C, h1, h2⟩ := h.ty
  exact ⟨⟨C, by rw [hk]; exact h1, h2⟩, h.all, fun p hp j v hv => by rw [cell_same hk]; exact h.lies p hp j v hv⟩
theorem RowD.lt (h : RowD W b ds) : b < W.heap.size := by obtain ⟨C, h1, _⟩ := h.ty; exact (Array.getElem?_eq_some_iff.1 h1).1
theorem RowD.below (h : RowD W b ds) (hb : Below W.heap.size W W') : RowD W' b ds := h.kept (hb.block b h.lt)
theorem RowD.there (h : RowD W b ds) (p : Nat) (hp : p < ds.length) : W.there b (32 * p) 32 := by
  obtain ⟨C, h1, h2⟩ := h.ty
  intro j hj
  have h3 : 32 * p + j < C.size := by omega
  refine ⟨?_, ?_⟩
  · rw [cell_of_row _ _ _ _ _ _ h1, Array.getElem?_eq_getElem h3]; rfl
  · simp [World.frozen?, h1]
theorem RowD.digs (h : RowD W b ds) (hl : ds.length ≤ 1000000) : Digs W (some ⟨b, 0, none⟩) ds.length ds := by
  refine ⟨Nat.le_refl _, by unfold maxLen; omega, (fun h => by cases h), h.all, fun _ => ⟨b, 0, rfl, fun i hi => ?_⟩⟩
  rw [flat_len ds h.all] at hi
  have e1 : i = 32 * (i / 32) + i % 32 := (Nat.div_add_mod i 32).symm
  have hi2 : i / 32 < ds.length := by omega
  have hm : i % 32 < 32 := Nat.mod_lt _ (by omega)
  have hd : (ds.getD (i / 32) []).length = 32 := h.all _ (getD_mem ds _ hi2)
  have h7 := flat_at ds (i / 32) (i % 32) h.all hi2 hm
  have h5 := h.lies (i / 32) hi2
  obtain ⟨d, hde⟩ : ∃ d, ds.getD (i / 32) [] = d := ⟨_, rfl⟩
  rw [hde] at h5 hd h7
  have h8 : i % 32 < d.length := by omega
  have h6 := h5 (i % 32) (.int .u8 (d.getD (i % 32) 0)) (by simp [h8])
  rw [← e1] at h7 h6
  rw [h7, Nat.zero_add]
  exact h6
end
theorem setCell_heap {w : World} {b o : Nat} {C : Array Value} {t : TypeId} {fr : Nat × Nat} (h : w.heap[b]? = some (.cells C t fr)) (v : Value) : (w.setCell ⟨b, o, none⟩ v).heap[b]? = some (.cells (C.setIfInBounds o v) t fr) := by
  have hb := (Array.getElem?_eq_some_iff.1 h).1
  have he := (Array.getElem?_eq_some_iff.1 h).2
  simp [World.setCell, Array.getElem?_modify, h]
theorem setCells_heap : ∀ (vs : List Value) (o : Nat) (w : World) (b : Nat) (C : Array Value) (t : TypeId) (fr : Nat × Nat), w.heap[b]? = some (.cells C t fr) → ∃ C', (w.setCells b o vs).heap[b]? = some (.cells C' t fr) ∧ C'.size = C.size
  | [], _, _, _, C, _, _, h => ⟨C, h, rfl⟩
  | v :: r, o, w, b, C, t, fr, h => by
    rw [World.setCells]
    obtain ⟨C', h1, h2⟩ := setCells_heap r (o + 1) _ b _ t fr (setCell_heap (o := o) h v)
    exact ⟨C', h1, by rw [h2, Array.size_setIfInBounds]⟩
theorem RowD.set {W : World} {b : Nat} {ds : List (List Int)} (h : RowD W b ds) (p : Nat) (hp : p < ds.length) (d : List Int) (hd : d.length = 32) : RowD (W.setCells b (32 * p) (d.map (Value.int .u8))) b (ds.set p d) := by
  obtain ⟨C, h1, h2⟩ := h.ty
  obtain ⟨C', h3, h4⟩ := setCells_heap (d.map (Value.int .u8)) (32 * p) W b C _ _ h1
  refine ⟨⟨C', h3, by rw [h4, h2, List.length_set]⟩, fun x hx => ?_, fun q hq => ?_⟩
  · rcases List.mem_or_eq_of_mem_set hx with hx | rfl
    · exact h.all x hx
    · exact hd
  · rw [List.length_set] at hq
    by_cases hqp : q = p
    · subst hqp
      have e : (ds.set q d).getD q [] = d := by simp [hp]
      rw [e]
      exact World.rangeAt_setCells_same W b (32 * q) _ (by rw [List.length_map, hd]; exact h.there q hp)
    · have e : (ds.set p d).getD q [] = ds.getD q [] := by
        rw [List.getD_eq_getElem?_getD, List.getD_eq_getElem?_getD, List.getElem?_set_ne (fun e => hqp e.symm)]
      rw [e]
      have hx : (ds.getD q []).length = 32 := h.all _ (getD_mem ds q hq)
      refine World.rangeAt_setCells_apart (h.lies q hq) b (32 * p) _ (.inr ?_)
      rw [List.length_map, List.length_map, hx, hd]
      omega
theorem heap_setCells_ne (w : World) (g o : Nat) (vs : List Value) {i : Nat} (hne : i ≠ g) : (w.setCells g o vs).heap[i]? = w.heap[i]? := by
  induction vs generalizing o w with
  | nil => rfl
  | cons v r ih =>
    rw [World.setCells, ih]
    simp [World.setCell, Array.getElem?_modify, Ne.symm hne]
theorem size_setCells (w : World) (g o : Nat) (vs : List Value) : (w.setCells g o vs).heap.size = w.heap.size := by
  induction vs generalizing o w with
  | nil => rfl
  | cons v r ih =>
    rw [World.setCells, ih]
    simp [World.setCell]
/-- a leaf that a tree keeps -/
def LfVal (W : World) (v : Value) (l : List Int) : Prop := ∃ sp cap, v = .slice sp l.length cap ∧ Byt W sp cap l ∧ ∀ c o, sp = some ⟨c, o, none⟩ → ∃ C fr, W.heap[c]? = some (.cells C 5 fr)
theorem byt_same {W W' : World} {sp : Option Addr} {cap : Nat} {l : List Int} (h : Byt W sp cap l) (hk : ∀ c o, sp = some ⟨c, o, none⟩ → W'.heap[c]? = W.heap[c]?) : Byt W' sp cap l := by
  refine byt_iff.2 ?_
  have hs := byt_iff.1 h
  refine ⟨hs.le, hs.max, hs.nul, fun h0 => ?_⟩
  obtain ⟨c, o, e, hl⟩ := hs.lies h0
  exact ⟨c, o, e, fun i v hv => by rw [cell_same (hk c o e)]; exact hl i v hv⟩
theorem LfVal.kept {W W' : World} {v : Value} {l : List Int} (h : LfVal W v l) (hk : ∀ (c : Nat) (C : Array Value) (fr : Nat × Nat), W.heap[c]? = some (.cells C 5 fr) → W'.heap[c]? = W.heap[c]?) : LfVal W' v l := by
  obtain ⟨sp, cap, e, hb, ht⟩ := h
  refine ⟨sp, cap, e, byt_same hb (fun c o e => ?_), fun c o e => ?_⟩
  · obtain ⟨C, fr, h1⟩ := ht c o e
    exact hk c C fr h1
  · obtain ⟨C, fr, h1⟩ := ht c o e
    exact ⟨C, fr, by rw [hk c C fr h1]; exact h1⟩
theorem LfVal.below {W W' : World} {v : Value} {l : List Int} (h : LfVal W v l) (hb : Below W.heap.size W W') : LfVal W' v l := h.kept fun c _ _ hc => hb.block c (Array.getElem?_eq_some_iff.1 hc).1
/-- the roots of a height of leaves -/
def rowsD (ls : List (List Int)) (h : Nat) : List (List Int) := rws nodeD (ls.map leafD) h
theorem rowsD_all (ls : List (List Int)) (h : Nat) : ∀ d ∈ rowsD ls h, d.length = 32 := rws_all nodeD nodeD_length _ (leafs_all ls) h
/-- a tree: the block of its two slices, its leaves' slices, its rows' slices, its rows -/
structure TreeP (W : World) (ls : List (List Int)) (t Lb Rb Rc H : Nat) (vs : List Value) (rb : Nat → Nat) : Prop where
  top : W.heap[t]? = some (.cells #[.slice (some ⟨Lb, 0, none⟩) ls.length ls.length, .slice (some ⟨Rb, 0, none⟩) (H + 1) Rc] 75 (0, 0))
  leaves : W.heap[Lb]? = some (.cells vs.toArray 28 (0, 0))
  vlen : vs.length = ls.length
  vpc : ∀ i v, vs[i]? = some v → LfVal W v (ls.getD i [])
  roots : ∃ cur : Array Value, W.heap[Rb]? = some (.cells cur 33 (0, 0)) ∧ H + 1 ≤ cur.size ∧ ∀ h, h ≤ H → cur[h]? = some (.slice (some ⟨rb h, 0, none⟩) (rowsD ls h).length (rowsD ls h).length)
  rows : ∀ h, h ≤ H → RowD W (rb h) (rowsD ls h)
  inj : ∀ h k, h ≤ H → k ≤ H → rb h = rb k → h = k
  last : (rowsD ls H).length ≤ 1
  many : ls.length ≤ 256
  high : H ≤ 8
section
variable {W W' : World} {ls : List (List Int)} {t Lb Rb Rc H : Nat} {vs : List Value} {rb : Nat → Nat}
theorem TreeP.below (h : TreeP W ls t Lb Rb Rc H vs rb) (hb : Below W.heap.size W W') : TreeP W' ls t Lb Rb Rc H vs rb := by
  obtain ⟨cur, h1, h2, h3⟩ := h.roots
  exact ⟨(hb.block t (Array.getElem?_eq_some_iff.1 h.top).1).trans h.top, (hb.block Lb (Array.getElem?_eq_some_iff.1 h.leaves).1).trans h.leaves, h.vlen, fun i v hv => (h.vpc i v hv).below hb,
    ⟨cur, (hb.block Rb (Array.getElem?_eq_some_iff.1 h1).1).trans h1, h2, h3⟩, fun k hk => (h.rows k hk).below hb, h.inj, h.last, h.many, h.high⟩
end
end Go.Proofs.YtighmhoekbnagaaDoor
