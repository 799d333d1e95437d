/- Pools of rows in pages: how they lie in memory. -/
import Derived.Test.YtcfhchdkohjbfaaKb
import Derived.Test.YtcfhchdkohjbfaaBt
import Derived.ChangeMaps5
import Derived.OneCell
namespace Go.Proofs.Ytcfhchdkohjbfaa.Kv
set_option maxRecDepth 100000
open Go.ChangeShapes Go.WideShapes Go.ChangeAt Go.RowKit Go.Proofs.Ytcfhchdkohjbfaa.Tn
open Go.ChangeMaps (setBlock heap_setBlock_same heap_setBlock_other)

/-- what a block is there for -/
inductive Tag where
  | pool | pages | map | th (k : Nat) | row (id : Nat) | rp (id : Nat) | rpool | rrows | rl (id : Nat) | rpg (id : Nat) | misc (n : Nat)
def Tag.mine : Tag → Bool
  | .pool | .pages | .map | .th _ | .row _ | .rp _ => true
  | _ => false
def Tag.theirs : Tag → Bool
  | .rpool | .rrows | .rl _ | .rpg _ => true
  | _ => false
abbrev Tags := Nat → Option Tag
/-- from w to w' blocks of these tags alone are turned, new ones are made, and no elder one gets another tag -/
structure Step (M : Tag → Bool) (τ τ' : Tags) (w w' : World) : Prop where
  os : w'.os = w.os
  tape : w'.tape = w.tape
  output : w'.output = w.output
  size : w.heap.size ≤ w'.heap.size
  tags : ∀ c, c < w.heap.size → τ' c = τ c
  block : ∀ c, c < w.heap.size → (∀ t, τ c = some t → M t = false) → w'.heap[c]? = w.heap[c]?
theorem Step.refl (M : Tag → Bool) (τ : Tags) (w : World) : Step M τ τ w w := ⟨rfl, rfl, rfl, Nat.le_refl _, fun _ _ => rfl, fun _ _ _ => rfl⟩
theorem Step.trans {M : Tag → Bool} {τ τ' τ'' : Tags} {w w' w'' : World} (h : Step M τ τ' w w') (h' : Step M τ' τ'' w' w'') : Step M τ τ'' w w'' :=
  ⟨h'.os.trans h.os, h'.tape.trans h.tape, h'.output.trans h.output, Nat.le_trans h.size h'.size, fun c hc => (h'.tags c (Nat.lt_of_lt_of_le hc h.size)).trans (h.tags c hc),
    fun c hc ht => (h'.block c (Nat.lt_of_lt_of_le hc h.size) (by rw [h.tags c hc]; exact ht)).trans (h.block c hc ht)⟩
theorem Step.below {M : Tag → Bool} {τ : Tags} {w w' : World} (h : Below w.heap.size w w') : Step M τ τ w w' := ⟨h.os, h.tape, h.output, h.size, fun _ _ => rfl, fun c hc _ => h.block c hc⟩
/-- tags that stand for blocks that there are -/
def Fits (τ : Tags) (w : World) : Prop := ∀ c t, τ c = some t → c < w.heap.size

theorem alloc_old (w : World) (o : Obj) (k : Nat) (hk : k < w.heap.size) : (w.alloc o).heap[k]? = w.heap[k]? := by first | exact heap_alloc_old w o k hk | exact heap_alloc_old w o hk
theorem alloc_new (w : World) (o : Obj) : (w.alloc o).heap[w.heap.size]? = some o := heap_alloc_new w o
/-- a slice of values of one cell each, in a block of its own (or in none) -/
def Row (w : World) (e : TypeId) (v : Value) (b : Option Nat) (xs : List Value) : Prop :=
  (b = none ∧ xs = [] ∧ ∃ sp, v = .slice sp 0 0) ∨
  ∃ g cap cur, b = some g ∧ v = .slice (some ⟨g, 0, none⟩) xs.length cap ∧ w.heap[g]? = some (.cells cur e (0, 0)) ∧ xs.length ≤ cap ∧ cap ≤ maxLen ∧ cur.size = cap ∧ cur.toList.take xs.length = xs
section
variable {w w' : World} {e : TypeId} {v : Value} {b : Option Nat} {xs : List Value}
theorem Row.kept (h : Row w e v b xs) (hk : ∀ c, b = some c → w'.heap[c]? = w.heap[c]?) : Row w' e v b xs := by
  rcases h with h | ⟨g, cap, cur, rfl, h1, h2, h3⟩
  · exact Or.inl h
  · exact Or.inr ⟨g, cap, cur, rfl, h1, (hk g rfl).trans h2, h3⟩
theorem Row.nil (w : World) (e : TypeId) (sp : Option Addr) : Row w e (.slice sp 0 0) none [] := Or.inl ⟨rfl, rfl, sp, rfl⟩
theorem Row.slice (h : Row w e v b xs) : ∃ sp cap, v = .slice sp xs.length cap ∧ xs.length ≤ cap ∧ cap ≤ maxLen ∧ ∀ i x, xs[i]? = some x → ∃ c, sp = some ⟨c, 0, none⟩ ∧ b = some c ∧ w.cell? ⟨c, i, none⟩ = some x := by
  rcases h with ⟨_, rfl, sp, rfl⟩ | ⟨g, cap, cur, rfl, rfl, h2, h3, h4, h5, h6⟩
  · exact ⟨sp, 0, rfl, Nat.le_refl _, by unfold maxLen; omega, fun i x h => by simp at h⟩
  · refine ⟨_, cap, rfl, h3, h4, fun i x hx => ⟨g, rfl, rfl, ?_⟩⟩
    rw [cell_of_row _ _ _ _ _ _ h2]
    rw [← h6, List.getElem?_take] at hx
    split at hx
    · simpa using hx
    · cases hx
theorem Row.lt (h : Row w e v b xs) {c : Nat} (hc : b = some c) : c < w.heap.size := by
  rcases h with ⟨rfl, _⟩ | ⟨g, cap, cur, rfl, _, h2, _⟩
  · cases hc
  · cases hc
    exact (Array.getElem?_eq_some_iff.1 h2).1
theorem Row.of_owns {base n : Nat} (h : w.ownsRow base e 1 v n xs) : xs.length = n ∧ ∃ b, Row w e v b xs ∧ v.ownBlock = b ∧ ∀ c, b = some c → base ≤ c := by
  have hl : xs.length = n := by have := h.1; simpa using this
  subst hl
  refine ⟨rfl, ?_⟩
  rcases h.2 with ⟨rfl, h0⟩ | ⟨g, cap, cur, rfl, hb, h2, h3, h4, h5, h6⟩
  · obtain rfl := List.eq_nil_of_length_eq_zero h0
    exact ⟨none, Row.nil _ _ _, rfl, fun c hc => by cases hc⟩
  · exact ⟨some g, Or.inr ⟨g, cap, cur, rfl, rfl, h2, h3, h4, by simpa using h5, by simpa using h6⟩, rfl, fun c hc => by cases hc; exact hb⟩
/-- a row cut at k -/
theorem Row.cut {sp : Option Addr} {cap : Nat} (h : Row w e (.slice sp xs.length cap) b xs) (k : Nat) (hk : k ≤ xs.length) : Row w e (.slice sp k cap) b (xs.take k) := by
  rcases h with ⟨h0, rfl, sp', h1⟩ | ⟨g, cap', cur, rfl, h1, h2, h3, h4, h5, h6⟩
  · cases h1
    obtain rfl : k = 0 := by simpa using hk
    exact Or.inl ⟨h0, by simp, sp, rfl⟩
  · cases h1
    have hl : (xs.take k).length = k := by simp; omega
    exact Or.inr ⟨g, cap, cur, rfl, by rw [hl], h2, by rw [hl]; omega, h4, h5, by
      rw [hl, ← h6, List.take_take, Nat.min_eq_left hk]⟩
end
/-- append of one value to such a row: in its block, or in a new one -/
theorem run_append_row (w : World) (t ty e : TypeId) (by_ : Nat) (z : Value) (hu : Try.prog.underlying t = some (.slice e)) (hinf : (Try.prog.info? e).map (fun i => (i.zero, i.size, i.bytes)) = some (some z, 1, by_)) (hzc : z.cells.size = 1) (hby : by_ ≤ 100)
    (v : Value) (b : Option Nat) (xs : List Value) (hr : Row w e v b xs) (c : Nat) (x : Value) (hc : w.cell? ⟨c, 0, none⟩ = some x) (h1 : x.oneCell' = true) (hn : xs.length ≤ 1000000) :
    ∃ v' w' b', (Builtin.append_ #[t, t] ty #[v, .slice (some ⟨c, 0, none⟩) 1 1]).run Try.prog w = .ok v' w' ∧ Row w' e v' b' (xs ++ [x]) ∧ w.grownBy w' b ∧ (b' = b ∨ ∃ g, b' = some g ∧ w.heap.size ≤ g) := by
  obtain ⟨i, hi, hz, hsize, hb8⟩ := info_parts hinf
  have hcells : ∀ j u, [x][j]? = some u → w.cell? ((⟨c, 0, none⟩ : Addr).add j) = some u := by
    intro j u hj
    rcases j with _ | j
    · obtain rfl : x = u := by simpa using hj
      have : (⟨c, 0, none⟩ : Addr).add 0 = ⟨c, 0, none⟩ := rfl
      rw [this]; exact hc
    · simp at hj
  have grow : ∀ (sp : Option Addr) (old : Nat), v = .slice sp xs.length old → old < xs.length + 1 → (∀ j u, xs[j]? = some u → ∃ g, sp = some ⟨g, 0, none⟩ ∧ w.cell? ((⟨g, 0, none⟩ : Addr).add j) = some u) → (sp = none → old = 0) →
      ∃ v' w' b', (Builtin.append_ #[t, t] ty #[v, .slice (some ⟨c, 0, none⟩) 1 1]).run Try.prog w = .ok v' w' ∧ Row w' e v' b' (xs ++ [x]) ∧ w.grownBy w' b ∧ (b' = b ∨ ∃ g, b' = some g ∧ w.heap.size ≤ g) := by
    intro sp old hv ho hx hnil
    subst hv
    have hge := grownCap_ge w (xs.length + 1) old e
    have hcm : grownCap w (xs.length + 1) old e ≤ maxLen := grownCap_le_maxLen w (xs.length + 1) old e (by unfold maxLen; omega)
    have key : ∀ W', W' = w.drew.alloc (.cells (xs.toArray ++ [x].toArray ++ Builtin.zeroCells z.cells (grownCap w (xs.length + 1) old e - (xs.length + 1))) e) →
        Row W' e (.slice (some ⟨w.heap.size, 0, none⟩) (xs.length + 1) (grownCap w (xs.length + 1) old e)) (some w.heap.size) (xs ++ [x]) ∧ w.grownBy W' b := by
      rintro W' rfl
      refine ⟨Or.inr ⟨w.heap.size, _, _, rfl, by simp, heap_alloc_new w.drew _, by simpa using hge, hcm, ?_, ?_⟩, ⟨rfl, rfl, rfl, by simp, fun k hk _ => alloc_old w.drew _ k hk⟩⟩
      · simp only [Array.size_append, List.size_toArray, size_zeroCells, hzc, List.length_singleton]
        omega
      · simp only [Array.toList_append, List.append_assoc]
        rw [← List.append_assoc]
        exact List.take_left
    by_cases h0 : sp = none
    · subst h0
      obtain rfl := hnil rfl
      have hx0 : xs = [] := by
        rcases xs with _ | ⟨y, r⟩
        · rfl
        · obtain ⟨g, hg, _⟩ := hx 0 y rfl
          cases hg
      subst hx0
      have hr := run_append_nil (P := Try.prog) w t ty e i z hu hi hz ⟨c, 0, none⟩ 1 1 [x] (by rw [hsize]; rfl) hcells (by omega) (by omega) (by rw [hb8]; omega)
      obtain ⟨k1, k2⟩ := key _ rfl
      simp only [List.length_nil, Nat.zero_add] at k1 k2
      refine ⟨_, _, _, hr, ?_, ?_, Or.inr ⟨_, rfl, Nat.le_refl _⟩⟩
      · simpa using k1
      · simpa using k2
    · obtain ⟨ad, had⟩ : ∃ ad, sp = some ad := by cases sp with
        | none => exact absurd rfl h0
        | some ad => exact ⟨ad, rfl⟩
      subst had
      have hh : ∀ j u, xs[j]? = some u → w.cell? (ad.add j) = some u := fun j u hu => by
        obtain ⟨g, hg, hgc⟩ := hx j u hu
        cases hg
        exact hgc
      have hr := run_append_grow (P := Try.prog) w t ty e i z hu hi hz ad xs.length old xs (by rw [hsize]; simp) hh ⟨c, 0, none⟩ 1 1 [x] (by rw [hsize]; rfl) hcells (by omega) (by omega) (growslice_fits (by omega) (by rw [hb8]; exact Nat.le_trans (Nat.mul_le_mul (show xs.length + 1 ≤ 1000001 by omega) hby) (by decide)))
      obtain ⟨k1, k2⟩ := key _ rfl
      exact ⟨_, _, _, hr, k1, k2, Or.inr ⟨_, rfl, Nat.le_refl _⟩⟩
  rcases hr with ⟨rfl, rfl, sp, rfl⟩ | ⟨g, cap, cur, rfl, rfl, h2, h3, h4, h5, h6⟩
  · exact grow sp 0 rfl (by simp) (fun j u hu => by simp at hu) (fun _ => rfl)
  · by_cases hroom : xs.length + 1 ≤ cap
    · have hr := run_append_room (P := Try.prog) w t ty e i hu hi g xs.length cap cur h2 ⟨c, 0, none⟩ 1 1 [x] (by rw [hsize]; rfl) hcells (fun u hu => by simp at hu; subst hu; exact h1) hroom (by rw [hsize, h5]; simpa using hroom)
      rw [hsize, Nat.mul_one] at hr
      refine ⟨_, _, some g, hr, Or.inr ⟨g, cap, _, rfl, by simp, setRow_heap w g cur _ e _ h2, by simpa using hroom, h4, ?_, ?_⟩, ⟨rfl, rfl, rfl, by simp, fun k _ hk => setRow_other w g k _ (fun e => hk (by rw [e]))⟩, Or.inl rfl⟩
      · simp only [List.size_toArray, List.length_append, List.length_take, List.length_drop, Array.length_toList, List.length_singleton]
        omega
      · rw [h6]
        exact List.take_left
    · refine grow _ cap rfl (by omega) (fun j u hu => ⟨g, rfl, ?_⟩) (fun h => by cases h)
      have hadd : (⟨g, 0, none⟩ : Addr).add j = ⟨g, j, none⟩ := by unfold Addr.add; split <;> simp_all
      rw [hadd, cell_of_row w g j cur e (0, 0) h2]
      rw [← h6, List.getElem?_take] at hu
      split at hu
      · simpa using hu
      · cases hu
end Go.Proofs.Ytcfhchdkohjbfaa.Kv
