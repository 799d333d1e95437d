import Derived.Test.YtchjijifmjbgoaaDoorJn
namespace Go.Proofs.YtchjijifmjbgoaaDoor.Tn
set_option maxRecDepth 100000
open Go.ChangeShapes Go.WideShapes Go.ChangeAt Go.RowKit Go.Shelf Go.Proofs.YtchjijifmjbgoaaDoor.Fx Go.Proofs.YtchjijifmjbgoaaDoor.Rf

/-! ### the landed code: Mul -/
theorem Sl.recap {w : World} {a : Addr} {cap cap' : Nat} {xs : List Value} (h : Sl w (some a) cap xs) (h1 : xs.length ≤ cap') (h2 : cap' ≤ maxLen) : Sl w (some a) cap' xs := ⟨h1, h2, (fun e => by cases e), h.lies⟩
def rowsV (sp : Option Addr) (cap C R : Nat) : List SlV := (List.range R).map fun q => (cutA sp cap (q * C), C, C)
theorem rowsV_length (sp : Option Addr) (cap C R : Nat) : (rowsV sp cap C R).length = R := by simp [rowsV]
theorem rowsV_map (sp : Option Addr) (cap C R : Nat) : (rowsV sp cap C R).map enS = (List.range R).map (rowS sp cap C) := by
  unfold rowsV
  rw [List.map_map]
  rfl
theorem rowsV_col (sp : Option Addr) (cap C R i : Nat) (hi : i < R) : (colA ((none, 0, 0) : SlV) [rowsV sp cap C R] i).map enS = [rowS sp cap C i] := by
  have : (rowsV sp cap C R).getD i (none, 0, 0) = (cutA sp cap (i * C), C, C) := by simp [rowsV, hi]
  simp only [colA, List.map_cons, List.map_nil, this]
  rfl
set_option maxHeartbeats 4000000 in
theorem collect_any (w : World) (bs bn : Nat) (hbs : bs < w.heap.size) (hbn : bn < w.heap.size) (sp : Option Addr) (cap N C R : Nat) (hN : N = R * C) (hC : 1 ≤ C) (hR : R ≤ 512) (hN2 : N ≤ 32768) (hcap : N ≤ cap) (cs : w.cell? ⟨bs, 0, none⟩ = some (.slice sp N cap)) (cn : w.cell? ⟨bn, 0, none⟩ = some (.int .i64 C)) :
    Calls Tryd.prog 44 #[.func (.func 72) #[] #[.pointer (some ⟨bs, 0, none⟩), .pointer (some ⟨bn, 0, none⟩)]] w fun e w' => ∃ s c, e = .returned (.slice s R c) ∧ Sl w' s c ((rowsV sp cap C R).map enS) ∧ Below w.heap.size w w' := by
  have HX := Lib.hid (callsIn_wide.1 (appendSeq_in w bs bn hbs hbn sp cap N C R hN hC hR hN2 hcap cs cn))
  have HM := Lib.hid (rowsV_map sp cap C R)
  clear cs cn hN
  go_enter Tryd.func44, Tryd.ntmps44
  go_wp2_with fail
  refine HX.out.mono ?_
  rintro e w1 ⟨v1, rfl, ho, hb⟩
  obtain ⟨s1, c1, rfl, _, hs, _⟩ := Sl.all1 ho
  have HS := Lib.hid hs
  have HB := Lib.hid hb
  clear ho hs hb
  go_wp2
  go_ret
  exact ⟨s1, c1, rfl, by rw [HM.out]; exact HS.out, HB.out⟩
/-- the call's own copies -/
structure MulS (w : World) (r c : Int) (sp : Option Addr) (n cap : Nat) (sq : Option Addr) (m caq : Nat) (W : World) : Prop where
  mat : MatAt w r c sp n cap W
  box : W.heap[w.heap.size + 1]? = some (.cells #[.slice sq m caq] 22 (0, 0))
theorem MulS.made (w : World) (r c : Int) (sp : Option Addr) (n cap : Nat) (sq : Option Addr) (m caq : Nat) (X Y : Array Value) (hX : X = matC r c sp n cap) (hY : Y = #[.slice sq m caq]) : MulS w r c sp n cap sq m caq ((w.alloc (.cells X 24)).alloc (.cells Y 22)) := by
  subst hY
  refine ⟨(MatAt.made w r c sp n cap X hX).later ((Below.refl _ _).alloc (Nat.le_refl _) _), ?_⟩
  have := heap_alloc_new (w.alloc (.cells X 24)) (.cells #[.slice sq m caq] 22)
  rwa [World.size_alloc] at this
section
variable {w W W' : World} {r c : Int} {sp : Option Addr} {n cap : Nat} {sq : Option Addr} {m caq : Nat}
theorem MulS.later (h : MulS w r c sp n cap sq m caq W) (hb : Below W.heap.size W W') : MulS w r c sp n cap sq m caq W' :=
  ⟨h.mat.later hb, (hb.block _ (Array.getElem?_eq_some_iff.1 h.box).1).trans h.box⟩
theorem MulS.below (h : MulS w r c sp n cap sq m caq W) : Below w.heap.size w W := h.mat.below
theorem MulS.cb (h : MulS w r c sp n cap sq m caq W) : W.cell? ⟨w.heap.size + 1, 0, none⟩ = some (.slice sq m caq) := by rw [cell_of_row _ _ _ _ _ _ h.box]; rfl
end
theorem mul_first {l v : List Int} {R C : Nat} (hk : chkM (R : Int) (C : Int) l = 0) (hv : v.length = C) (hc : chkV v = 0) (hw : ∀ x ∈ l, isW x) (hl : l.length = R * C) (hC : 1 ≤ C) (hC2 : C ≤ 64) :
    firstN (fun i => over (rnd (dotS (rowL l C i) v))) R = mulE (R : Int) (C : Int) l v ∧ (if firstN (fun i => over (rnd (dotS (rowL l C i) v))) R = 0 then (List.range R).map (fun i => orNil (rnd (dotS (rowL l C i) v))) else []) = mulV (R : Int) (C : Int) l v := by
  obtain ⟨_, _, hn⟩ := chkV_zero hc
  have hrow : ∀ i, i < R → dotOk (rowL l C i) v ∧ dotIn (rowL l C i) v := fun i hi => by
    have h1 := rowL_length (l := l) (C := C) hl hi
    refine ⟨⟨by omega, by omega, by omega⟩, fun x hx => hw x ?_, hn⟩
    exact List.mem_of_mem_drop (List.mem_of_mem_take hx)
  have hE : ∀ i, i < R → dotE (rowL l C i) v = over (rnd (dotS (rowL l C i) v)) := fun i hi => by
    obtain ⟨a, b⟩ := hrow i hi
    unfold dotE
    rw [if_neg (fun h => h a), if_pos b]
  have hR : ∀ i, i < R → dotR (rowL l C i) v = orNil (rnd (dotS (rowL l C i) v)) := fun i hi => by
    unfold dotR
    rw [if_pos (hrow i hi)]
  have e0 : dotsE l C v R = (List.range R).map fun i => over (rnd (dotS (rowL l C i) v)) := by
    unfold dotsE
    apply List.map_congr_left
    intro i hi
    exact hE i (by simpa using hi)
  have e1 : firstN (fun i => over (rnd (dotS (rowL l C i) v))) R = mulE (R : Int) (C : Int) l v := by
    unfold mulE firstN
    rw [if_neg (fun h => h hk), if_neg (by omega), Int.toNat_natCast, Int.toNat_natCast, e0]
  refine ⟨e1, ?_⟩
  rw [e1]
  unfold mulV
  by_cases h0 : mulE (R : Int) (C : Int) l v = 0
  · rw [if_pos h0, if_pos h0, Int.toNat_natCast, Int.toNat_natCast]
    unfold dotsR
    apply List.map_congr_left
    intro i hi
    exact (hR i (by simpa using hi)).symm
  · rw [if_neg h0, if_neg h0]
theorem mulE_vec {l v : List Int} {R C : Nat} (hk : chkM (R : Int) (C : Int) l = 0) (hv : v.length = C) (hc : chkV v ≠ 0) (hl : l.length = R * C) (hR : 1 ≤ R) (hC : 1 ≤ C) (hC2 : C ≤ 64) : mulE (R : Int) (C : Int) l v = chkV v := by
  have h10 : chkV v = 10 := by
    unfold chkV at hc ⊢
    rw [if_neg (by omega)] at hc ⊢
    split
    · rename_i h
      rw [if_pos h] at hc
      exact absurd rfl hc
    · rfl
  have hbad : ¬ ∀ x ∈ v, isN x := fun h => hc (by unfold chkV; rw [if_neg (by omega), if_pos h])
  have hd : dotE (rowL l C 0) v = 10 := by
    have h1 := rowL_length (l := l) (C := C) (i := 0) (R := R) hl (by omega)
    unfold dotE
    rw [if_neg (fun h => h ⟨by omega, by omega, by omega⟩), if_neg (fun h => hbad h.2)]
  rw [h10, (mulE_first hk hv (show 0 < R by omega) (fun i hi => absurd hi (by omega)) (by omega)).1]
  exact hd
end Go.Proofs.YtchjijifmjbgoaaDoor.Tn
