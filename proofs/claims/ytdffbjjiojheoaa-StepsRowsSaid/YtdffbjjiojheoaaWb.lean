import Derived.Test.YtdffbjjiojheoaaWa
import Derived.RangeFuncNested
import Derived.RangeFuncBound
import Derived.RangeFuncCalls
import Derived.RangeFuncLeaves
import Derived.Shelf.Abstract
import Derived.Shelf.RegionOpen
import Derived.OwnWalkIn
import Derived.TacticsInMore
import Derived.LoopNIn
import Derived.LoopIn
import Derived.Maps.AppendAt
namespace Go.Proofs.Ytdffbjjiojheoaa.Wg
set_option maxRecDepth 100000
open Go.ChangeShapes Go.WideShapes Go.ChangeAt Go.RowKit Go.Shelf

/-! ### ranges over a function whose rounds are told of memory -/
section
variable {F : Fence} {n : Nat} {P : Program}
/-- a contract of an iterator that tells of each thing what lies in memory beside it: G (what has come, the thing, the world) -/
def SeqTells {α : Type} (F : Fence) (n : Nat) (P : Program) (g : Nat) (lb : Array Value) (encs : α → Array Value) (Kp : World → World → Prop) (G : List α → α → World → Prop) (S Sp : List α → Prop) (w : World) : Prop :=
  ∀ (l : Nat) (J Jx : List α → World → Prop) (W : World), Below w.heap.size w W → AbidesFrom W.heap.size J → AbidesFrom W.heap.size Jx →
    (∀ pre x W1, J pre W1 → G pre x W1 → YieldAt F (n - 1) P l (encs x) W1 fun e W' => (e = .returned (.bool true) ∧ J (pre ++ [x]) W' ∧ Kp W1 W') ∨ (e = .returned (.bool false) ∧ Jx (pre ++ [x]) W' ∧ Kp W1 W')) →
    J [] W →
    CallsIn F n P g (#[.func (.yield l) #[] #[]] ++ lb) W fun e W' => (∃ v, e = .returned v) ∧ ((∃ xs, S xs ∧ J xs W') ∨ (∃ pre, Sp pre ∧ Jx pre W'))
/-- what is asked at a round's end: what is kept is kept, too, where the loop is left -/
def tellsPost {α : Type} (B : Nat) (Kp : World → World → Prop) (I : List α → World → Prop) (Ix : Code → List α → World → Prop) (xs : List α) (W : World) : Exit → Act → World → Prop
  | .normal, _, W' => KeepsFrom B W W' ∧ Kp W W' ∧ I xs W'
  | .ret, _, W' => KeepsFrom B W W' ∧ Kp W W' ∧ Ix .ret xs W'
  | .exit id, _, W' => KeepsFrom B W W' ∧ Kp W W' ∧ Ix (.exit id) xs W'
  | .goto t, _, W' => KeepsFrom B W W' ∧ Kp W W' ∧ Ix (.goto t) xs W'
  | .panic _, _, _ => False
  | .outgrown, _, _ => False
/-- the loop over such an iterator -/
theorem wpIn_rangeFunc_tells {α : Type} {g : Operand} {ps : Array Tmp} {assign body : Code} {Q : Exit → Act → World → Prop} {a : Act} {w : World}
    (hro : F.round = none) (h1 : 1 ≤ n) {gf : Nat} {lb : Array Value} (hg : a.eval g = .func (.func gf) #[] lb) (hFg : F.fn gf) (eg : ∀ args w, (callFunc gf args).run P w = .ok (.enter gf args) w)
    {encs : α → Array Value} {Kp : World → World → Prop} {G : List α → α → World → Prop} {S Sp : List α → Prop} {w0 : World} (hseq : SeqTells F (n - 1) P gf lb encs Kp G S Sp w0)
    (hKt : ∀ {A B C : World}, Kp A B → Kp B C → Kp A C) (hKb : ∀ (W : World) (l : Nat) (o o' : Obj), w.heap.size ≤ l → W.heap[l]? = some o → o.isCells = false → o.isWalk = false → Kp W (W.putObj l o')) (hb0 : Below w0.heap.size w0 w) (hps : ∀ x, (encs x).size = ps.size)
    (I : List α → World → Prop) (Ix : Code → List α → World → Prop) (hI : OwnFrom w.heap.size I) (hIx : ∀ c, OwnFrom w.heap.size (Ix c)) (h0 : I [] w) (Ax : List α → α → Act → World → Prop) (hAx : ∀ pre x a', OwnFrom w.heap.size (fun (_ : Unit) W => Ax pre x a' W))
    (hassign : ∀ (l : Nat) (pre : List α) (x : α) (W : World) (K : Act → World → Prop), I pre W → G pre x W → (∀ a' W', KeepsFrom w.heap.size W W' → Kp W W' → I pre W' → Ax pre x a' W' → K a' W') →
      assign.wpIn (F.inRound l) (n - 1 - 1) P (Exit.then K (fun _ _ _ => False)) { tmps := (ps.zip (encs x)).foldl (fun t (p, v) => t.setIfInBounds p v) a.tmps, defers := [] } W)
    (hbody : ∀ (l : Nat) (pre : List α) (x : α) (a' : Act) (W : World), w.heap.size ≤ l → (∃ r, W.heap[l]? = some (.loop r)) → I pre W → Ax pre x a' W → body.wpIn (F.inRound l) (n - 1 - 1) P (tellsPost w.heap.size Kp I Ix (pre ++ [x]) W) a' W)
    (hdone : ∀ (D : Nat) (xs : List α) (W : World), w.heap.size ≤ D → S xs → I xs W → W.heap[D]? = some (.deferred (some [])) → Q .normal { a with defers := { target := .collected D, args := #[] } :: a.defers } W)
    (hstop : ∀ (D : Nat) (c : Code) (pre : List α) (W : World), w.heap.size ≤ D → Sp pre → Ix c pre W → W.heap[D]? = some (.deferred (some [])) → c.wpIn F n P Q { a with defers := { target := .collected D, args := #[] } :: a.defers } W) :
    (Code.rangeFunc g ps assign body).wpIn F n P Q a w := by
  refine wpIn_rangeFunc fun fn hfn => ?_
  rw [hro]
  let B := w.heap.size
  obtain ⟨rec, hrec⟩ : ∃ rec : LoopState → Option Code → Loop, rec = fun st pe => { state := st, pending := pe, fn, tmps := a.tmps, params := ps, assign, body, defers := w.heap.size } := ⟨_, rfl⟩
  obtain ⟨V, hV⟩ : ∃ V, (w.alloc (.deferred (some []))).alloc (.loop (rec .ready none)) = V := ⟨_, rfl⟩
  -- what the two blocks of the loop hold
  have hBk : ∀ (st : LoopState) (pe : Option Code) (X : World), X.heap[w.heap.size + 1]? = some (.loop (rec st pe)) → (Obj.loop (rec st pe)).isCells = false ∧ (Obj.loop (rec st pe)).isWalk = false := fun _ _ _ _ => ⟨rfl, rfl⟩
  have vL : V.heap[w.heap.size + 1]? = some (.loop (rec .ready none)) := by
    have h := World.alloc_heap_new (w.alloc (.deferred (some []))) (.loop (rec .ready none))
    rw [World.size_alloc] at h
    rw [← hV]
    exact h
  have vD : V.heap[w.heap.size]? = some (.deferred (some [])) := by
    rw [← hV]
    exact (Below.heap_alloc _ _ _ (by simp)).trans (World.alloc_heap_new w _)
  have vI : I [] V := by rw [← hV]; exact hI.alloc _ (hI.alloc _ h0)
  have vB : Below w0.heap.size w0 V := by
    rw [← hV]
    exact hb0.trans ((((Below.refl _ w).alloc (Nat.le_refl _) _).alloc (by simp) _).mono hb0.size)
  have vS : V.heap.size = w.heap.size + 2 := by rw [← hV]; simp
  have enter : (Instr.enterLoop fn a.tmps ps assign body none).run P w = .ok (w.heap.size + 1, [{ target := .collected w.heap.size, args := #[] }]) V := by
    rw [← hV, hrec]
    exact run_enterLoop_outer _ _ _ _ _
  refine ⟨w.heap.size + 1, [{ target := .collected w.heap.size, args := #[] }], V, { target := .fn (.func gf) lb, args := #[.func (.yield (w.heap.size + 1)) #[] #[]] }, V, gf, #[.func (.yield (w.heap.size + 1)) #[] #[]] ++ lb, V, enter, ?_, ?_, ?_, fun _ => h1, ?_⟩
  · simp only [resolve, hg]
    simp [go_sem]
  · intro f' hf'
    simp [Target.leads] at hf'
    subst hf'
    exact hFg
  · simp [invoke, go_sem, eg]
  -- blocks that are turned by the iterator are not those of the loop
  have far : ∀ {A : World} {row : Option Nat}, (∀ r, row = some r → V.heap.size ≤ r ∧ ∃ o : Obj, A.heap[r]? = some o ∧ o.isWalk = true) → ∀ r, row = some r → w.heap.size ≤ r ∧ ∃ o : Obj, A.heap[r]? = some o ∧ o.isCells = false := fun hr r e => by
    obtain ⟨h2, o, ho, hw⟩ := hr r e
    exact ⟨by omega, o, ho, Obj.not_cells_of_walk hw⟩
  have turn : ∀ {st : LoopState} {pe : Option Code} {X : World}, X.heap[w.heap.size + 1]? = some (.loop (rec st pe)) → ∀ {A : World} {row : Option Nat}, X.grownBy A row → (∀ r, row = some r → V.heap.size ≤ r ∧ ∃ o : Obj, X.heap[r]? = some o ∧ o.isWalk = true) → A.heap[w.heap.size + 1]? = some (.loop (rec st pe)) := fun h _ _ hg' hr => (grownBy_keeps hg' (fun r e => (hr r e).2) h rfl).trans h
  refine (hseq (w.heap.size + 1)
    (fun pre W => I pre W ∧ W.heap[w.heap.size + 1]? = some (.loop (rec .ready none)) ∧ W.heap[w.heap.size]? = some (.deferred (some [])))
    (fun pre W => ∃ c, Ix c pre W ∧ W.heap[w.heap.size + 1]? = some (.loop (rec .done (some c))) ∧ W.heap[w.heap.size]? = some (.deferred (some [])))
    V vB
    (fun s A B' row hs hg' hr => ⟨hI s A B' row hs.1 hg' (far hr), turn hs.2.1 hg' hr, (grownBy_keeps hg' (fun r e => (hr r e).2) hs.2.2 rfl).trans hs.2.2⟩)
    (fun s A B' row ⟨c, hc, hl, hk⟩ hg' hr => ⟨c, hIx c s A B' row hc hg' (far hr), turn hl hg' hr, (grownBy_keeps hg' (fun r e => (hr r e).2) hk rfl).trans hk⟩)
    ?round ⟨vI, vL, vD⟩).mono ?behind
  case behind =>
    rintro e X ⟨⟨v, rfl⟩, ⟨xs, hS, hi, hl, hk⟩ | ⟨pre, hSp, c, hi, hl, hk⟩⟩
    · have h2 := run_endLoop (P := P) hl (by rw [hrec]; simp)
      rw [hrec] at h2
      exact ⟨none, _, h2, hdone _ xs _ (Nat.le_refl _) hS (hI.putObj _ hi (by omega) hl rfl) ((World.putObj_heap_other (by omega)).trans hk)⟩
    · have h2 := run_endLoop (P := P) hl (by rw [hrec]; simp)
      rw [hrec] at h2
      exact ⟨some c, _, h2, hstop _ c pre _ (Nat.le_refl _) hSp ((hIx c).putObj _ hi (by omega) hl rfl) ((World.putObj_heap_other (by omega)).trans hk)⟩
  case round =>
    rintro pre x W ⟨hi, hl, hk⟩ hG
    have hy := run_yield (P := P) (args := encs x) hl (by rw [hrec]; exact hps x)
    rw [hrec] at hy
    refine ⟨fn, _, assign, body, hy, roundIn_of_wpIn hfn (hassign _ pre x W _ hi hG ?_)⟩
    clear hy
    intro a' U hU hKU hiU hax
    have ul := hU.same _ _ (by omega) hl rfl
    have uk := hU.same _ _ (Nat.le_refl _) hk rfl
    have ult : w.heap.size + 1 < U.heap.size := (Array.getElem?_eq_some_iff.1 ul).1
    refine ⟨_, run_beginRound ul (by rw [hrec]), ?_⟩
    obtain ⟨Z, hZ⟩ : ∃ Z, U.putObj (w.heap.size + 1) (.loop { rec .ready none with state := .busy }) = Z := ⟨_, rfl⟩
    have zl : Z.heap[w.heap.size + 1]? = some (.loop { rec .ready none with state := .busy }) := by rw [← hZ]; exact World.putObj_heap_same ult
    have zk : Z.heap[w.heap.size]? = some (.deferred (some [])) := by rw [← hZ]; exact (World.putObj_heap_other (by omega)).trans uk
    have zK : Kp U Z := by rw [← hZ]; exact hKb _ _ _ _ (by omega) ul rfl rfl
    have zI : I pre Z := by rw [← hZ]; exact hI.putObj _ hiU (by omega) ul rfl
    have zA : Ax pre x a' Z := by rw [← hZ]; exact (hAx pre x a').putObj (s := ()) _ hax (by omega) ul rfl
    have hb := hbody (w.heap.size + 1) pre x a' Z (by omega) ⟨_, zl⟩ zI zA
    rw [← hZ] at hb
    refine wpIn_mono hb ?_
    rw [hZ]
    -- a round's end, in whichever way
    have fin : ∀ (jump : Option Code) (Y : World), KeepsFrom w.heap.size Z Y → (Instr.endRound (w.heap.size + 1) jump).run P Y = .ok (.bool jump.isNone) (Y.putObj (w.heap.size + 1) (.loop (rec (if jump.isNone then .ready else .done) jump))) ∧ Y.heap[w.heap.size + 1]? = some (.loop { rec .ready none with state := .busy }) ∧
        (Y.putObj (w.heap.size + 1) (.loop (rec (if jump.isNone then .ready else .done) jump))).heap[w.heap.size + 1]? = some (.loop (rec (if jump.isNone then .ready else .done) jump)) ∧ (Y.putObj (w.heap.size + 1) (.loop (rec (if jump.isNone then .ready else .done) jump))).heap[w.heap.size]? = some (.deferred (some [])) := fun jump Y hY => by
      have yl := hY.same _ _ (by omega) zl rfl
      have h2 := run_endRound (P := P) jump yl
      rw [hrec] at h2 ⊢
      rw [hrec] at yl
      exact ⟨h2, yl, World.putObj_heap_same (Array.getElem?_eq_some_iff.1 yl).1, (World.putObj_heap_other (by omega)).trans (hY.same _ _ (Nat.le_refl _) zk rfl)⟩
    have out : ∀ (c : Code) (Y : World), KeepsFrom w.heap.size Z Y → Kp Z Y → Ix c (pre ++ [x]) Y → ∃ v w', (Instr.endRound (w.heap.size + 1) (some c)).run P Y = .ok v w' ∧ ((Ending.returned v = .returned (.bool true) ∧ (I (pre ++ [x]) w' ∧ w'.heap[w.heap.size + 1]? = some (.loop (rec .ready none)) ∧ w'.heap[w.heap.size]? = some (.deferred (some []))) ∧ Kp W w') ∨ (Ending.returned v = .returned (.bool false) ∧ (∃ c', Ix c' (pre ++ [x]) w' ∧ w'.heap[w.heap.size + 1]? = some (.loop (rec .done (some c'))) ∧ w'.heap[w.heap.size]? = some (.deferred (some []))) ∧ Kp W w')) := fun c Y hY hKY hIY => by
      obtain ⟨hr, h3, h4, h5⟩ := fin (some c) Y hY
      exact ⟨_, _, hr, .inr ⟨rfl, ⟨c, (hIx _).putObj _ hIY (by omega) h3 rfl, h4, h5⟩, hKt hKU (hKt (hKt zK hKY) (hKb _ _ _ _ (by omega) h3 rfl rfl))⟩⟩
    rintro e a3 Y hp
    cases e with
    | normal =>
      obtain ⟨hY, hKY, hIY⟩ := hp
      obtain ⟨hr, h3, h4, h5⟩ := fin none Y hY
      exact ⟨_, _, hr, .inl ⟨rfl, ⟨hI.putObj _ hIY (by omega) h3 rfl, h4, h5⟩, hKt hKU (hKt (hKt zK hKY) (hKb _ _ _ _ (by omega) h3 rfl rfl))⟩⟩
    | ret => exact out .ret Y hp.1 hp.2.1 hp.2.2
    | exit id => exact out (.exit id) Y hp.1 hp.2.1 hp.2.2
    | goto t => exact out (.goto t) Y hp.1 hp.2.1 hp.2.2
    | panic ch => exact hp.elim
    | outgrown => exact hp.elim
end
end Go.Proofs.Ytdffbjjiojheoaa.Wg
