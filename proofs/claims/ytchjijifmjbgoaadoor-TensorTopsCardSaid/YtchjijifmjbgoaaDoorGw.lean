import Derived.Test.YtchjijifmjbgoaaDoorGv
import Derived.Test.YtchjijifmjbgoaaDoorGq
namespace Go.Proofs.YtchjijifmjbgoaaDoor.Tn
open Go.ChangeShapes Go.WideShapes Go.ChangeAt Go.RowKit Go.Proofs.YtchjijifmjbgoaaDoor.Fx Go.Proofs.YtchjijifmjbgoaaDoor.Rf

/-! ### a matrix that lies in memory, and its rows -/
def matC (r c : Int) (sp : Option Addr) (n cap : Nat) : Array Value := #[.int .i64 r, .int .i64 c, .slice sp n cap]
theorem size_mat : (Tryd.prog.info? 24).map (·.size) = some 3 := by kernel_rfl
/-- the law's own copy of a matrix, and what its numbers are -/
structure MatAt (w : World) (r c : Int) (sp : Option Addr) (n cap : Nat) (W : World) : Prop where
  below : Below w.heap.size w W
  row : W.heap[w.heap.size]? = some (.cells (matC r c sp n cap) 24 (0, 0))
theorem MatAt.made (w : World) (r c : Int) (sp : Option Addr) (n cap : Nat) (X : Array Value) (hX : X = matC r c sp n cap) : MatAt w r c sp n cap (w.alloc (.cells X 24)) := by
  subst hX
  exact ⟨(Below.refl _ _).alloc (Nat.le_refl _) _, heap_alloc_new _ _⟩
theorem MatAt.later {w W W' : World} {r c : Int} {sp : Option Addr} {n cap : Nat} (h : MatAt w r c sp n cap W) (hb : Below W.heap.size W W') : MatAt w r c sp n cap W' :=
  ⟨h.below.trans (hb.mono h.below.size), (hb.block _ (Array.getElem?_eq_some_iff.1 h.row).1).trans h.row⟩
theorem MatAt.c0 {w W : World} {r c : Int} {sp : Option Addr} {n cap : Nat} (h : MatAt w r c sp n cap W) : W.cell? ⟨w.heap.size, 0, none⟩ = some (.int .i64 r) := by rw [cell_of_row _ _ _ _ _ _ h.row]; rfl
theorem MatAt.c1 {w W : World} {r c : Int} {sp : Option Addr} {n cap : Nat} (h : MatAt w r c sp n cap W) : W.cell? ⟨w.heap.size, 1, none⟩ = some (.int .i64 c) := by rw [cell_of_row _ _ _ _ _ _ h.row]; rfl
theorem MatAt.c2 {w W : World} {r c : Int} {sp : Option Addr} {n cap : Nat} (h : MatAt w r c sp n cap W) : W.cell? ⟨w.heap.size, 2, none⟩ = some (.slice sp n cap) := by rw [cell_of_row _ _ _ _ _ _ h.row]; rfl
/-- s[k:h] of a slice of numbers -/
theorem run_mid (sp : Option Addr) (m cap k h : Nat) (hk : k ≤ h) (hh : h ≤ cap) (w : World) : (Instr.slice 22 (.slice sp m cap) (some (.int .i64 (k : Int))) (some (.int .i64 (h : Int))) none).run Tryd.prog w = .ok (.slice (cutA sp cap k) (h - k) (cap - k)) w := by
  cases hq : Tryd.prog.info? 3 with
  | none => have := size3; simp [hq] at this
  | some i =>
    have hi : i.size = 1 := by have := size3; simpa [hq] using this
    simp only [Instr.slice, run_underlying Tryd.underlying22, Instr.sliceBounds, Instr.sliceBound, asIntOf, sizeOf, typeInfo, Sem.run_bind, Result.andThen_ok, Sem.run_pure, Sem.run_ite]
    simp [hq, hi, hk, hh, cutA]
theorem rowL_length {l : List Int} {C i R : Nat} (hl : l.length = R * C) (hi : i < R) : (rowL l C i).length = C := by
  unfold rowL
  have h : i * C + C ≤ R * C := by
    have := Nat.mul_le_mul_right C (show i + 1 ≤ R from hi)
    rw [Nat.add_mul, Nat.one_mul] at this
    exact this
  simp
  omega
theorem row_nums {w : World} {sp : Option Addr} {cap : Nat} {l : List Int} (h : Nums w sp cap l) (C i : Nat) (hi : i * C ≤ l.length) : Nums w (cutA sp cap (i * C)) (cap - i * C) (rowL l C i) := by
  have h1 := (Sl.cut h (i * C) (by simpa using hi)).first C
  unfold Nums rowL
  rw [List.map_take, List.map_drop]
  exact h1
theorem row_in {R C i : Nat} (hi : i < R) : i * C + C ≤ R * C := by
  have := Nat.mul_le_mul_right C (show i + 1 ≤ R from hi)
  rw [Nat.add_mul, Nat.one_mul] at this
  exact this
theorem chkM_ok {r c : Int} {l : List Int} {N : Nat} (hN : l.length = N) (h : chkM r c l = 0) : ∃ R C : Nat, r = (R : Int) ∧ c = (C : Int) ∧ 1 ≤ R ∧ R ≤ 512 ∧ 1 ≤ C ∧ C ≤ 64 ∧ N = R * C ∧ ∀ x ∈ l, isW x := by
  unfold chkM at h
  rw [hN] at h
  by_cases hs : sizeM r c N
  · rw [if_neg (fun hh => hh hs)] at h
    by_cases hw : ∀ x ∈ l, isW x
    · obtain ⟨h1, h2, h3, h4, h5⟩ := hs
      refine ⟨r.toNat, c.toNat, by omega, by omega, by omega, by omega, by omega, by omega, ?_, hw⟩
      have e : ((r.toNat * c.toNat : Nat) : Int) = r * c := by rw [Int.natCast_mul, Int.toNat_of_nonneg (by omega), Int.toNat_of_nonneg (by omega)]
      omega
    · rw [if_neg hw] at h; omega
  · rw [if_pos hs] at h; omega
theorem firstE_zero : ∀ {l : List Int}, (∀ e ∈ l, e = 0) → firstE l = 0
  | [], _ => rfl
  | e :: l, h => by
    rw [firstE, if_neg (fun hh => hh (h e (List.mem_cons_self ..)))]
    exact firstE_zero (fun x hx => h x (List.mem_cons_of_mem _ hx))
theorem firstE_first : ∀ {l : List Int} {k : Nat}, (∀ i, i < k → l.getD i 0 = 0) → l.getD k 0 ≠ 0 → firstE l = l.getD k 0
  | [], k, _, h => absurd (by simp) h
  | e :: l, 0, _, h => by
    rw [firstE]
    simp only [List.getD_cons_zero] at h ⊢
    rw [if_pos h]
  | e :: l, k + 1, hz, h => by
    have h0 := hz 0 (by omega)
    simp only [List.getD_cons_zero] at h0
    rw [firstE, if_neg (fun hh => hh h0)]
    simp only [List.getD_cons_succ] at h ⊢
    exact firstE_first (fun i hi => by have := hz (i + 1) (by omega); simpa using this) h
theorem dotsE_get (l : List Int) (c : Nat) (v : List Int) (n i : Nat) (h : i < n) : (dotsE l c v n).getD i 0 = dotE (rowL l c i) v := by simp [dotsE, h]
theorem dotsR_length (l : List Int) (c : Nat) (v : List Int) (n : Nat) : (dotsR l c v n).length = n := by simp [dotsR]
theorem dotsR_succ (l : List Int) (c : Nat) (v : List Int) (n : Nat) : dotsR l c v (n + 1) = dotsR l c v n ++ [dotR (rowL l c n) v] := by
  unfold dotsR
  rw [List.range_succ, List.map_append]
  rfl
theorem mulE_all {l v : List Int} {R C : Nat} (hk : chkM (R : Int) (C : Int) l = 0) (hv : v.length = C) (h : ∀ i, i < R → dotE (rowL l C i) v = 0) : mulE (R : Int) (C : Int) l v = 0 ∧ mulV (R : Int) (C : Int) l v = dotsR l C v R := by
  have h1 : mulE (R : Int) (C : Int) l v = 0 := by
    unfold mulE
    rw [if_neg (fun hh => hh hk), if_neg (by omega), Int.toNat_natCast, Int.toNat_natCast]
    refine firstE_zero (fun e he => ?_)
    obtain ⟨i, hi, rfl⟩ := List.mem_map.1 he
    exact h i (List.mem_range.1 hi)
  refine ⟨h1, ?_⟩
  unfold mulV
  rw [if_pos h1, Int.toNat_natCast, Int.toNat_natCast]
theorem mulE_first {l v : List Int} {R C k : Nat} (hk : chkM (R : Int) (C : Int) l = 0) (hv : v.length = C) (hkR : k < R) (h : ∀ i, i < k → dotE (rowL l C i) v = 0) (hb : dotE (rowL l C k) v ≠ 0) : mulE (R : Int) (C : Int) l v = dotE (rowL l C k) v ∧ mulV (R : Int) (C : Int) l v = [] := by
  have h1 : mulE (R : Int) (C : Int) l v = dotE (rowL l C k) v := by
    unfold mulE
    rw [if_neg (fun hh => hh hk), if_neg (by omega), Int.toNat_natCast, Int.toNat_natCast, firstE_first (k := k) (fun i hi => by rw [dotsE_get _ _ _ _ _ (by omega)]; exact h i hi) (by rw [dotsE_get _ _ _ _ _ hkR]; exact hb), dotsE_get _ _ _ _ _ hkR]
  refine ⟨h1, ?_⟩
  unfold mulV
  rw [if_neg (by rw [h1]; exact hb)]
end Go.Proofs.YtchjijifmjbgoaaDoor.Tn
