import Derived.Test.YtllaecliaojmjaaDoorBk
namespace Go.Proofs.YtllaecliaojmjaaDoor.Bp
set_option maxRecDepth 100000
open Go.ChangeShapes Go.WideShapes Go.ChangeAt Go.RowKit Go.Proofs.YtllaecliaojmjaaDoor.Tn
open Go.ChangeMaps (setBlock heap_setBlock_same heap_setBlock_other)

/-! ### the package's New -/
/-- a coder that is made -/
def Cd (g : Nat) (al : List Int) (ps : List (Int × Int)) (T : List (List Int)) (W : World) : Prop :=
  ∃ m sp c, Cr g m al ps (.slice sp T.length c) W ∧ Strs W sp c T
theorem Cd.later {g : Nat} {al : List Int} {ps : List (Int × Int)} {T : List (List Int)} {W W' : World} (h : Cd g al ps T W) (hb : Below W.heap.size W W') : Cd g al ps T W' := by
  obtain ⟨m, sp, c, h1, h2⟩ := h
  exact ⟨m, sp, c, h1.later hb, h2.below hb⟩
/-- what New answers -/
def NewP (w : World) (al : List Int) (ps : List (Int × Int)) (e : Ending) (w' : World) : Prop :=
  Below w.heap.size w w' ∧ (((newD al ps).1 ≠ 0 ∧ e = .returned (.tuple #[.pointer none, .int .i64 (newD al ps).1])) ∨
    ((newD al ps).1 = 0 ∧ ∃ g, e = .returned (.tuple #[.pointer (some ⟨g, 0, none⟩), .int .i64 0]) ∧ g = w.heap.size + 1 ∧ Cd g al ps (newD al ps).2 w'))
theorem builtC (m : Nat) : Tryd.prog.built 57 [(2, .map (some m))] = some (crow (.slice none 0 0) [] m) := by kernel_rfl
theorem wpList_buildC {w : World} {ops : Array Oper} {rest : List Oper} {o : Oper} {a : Act} {Q : Exit → Act → World → Prop} (hg : o.guard = none) (x : Operand) (ho : o.op = .build 57 #[(2, x)]) (m : Nat) (hx : a.eval x = .map (some m))
    (h : wpList Tryd.prog ops Q rest (a.put o.dst (.agg (crow (.slice none 0 0) [] m))) w) : wpList Tryd.prog ops Q (o :: rest) a w := by
  have e : ((#[(2, x)] : Array (Nat × Operand)).map fun (i, x) => (i, a.eval x)).toList = [(2, .map (some m))] := by simp [hx]
  refine wpList_build hg _ _ ho (by rw [e, builtC m]; rfl) ?_
  rw [e, builtC m]
  exact h
theorem Gw.made (w : World) : Gw w.heap.size (w.heap.size + 1) w.heap.size (w.heap.size + 2) [] [] [] (.slice none 0 0) ((w.alloc (.map #[] 0)).alloc (.cells (crow (.slice none 0 0) [] w.heap.size) 57)) := by
  refine ⟨⟨?_, ?_⟩, World.ownsRow_nil _ _ _ _, by simp, by omega, by omega, by omega, by omega, by omega⟩
  · exact top2 _ _ _ _
  · show ((w.alloc (.map #[] 0)).alloc (.cells (crow (.slice none 0 0) [] w.heap.size) 57)).heap[w.heap.size]? = _
    rw [heap_alloc_old _ _ (by simp)]
    exact heap_alloc_new _ _
theorem newD_size {al : List Int} {ps : List (Int × Int)} (h : al.length < 1 ∨ 512 < al.length + ps.length) : newD al ps = (13, []) := by unfold newD; rw [if_pos h]
theorem newD_dup {al : List Int} {ps : List (Int × Int)} (h : ¬ (al.length < 1 ∨ 512 < al.length + ps.length)) (hd : ¬ al.Nodup) : newD al ps = (15, []) := by unfold newD; rw [if_neg h, if_pos hd]
theorem newD_go {al : List Int} {ps : List (Int × Int)} (h : ¬ (al.length < 1 ∨ 512 < al.length + ps.length)) (hd : al.Nodup) : newD al ps = newT (one al) [] ps := by unfold newD; rw [if_neg h, if_neg (fun e => e hd)]
theorem take_dup {al : List Int} {i : Nat} (hi : i < al.length) (h : al.getD i 0 ∈ al.take i) : ¬ al.Nodup := by
  intro hn
  obtain ⟨k, hk, e⟩ := List.mem_iff_getElem.1 h
  have hk2 : k < i := by simp at hk; omega
  exact dup_not (k := k) (i := i) hk2 hi (by rw [List.getElem_take] at e; rw [← e]; simp [show k < al.length by omega]) hn
theorem take_nodup {al : List Int} {i : Nat} (hi : i < al.length) (h : al.getD i 0 ∉ al.take i) (hn : (al.take i).Nodup) : (al.take (i + 1)).Nodup := by
  rw [take_at hi, List.nodup_append]
  refine ⟨hn, by simp, fun a ha b hb => ?_⟩
  obtain rfl : b = al.getD i 0 := by simpa using hb
  intro e
  subst e
  exact h ha
theorem one_take {al : List Int} {i : Nat} (hi : i < al.length) : one (al.take (i + 1)) = one (al.take i) ++ [[al.getD i 0]] := by rw [take_at hi]; simp [one]
theorem ptake_at {ps : List (Int × Int)} {i : Nat} (h : i < ps.length) : ps.take (i + 1) = ps.take i ++ [ps.getD i (0, 0)] := by
  rw [List.take_succ_eq_append_getElem h]
  simp [h]
theorem pdrop_at {ps : List (Int × Int)} {k : Nat} (h : k < ps.length) : ps.drop k = ps.getD k (0, 0) :: ps.drop (k + 1) := by
  rw [List.drop_eq_getElem_cons h]
  simp [h]
theorem newT_no {T : List (List Int)} {seen r : List (Int × Int)} {p : Int × Int} (h : stepE T seen p ≠ 0) : newT T seen (p :: r) = (stepE T seen p, []) := by rw [newT, if_pos h]
theorem newT_yes {T : List (List Int)} {seen r : List (Int × Int)} {p : Int × Int} (h : stepE T seen p = 0) : newT T seen (p :: r) = newT (T ++ [txt T p]) (seen ++ [p]) r := by rw [newT, if_neg (by omega)]
theorem short_snoc {T : List (List Int)} {t : List Int} (h : ∀ k, (T.getD k []).length ≤ 16) (ht : t.length ≤ 16) : ∀ k, ((T ++ [t]).getD k []).length ≤ 16 := fun k => by
  rw [List.getD_eq_getElem?_getD, List.getElem?_append]
  split
  · have := h k
    rwa [List.getD_eq_getElem?_getD] at this
  · rcases hk : k - T.length with _ | j
    · simpa using ht
    · simp
theorem short_one (al : List Int) : ∀ k, ((one al).getD k []).length ≤ 16 := fun k => by
  unfold one
  rw [List.getD_eq_getElem?_getD, List.getElem?_map]
  rcases al[k]? with _ | x
  · simp
  · simp
end Go.Proofs.YtllaecliaojmjaaDoor.Bp
