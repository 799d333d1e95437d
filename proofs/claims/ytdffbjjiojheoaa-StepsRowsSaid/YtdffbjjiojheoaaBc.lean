import Derived.Test.YtdffbjjiojheoaaBs
-- from Bc
namespace Go.Proofs.Ytdffbjjiojheoaa.Bp
set_option maxRecDepth 100000
open Go.ChangeShapes Go.WideShapes Go.ChangeAt Go.RowKit Go.Proofs.Ytdffbjjiojheoaa.Tn
open Go.ChangeMaps (setBlock heap_setBlock_same heap_setBlock_other)
/-! ### a coder of the package, in memory -/
/-- the place of a byte, from 1 on; 0: it has none -/
def plc (al : List Int) (x : Nat) : Int := if (x : Int) ∈ al then (al.idxOf (x : Int) : Int) + 1 else 0
def plcs (al : List Int) : List Value := (List.range 256).map fun i => .int .i64 (plc al i)
theorem plcs_length (al : List Int) : (plcs al).length = 256 := by simp [plcs]
theorem plcs_at (al : List Int) {x : Nat} (hx : x < 256) : (plcs al)[x]? = some (.int .i64 (plc al x)) := by simp [plcs, hx]
/-- the cells of a coder -/
def crow (sv : Value) (al : List Int) (m : Nat) : Array Value := (sv :: (plcs al ++ [.map (some m)])).toArray
theorem crow_at (sv : Value) (al : List Int) (m : Nat) {x : Nat} (hx : x < 256) : (crow sv al m)[1 + x]? = some (.int .i64 (plc al x)) := by
  have h := plcs_at al hx
  unfold crow
  rw [List.getElem?_toArray, Nat.add_comm, List.getElem?_cons_succ, List.getElem?_append_left (by rw [plcs_length]; exact hx)]
  exact h
theorem crow_map (sv : Value) (al : List Int) (m : Nat) : (crow sv al m)[257]? = some (.map (some m)) := by
  unfold crow
  rw [List.getElem?_toArray, List.getElem?_cons_succ, List.getElem?_append_right (by rw [plcs_length]; omega), plcs_length]
  rfl
theorem crow_zero (sv : Value) (al : List Int) (m : Nat) : (crow sv al m)[0]? = some sv := rfl
/-- a coder in block g, its map in block m -/
structure Cr (g m : Nat) (al : List Int) (ps : List (Int × Int)) (sv : Value) (W : World) : Prop where
  row : W.heap[g]? = some (.cells (crow sv al m) 148 (0, 0))
  mp : Mp al.length ps m W
section
variable {W W' : World} {g m : Nat} {al : List Int} {ps : List (Int × Int)} {sv : Value}
theorem Cr.later (h : Cr g m al ps sv W) (hb : Below W.heap.size W W') : Cr g m al ps sv W' := ⟨(hb.block _ (Array.getElem?_eq_some_iff.1 h.row).1).trans h.row, h.mp.later hb⟩
theorem Cr.c0 (h : Cr g m al ps sv W) : W.cell? ⟨g, 0, none⟩ = some sv := by rw [cell_of_row _ _ _ _ _ _ h.row]; exact crow_zero _ _ _
theorem Cr.c1 (h : Cr g m al ps sv W) {x : Nat} (hx : x < 256) : W.cell? ⟨g, 1 + x, none⟩ = some (.int .i64 (plc al x)) := by rw [cell_of_row _ _ _ _ _ _ h.row]; exact crow_at _ _ _ hx
theorem Cr.c2 (h : Cr g m al ps sv W) : W.cell? ⟨g, 257, none⟩ = some (.map (some m)) := by rw [cell_of_row _ _ _ _ _ _ h.row]; exact crow_map _ _ _
end
set_option maxHeartbeats 4000000 in
theorem isToken_any (w : World) (g m : Nat) (al : List Int) (ps : List (Int × Int)) (sp : Option Addr) (M c : Nat) (t : Int) (h : Cr g m al ps (.slice sp M c) w) (_hM : M ≤ maxLen) :
    Calls Try.prog 100 #[.pointer (some ⟨g, 0, none⟩), .int .i64 t] w fun e w' => e = .returned (.bool (decide (0 ≤ t ∧ t < (M : Int)))) ∧ w' = w := by
  have c0 := h.c0
  clear h
  by_cases h0 : 0 ≤ t
  · have d0 : decide (0 ≤ t) = true := by simpa using h0
    have e1 : decide (0 ≤ t ∧ t < (M : Int)) = decide (t < (M : Int)) := by simp [h0]
    rw [e1]
    by_cases h1 : t < (M : Int)
    · have d1 : decide (t < (M : Int)) = true := by simpa using h1
      rw [d1]
      clear h0 h1
      go_enter Try.func100, Try.ntmps100
      go_wp2
      go_ret
      exact ⟨rfl, rfl⟩
    · have d1 : decide (t < (M : Int)) = false := by simpa using h1
      rw [d1]
      clear h0 h1
      go_enter Try.func100, Try.ntmps100
      go_wp2
      go_ret
      exact ⟨rfl, rfl⟩
  · have d0 : decide (0 ≤ t) = false := by simpa using h0
    have e1 : decide (0 ≤ t ∧ t < (M : Int)) = false := by simp [h0]
    rw [e1]
    clear h0
    go_enter Try.func100, Try.ntmps100
    go_wp2
    go_ret
    exact ⟨rfl, rfl⟩
set_option maxHeartbeats 4000000 in
theorem many_any (w : World) (g m : Nat) (al : List Int) (ps : List (Int × Int)) (sp : Option Addr) (M c : Nat) (h : Cr g m al ps (.slice sp M c) w) (_hM : M ≤ maxLen) :
    Calls Try.prog 81 #[.pointer (some ⟨g, 0, none⟩)] w fun e w' => e = .returned (.int .i64 (M : Int)) ∧ w' = w := by
  have c0 := h.c0
  clear h
  go_enter Try.func81, Try.ntmps81
  go_wp2
  go_ret
  exact ⟨rfl, rfl⟩
end Go.Proofs.Ytdffbjjiojheoaa.Bp
-- from Bv
namespace Go.Proofs.Ytdffbjjiojheoaa.Bp
set_option maxRecDepth 100000
open Go.ChangeShapes Go.WideShapes Go.ChangeAt Go.RowKit Go.Proofs.Ytdffbjjiojheoaa.Tn
open Go.ChangeMaps (setBlock heap_setBlock_same heap_setBlock_other)
/-! ### a coder of the package while it grows -/
/-- the coder's block g, its map's m, the texts' row behind B -/
structure Gw (lo g m B : Nat) (al : List Int) (ps : List (Int × Int)) (T : List (List Int)) (sv : Value) (W : World) : Prop where
  cr : Cr g m al ps sv W
  texts : W.ownsRow B 9 1 sv T.length (T.map strV)
  big : B ≤ W.heap.size
  gB : g < B
  mB : m < B
  gm : g ≠ m
  lg : lo ≤ g
  lm : lo ≤ m
section
variable {W W' : World} {lo g m B : Nat} {al : List Int} {ps : List (Int × Int)} {T : List (List Int)} {sv sv' : Value}
theorem Gw.later (h : Gw lo g m B al ps T sv W) (hb : Below W.heap.size W W') : Gw lo g m B al ps T sv W' :=
  ⟨h.cr.later hb, h.texts.kept (row := none) (grown_of hb none) (by cases sv.ownBlock <;> simp), Nat.le_trans h.big hb.size, h.gB, h.mB, h.gm, h.lg, h.lm⟩
theorem plc_snoc {al : List Int} {x y : Nat} (hx : (x : Int) ∉ al) : plc (al ++ [(x : Int)]) y = if y = x then (al.length : Int) + 1 else plc al y := by
  unfold plc
  by_cases hyx : y = x
  · subst hyx
    rw [if_pos (by simp), if_pos rfl, List.idxOf_append, if_neg hx]
    simp
  · have hne : (y : Int) ≠ (x : Int) := by omega
    rw [if_neg hyx]
    by_cases hy : (y : Int) ∈ al
    · rw [if_pos (by simp [hy]), if_pos hy, List.idxOf_append, if_pos hy]
    · rw [if_neg (by simp [hy, hne]), if_neg hy]
theorem plcs_snoc {al : List Int} {x : Nat} (hx : (x : Int) ∉ al) : plcs (al ++ [(x : Int)]) = (plcs al).set x (.int .i64 ((al.length : Int) + 1)) := by
  apply List.ext_getElem?
  intro i
  by_cases hi : i < 256
  · rw [plcs_at _ hi, plc_snoc hx, List.getElem?_set]
    by_cases hix : i = x
    · subst hix
      rw [if_pos rfl, if_pos rfl, if_pos (by rw [plcs_length]; exact hi)]
    · rw [if_neg hix, if_neg (fun e => hix e.symm), plcs_at _ hi]
  · rw [List.getElem?_eq_none (by rw [plcs_length]; omega), List.getElem?_eq_none (by rw [List.length_set, plcs_length]; omega)]
theorem crow_snoc {al : List Int} {x : Nat} (hx : (x : Int) ∉ al) (hx2 : x < 256) (sv : Value) (m : Nat) : (crow sv al m).setIfInBounds (1 + x) (.int .i64 ((al.length : Int) + 1)) = crow sv (al ++ [(x : Int)]) m := by
  unfold crow
  rw [plcs_snoc hx, List.setIfInBounds_toArray, Nat.add_comm 1 x, List.set_cons_succ, List.set_append_left _ _ (by rw [plcs_length]; exact hx2)]
theorem crow_text (sv sv' : Value) (al : List Int) (m : Nat) : (crow sv al m).setIfInBounds 0 sv' = crow sv' al m := by
  unfold crow
  rw [List.setIfInBounds_toArray, List.set_cons_zero]
/-- a text more: the row of texts has grown, and the coder's cell tells it -/
theorem Gw.push {t : List Int} (h : Gw lo g m B al ps T sv W) (hg : W.grownBy W' sv.ownBlock) (ho : W'.ownsRow B 9 1 sv' (T.length + 1) ((T ++ [t]).map strV)) : Gw lo g m B al ps (T ++ [t]) sv' (W'.setCell ⟨g, 0, none⟩ sv') := by
  have hfar : ∀ k, sv.ownBlock = some k → B ≤ k := fun k hk => (own_block h.texts hk).1
  have hgB := h.gB
  have hmB := h.mB
  have hbig := h.big
  have hgm := h.gm
  have hrow : W'.heap[g]? = some (.cells (crow sv al m) 148 (0, 0)) := (hg.block _ (by omega) (fun e => by have := hfar _ e.symm; omega)).trans h.cr.row
  refine ⟨⟨?_, ?_⟩, ?_, by have := hg.size; simp; omega, h.gB, h.mB, h.gm, h.lg, h.lm⟩
  · rw [heap_setCell_same _ _ _ _ _ _ hrow, crow_text]
  · show (W'.setCell ⟨g, 0, none⟩ sv').heap[m]? = _
    rw [heap_setCell_other _ _ _ _ (fun e => hgm e.symm), hg.block m (by omega) (fun e => by have := hfar _ e.symm; omega)]
    exact h.cr.mp
  · have hgs : W'.grownBy (W'.setCell ⟨g, 0, none⟩ sv') (some g) := ⟨rfl, rfl, rfl, by simp, fun k hk hne => by rw [heap_setCell_other _ _ _ _ (fun e => hne (by rw [e]))]⟩
    rw [List.length_append]
    exact ho.kept hgs (by
      rcases hs : sv'.ownBlock with _ | k
      · exact Or.inl rfl
      · exact Or.inr (fun e => by have := (own_block ho hs).1; cases e; omega))
theorem below_push (h : Gw lo g m B al ps T sv W) (hg : W.grownBy W' sv.ownBlock) : Below lo W (W'.setCell ⟨g, 0, none⟩ sv') := by
  have hlg := h.lg
  have hgB := h.gB
  have hbig := h.big
  refine ⟨hg.os, hg.tape, hg.output, by have := hg.size; simp; omega, fun k hk => ?_⟩
  rw [heap_setCell_other _ _ _ _ (by simp; omega)]
  exact hg.block k (by omega) (fun e => by have := (own_block h.texts e.symm).1; omega)
/-- a byte's place -/
theorem Gw.place {x : Nat} (h : Gw lo g m B al [] T sv W) (hx : (x : Int) ∉ al) (hx2 : x < 256) : Gw lo g m B (al ++ [(x : Int)]) [] T sv (W.setCell ⟨g, 1 + x, none⟩ (.int .i64 ((al.length : Int) + 1))) := by
  have hgs : W.grownBy (W.setCell ⟨g, 1 + x, none⟩ (.int .i64 ((al.length : Int) + 1))) (some g) := ⟨rfl, rfl, rfl, by simp, fun k hk hne => by rw [heap_setCell_other _ _ _ _ (fun e => hne (by rw [e]))]⟩
  refine ⟨⟨?_, ?_⟩, ?_, by have := h.big; simp; omega, h.gB, h.mB, h.gm, h.lg, h.lm⟩
  · rw [heap_setCell_same _ _ _ _ _ _ h.cr.row, crow_snoc hx hx2]
  · show (W.setCell ⟨g, 1 + x, none⟩ (.int .i64 ((al.length : Int) + 1))).heap[m]? = _
    rw [heap_setCell_other _ _ _ _ (fun e => h.gm e.symm)]
    exact h.cr.mp
  · exact h.texts.kept hgs (by
      rcases hs : sv.ownBlock with _ | k
      · exact Or.inl rfl
      · exact Or.inr (fun e => by have := (own_block h.texts hs).1; have := h.gB; cases e; omega))
theorem below_place {x : Nat} {v : Value} (h : Gw lo g m B al ps T sv W) : Below lo W (W.setCell ⟨g, 1 + x, none⟩ v) :=
  ⟨rfl, rfl, rfl, by simp, fun k hk => by rw [heap_setCell_other _ _ _ _ (by have := h.lg; simp; omega)]⟩
/-- a pair's entry -/
theorem Gw.entry (h : Gw lo g m B al ps T sv W) (p : Int × Int) : Gw lo g m B al (ps ++ [p]) T sv (setBlock W m (.map (ents al.length 0 (ps ++ [p])).toArray (ps.length + 1))) := by
  have hgs : W.grownBy (setBlock W m (.map (ents al.length 0 (ps ++ [p])).toArray (ps.length + 1))) (some m) := ⟨rfl, rfl, rfl, by simp [setBlock], fun k hk hne => heap_setBlock_other h.cr.mp _ (fun e => hne (by rw [e]))⟩
  refine ⟨⟨?_, h.cr.mp.put p⟩, ?_, by have := h.big; simp [setBlock]; omega, h.gB, h.mB, h.gm, h.lg, h.lm⟩
  · rw [heap_setBlock_other h.cr.mp _ h.gm]
    exact h.cr.row
  · exact h.texts.kept hgs (by
      rcases hs : sv.ownBlock with _ | k
      · exact Or.inl rfl
      · exact Or.inr (fun e => by have := (own_block h.texts hs).1; have := h.mB; cases e; omega))
theorem below_entry (h : Gw lo g m B al ps T sv W) (o : Obj) : Below lo W (setBlock W m o) :=
  ⟨rfl, rfl, rfl, by simp [setBlock], fun k hk => heap_setBlock_other h.cr.mp _ (by have := h.lm; omega)⟩
end
section
variable {a : Act} {o : Oper} {W : World}
theorem run_cf0 (g : Nat) : (Instr.fieldAt 148 (.pointer (some ⟨g, 0, none⟩)) 0).run Try.prog W = .ok (.pointer (some ⟨g, 0, none⟩)) W := by kernel_rfl
theorem exec_cf0 (x : Operand) (ho : o.op = .fieldAddr 148 x 0) (g : Nat) (hx : a.eval x = .pointer (some ⟨g, 0, none⟩)) : (execOp a.eval o).run Try.prog W = .ok (.value (.pointer (some ⟨g, 0, none⟩))) W := by
  unfold execOp
  simp only [ho, hx, Sem.run_bind, run_cf0, Result.andThen_ok, Sem.run_pure]
theorem exec_nilc (x : Operand) (ho : o.op = .nilCheck x) (g : Nat) (hx : a.eval x = .pointer (some ⟨g, 0, none⟩)) : (execOp a.eval o).run Try.prog W = .ok (.value (.pointer (some ⟨g, 0, none⟩))) W := by
  unfold execOp
  simp only [ho, hx, Sem.run_pure]
end
end Go.Proofs.Ytdffbjjiojheoaa.Bp
-- from Bd
namespace Go.Proofs.Ytdffbjjiojheoaa.Bp
set_option maxRecDepth 100000
open Go.ChangeShapes Go.WideShapes Go.ChangeAt Go.RowKit Go.Proofs.Ytdffbjjiojheoaa.Tn
open Go.ChangeMaps (setBlock heap_setBlock_same heap_setBlock_other)
/-! ### addByte -/
def abX (g : Nat) (sv : Value) (x : Nat) : Nat → Option Value
  | 0 => some (.pointer (some ⟨g, 0, none⟩))
  | 1 => some (.pointer (some ⟨g, 0, none⟩))
  | 2 => some (.pointer (some ⟨g, 0, none⟩))
  | 3 => some (.pointer (some ⟨g, 0, none⟩))
  | 4 => some (sv)
  | 5 => some (.int .u8 (x : Int))
  | 7 => some (strV [(x : Int)])
  | 10 => some (.pointer (some ⟨g, 0, none⟩))
  | 11 => some (.pointer (some ⟨g, 0, none⟩))
  | _ => none
set_option maxHeartbeats 8000000 in
theorem addByte_any (w : World) (lo g m B : Nat) (al : List Int) (T : List (List Int)) (sv : Value) (x : Nat) (h : Gw lo g m B al [] T sv w) (hx : x < 256) (hT : T.length = al.length) (hl : al.length ≤ 99999) :
    Calls Try.prog 97 #[.pointer (some ⟨g, 0, none⟩), .int .u8 (x : Int)] w fun e w' => Below lo w w' ∧ (((x : Int) ∈ al ∧ e = .returned (.int .i64 15)) ∨ ((x : Int) ∉ al ∧ e = .returned (.int .i64 0) ∧ ∃ sv', Gw lo g m B (al ++ [(x : Int)]) [] (T ++ [[(x : Int)]]) sv' w')) := by
  have HGw := Lib.hid h
  have HX := Lib.hid hx
  have HTl : Hid (T.length ≤ 999999) := Lib.hid (by omega)
  have HTa := Lib.hid hT
  have HLl := Lib.hid hl
  have Hlo : Hid (∀ k, sv.ownBlock = some k → k < w.heap.size) := Lib.hid (fun k hk => (h.texts.lt k hk).2)
  have c1 := h.cr.c1 hx
  obtain ⟨z, hz⟩ : ∃ z, plc al x = z := ⟨_, rfl⟩
  rw [hz] at c1
  have HZ := Lib.hid hz
  clear h hT hl hz
  have dx : decide (x < 256) = true := by simpa using hx
  have dx2 : (x : Int) < 256 := by omega
  by_cases hm : (x : Int) ∈ al
  · have hz0 : (z == 0) = false := by
      have := HZ.out
      unfold plc at this
      rw [if_pos hm] at this
      simp
      omega
    clear hx
    go_enter Try.func97, Try.ntmps97
    go_wp2
    go_ret
    exact ⟨Below.refl _ _, Or.inl ⟨hm, rfl⟩⟩
  · have hz0 : (z == 0) = true := by
      have := HZ.out
      unfold plc at this
      rw [if_neg hm] at this
      simp [this.symm]
    have HM : Hid ((x : Int) ∉ al) := Lib.hid hm
    clear hx hm
    go_enter Try.func97, Try.ntmps97
    go_upto_region 3 with fail
    refine Tn.wp_region_spec_at (C := fun W => w.grownBy W sv.ownBlock) (Le := Le12 sv.ownBlock) (Pre := fun j W => j = 9 → Below w.heap.size w W) 12 (fun _ => (neP B w.heap.size (strV [(x : Int)]) (.int .u8 (x : Int)) (T.length + 1) ((T ++ [[(x : Int)]]).map strV) (abX g sv x))) (by kernel_rfl) (by kernel_rfl) ⟨rfl, rfl, rfl, Nat.le_refl _, fun _ _ _ => rfl⟩ (fun _ _ _ _ _ _ h => h) (fun _ j i W W' y hne hle h => neP_later Hlo.out hne hle h) (fun j i W W' hne hle hp e => (hp e).trans ((hle.2 (by omega)).mono (hp e).size)) (fun j _ => ⟨rfl, rfl, rfl, Nat.le_refl _, fun _ _ => rfl⟩) (fun ixx yy => ∀ z, abX g sv x ixx = some z → yy = z) (fun _ _ _ _ h => h.2.2.2) (fun ixx => (abX g sv x ixx).getD undef) (fun ixx z h => by simp [h]) ?_ ?_
    · intro u hu
      have h0 : u 0 = .pointer (some ⟨g, 0, none⟩) := hu 0 _ rfl
      have h1 : u 1 = .pointer (some ⟨g, 0, none⟩) := hu 1 _ rfl
      have h2 : u 2 = .pointer (some ⟨g, 0, none⟩) := hu 2 _ rfl
      have h3 : u 3 = .pointer (some ⟨g, 0, none⟩) := hu 3 _ rfl
      have h4 : u 4 = sv := hu 4 _ rfl
      have h5 : u 5 = .int .u8 (x : Int) := hu 5 _ rfl
      have h7 : u 7 = strV [(x : Int)] := hu 7 _ rfl
      have h10 : u 10 = .pointer (some ⟨g, 0, none⟩) := hu 10 _ rfl
      have h11 : u 11 = .pointer (some ⟨g, 0, none⟩) := hu 11 _ rfl
      simp only [List.take_succ_cons, List.take_zero]
      refine Tn.spec_cons (fun W hC hd => ⟨by rfl, ?_⟩) ?_
      · exact Tn.gives_val (.pointer (some ⟨g, 0, none⟩)) W (by rfl) ⟨hC, le_b (by decide) (Below.refl _ _), (fun h => absurd h (by decide)), (fun h => absurd h (by decide)), (fun h => absurd h (by decide)), fun z hz => by cases hz; rfl⟩
      simp only [Act.put, List.setIfInBounds_toArray, List.set_cons_succ, List.set_cons_zero, Nat.reduceAdd]
      rw [h0]
      refine Tn.spec_cons (fun W hC hd => ⟨by rfl, ?_⟩) ?_
      · exact Tn.gives_val (.pointer (some ⟨g, 0, none⟩)) W (by rfl) ⟨hC, le_b (by decide) (Below.refl _ _), (fun h => absurd h (by decide)), (fun h => absurd h (by decide)), (fun h => absurd h (by decide)), fun z hz => by cases hz; rfl⟩
      simp only [Act.put, List.setIfInBounds_toArray, List.set_cons_succ, List.set_cons_zero, Nat.reduceAdd]
      rw [h1]
      refine Tn.spec_cons (fun W hC hd => ⟨by rfl, ?_⟩) ?_
      · exact Tn.gives_val (.pointer (some ⟨g, 0, none⟩)) W (exec_nilc (.tmp 13) rfl g rfl) ⟨hC, le_b (by decide) (Below.refl _ _), (fun h => absurd h (by decide)), (fun h => absurd h (by decide)), (fun h => absurd h (by decide)), fun z hz => by cases hz; rfl⟩
      simp only [Act.put, List.setIfInBounds_toArray, List.set_cons_succ, List.set_cons_zero, Nat.reduceAdd]
      rw [h2]
      refine Tn.spec_cons (fun W hC hd => ⟨by rfl, ?_⟩) ?_
      · exact Tn.gives_val (.pointer (some ⟨g, 0, none⟩)) W (exec_cf0 (.tmp 14) rfl g rfl) ⟨hC, le_b (by decide) (Below.refl _ _), (fun h => absurd h (by decide)), (fun h => absurd h (by decide)), (fun h => absurd h (by decide)), fun z hz => by cases hz; rfl⟩
      simp only [Act.put, List.setIfInBounds_toArray, List.set_cons_succ, List.set_cons_zero, Nat.reduceAdd]
      rw [h3]
      refine Tn.spec_cons (fun W hC hd => ⟨by rfl, ?_⟩) ?_
      · exact Tn.gives_val (sv) W (exec_load1 145 (.tmp 15) rfl ⟨g, 0, none⟩ rfl _ (cell_grown hC HGw.out.cr.c0 (fun k hk => by have := (own_block HGw.out.texts hk).1; have := HGw.out.gB; omega)) _ Try.underlying145 rfl) ⟨hC, le_b (by decide) (Below.refl _ _), (fun h => absurd h (by decide)), (fun h => absurd h (by decide)), (fun h => absurd h (by decide)), fun z hz => by cases hz; rfl⟩
      simp only [Act.put, List.setIfInBounds_toArray, List.set_cons_succ, List.set_cons_zero, Nat.reduceAdd]
      rw [h4]
      refine Tn.spec_cons (fun W hC hd => ⟨by rfl, ?_⟩) ?_
      · exact Tn.gives_val (.int .u8 (x : Int)) W (by rfl) ⟨hC, le_b (by decide) (Below.refl _ _), (fun h => absurd h (by decide)), (fun h => absurd h (by decide)), (fun h => absurd h (by decide)), fun z hz => by cases hz; rfl⟩
      simp only [Act.put, List.setIfInBounds_toArray, List.set_cons_succ, List.set_cons_zero, Nat.reduceAdd]
      rw [h5]
      refine Tn.spec_cons (fun W hC hd => ⟨by rfl, ?_⟩) ?_
      · exact Tn.gives_val _ _ (exec_byte1 (.tmp 17) rfl (x : Int) rfl) ⟨grown_trans hC (grown_of ((Below.refl W.heap.size W).alloc (Nat.le_refl _) _) _), le_b (by decide) ((Below.refl W.heap.size W).alloc (Nat.le_refl _) _), (fun _ => OneV.made _ W 5 hC.size), (fun h => absurd h (by decide)), (fun h => absurd h (by decide)), fun z hz => by cases hz⟩
      simp only [Act.put, List.setIfInBounds_toArray, List.set_cons_succ, List.set_cons_zero, Nat.reduceAdd]
      refine Tn.spec_cons (fun W hC hd => ⟨by rfl, ?_⟩) ?_
      · obtain ⟨b9, e9, _, c9⟩ := (hd ⟨6, .data⟩ (by simp) rfl).1 rfl
        exact Tn.gives_val (strV [(x : Int)]) W (exec_str1 (.tmp 18) rfl b9 (x : Int) e9 c9) ⟨hC, le_b (by decide) (Below.refl _ _), (fun h => absurd h (by decide)), (fun h => absurd h (by decide)), (fun h => absurd h (by decide)), fun z hz => by cases hz; rfl⟩
      simp only [Act.put, List.setIfInBounds_toArray, List.set_cons_succ, List.set_cons_zero, Nat.reduceAdd]
      rw [h7]
      refine Tn.spec_cons (fun W hC hd => ⟨by rfl, ?_⟩) ?_
      · exact Tn.gives_val _ _ (exec_slstr (.tmp 19) rfl [(x : Int)] rfl) ⟨grown_trans hC (grown_of ((Below.refl W.heap.size W).alloc (Nat.le_refl _) _) _), le_b (by decide) ((Below.refl W.heap.size W).alloc (Nat.le_refl _) _), (fun h => absurd h (by decide)), (fun _ => OneV.made _ W 9 hC.size), (fun h => absurd h (by decide)), fun z hz => by cases hz⟩
      simp only [Act.put, List.setIfInBounds_toArray, List.set_cons_succ, List.set_cons_zero, Nat.reduceAdd]
      refine Tn.spec_cons_at (fun W hC hp hd => ⟨by rfl, ?_⟩) ?_
      · obtain ⟨b8, e8, hl8, c8⟩ := (hd ⟨8, .data⟩ (by simp) rfl).2.1 rfl
        have hown := HGw.out.texts.kept (row := none) (grown_of (hp rfl) none) (by cases sv.ownBlock <;> simp)
        exact gives_append_str (.tmp 16) (.tmp 20) rfl B sv T.length T [(x : Int)] rfl hown b8 e8 c8 HTl.out (Nat.le_trans HGw.out.big hC.size) (fun v' W' hown hg => ⟨grown_trans hC hg, le_g hg, (fun h => absurd h (by decide)), (fun h => absurd h (by decide)), (fun _ => hown), fun z hz => by cases hz⟩)
      simp only [Act.put, List.setIfInBounds_toArray, List.set_cons_succ, List.set_cons_zero, Nat.reduceAdd]
      refine Tn.spec_cons (fun W hC hd => ⟨by rfl, ?_⟩) ?_
      · exact Tn.gives_val (.pointer (some ⟨g, 0, none⟩)) W (exec_nilc (.tmp 12) rfl g rfl) ⟨hC, le_b (by decide) (Below.refl _ _), (fun h => absurd h (by decide)), (fun h => absurd h (by decide)), (fun h => absurd h (by decide)), fun z hz => by cases hz; rfl⟩
      simp only [Act.put, List.setIfInBounds_toArray, List.set_cons_succ, List.set_cons_zero, Nat.reduceAdd]
      rw [h10]
      refine Tn.spec_cons (fun W hC hd => ⟨by rfl, ?_⟩) ?_
      · exact Tn.gives_val (.pointer (some ⟨g, 0, none⟩)) W (exec_cf0 (.tmp 22) rfl g rfl) ⟨hC, le_b (by decide) (Below.refl _ _), (fun h => absurd h (by decide)), (fun h => absurd h (by decide)), (fun h => absurd h (by decide)), fun z hz => by cases hz; rfl⟩
      simp only [Act.put, List.setIfInBounds_toArray, List.set_cons_succ, List.set_cons_zero, Nat.reduceAdd]
      rw [h11]
      exact Tn.spec_nil
    · intro u W hu hC hP
      have h0 : u 0 = .pointer (some ⟨g, 0, none⟩) := hu 0 _ rfl
      have h1 : u 1 = .pointer (some ⟨g, 0, none⟩) := hu 1 _ rfl
      have h2 : u 2 = .pointer (some ⟨g, 0, none⟩) := hu 2 _ rfl
      have h3 : u 3 = .pointer (some ⟨g, 0, none⟩) := hu 3 _ rfl
      have h4 : u 4 = sv := hu 4 _ rfl
      have h5 : u 5 = .int .u8 (x : Int) := hu 5 _ rfl
      have h7 : u 7 = strV [(x : Int)] := hu 7 _ rfl
      have h10 : u 10 = .pointer (some ⟨g, 0, none⟩) := hu 10 _ rfl
      have h11 : u 11 = .pointer (some ⟨g, 0, none⟩) := hu 11 _ rfl
      obtain ⟨b6, e6, _⟩ := (hP 6 (by omega)).1 rfl
      obtain ⟨b8, e8, _⟩ := (hP 8 (by omega)).2.1 rfl
      have o9 := (hP 9 (by omega)).2.2.1 rfl
      obtain ⟨v9, hv9⟩ : ∃ v9, u 9 = v9 := ⟨_, rfl⟩
      rw [hv9] at o9
      simp only [List.take_succ_cons, List.take_zero, List.drop_succ_cons, List.drop_zero, Tn.putAll, Act.put, List.setIfInBounds_toArray, List.set_cons_succ, List.set_cons_zero, Nat.reduceAdd]
      rw [h0, h1, h2, h3, h4, h5, e6, h7, e8, hv9, h10, h11]
      have HO9 := Lib.hid o9
      have HG9 : Hid (w.grownBy W sv.ownBlock) := Lib.hid hC
      clear hu h0 h1 h2 h3 h4 h5 h7 h10 h11 e6 e8 hC hP o9 hv9
      have HN9 : Hid (Gw lo g m B al [] (T ++ [[(x : Int)]]) v9 (W.setCell ⟨g, 0, none⟩ v9)) := Lib.hid (HGw.out.push HG9.out HO9.out)
      have HB9 : Hid (Below lo w (W.setCell ⟨g, 0, none⟩ v9)) := Lib.hid (below_push HGw.out HG9.out)
      have HRw : Hid (W.heap[g]? = some (.cells (crow sv al m) 148 (0, 0))) := Lib.hid ((HG9.out.block _ (by have := HGw.out.big; have := HGw.out.gB; omega) (fun e => by have := (own_block HGw.out.texts e.symm).1; have := HGw.out.gB; omega)).trans HGw.out.cr.row)
      have q1 : W.cell? ⟨g, 0, none⟩ = some sv := by rw [cell_of_row _ _ _ _ _ _ HRw.out]; exact crow_zero _ _ _
      have q2 : W.frozen? ⟨g, 0, none⟩ = false := frozen_of_row _ _ _ _ _ HRw.out
      obtain ⟨s9, c9, rfl, _, _, _⟩ := Tn.Sl.all1 HO9.out
      clear c1
      go_upto_region 4 with fail
      refine gen_w (Q := fun w => Code.wp _ _ _ _ w) _ (fun W4 => Gw lo g m B al [] (T ++ [[(x : Int)]]) (.slice s9 (T.length + 1) c9) W4 ∧ Below lo w W4) ⟨HN9.out, HB9.out⟩ ?_
      rintro W4 ⟨hn4, hb4⟩
      have HN4 := Lib.hid hn4
      have HB4 := Lib.hid hb4
      have c0 := hn4.cr.c0
      have c3 := hn4.cr.c1 HX.out
      have q3 : W4.frozen? ⟨g, 1 + x, none⟩ = false := frozen_of_row _ _ _ _ _ hn4.cr.row
      clear hn4 hb4 q1 q2 HN9 HB9 HRw HO9 HG9
      go_still_tail 10, (by kernel_rfl)
      have hb1 : Below W4.heap.size W4 { W4 with drawn := W4.drawn + 1 } := ⟨rfl, rfl, rfl, Nat.le_refl _, fun _ _ => rfl⟩
      refine gen_w (Q := fun w => wpList _ _ _ _ _ w) _ (fun W5 => Gw lo g m B al [] (T ++ [[(x : Int)]]) (.slice s9 (T.length + 1) c9) W5 ∧ Below lo w W5) ⟨HN4.out.later hb1, HB4.out.trans (hb1.mono (by have := HN4.out.big; have := HN4.out.gB; have := HN4.out.lg; omega))⟩ ?_
      clear c0 c3 q3 hb1
      rintro W5 ⟨hn5, hb5⟩
      have HN5 := Lib.hid hn5
      have HB5 := Lib.hid hb5
      have c3 := hn5.cr.c1 HX.out
      have q3 : W5.frozen? ⟨g, 1 + x, none⟩ = false := frozen_of_row _ _ _ _ _ hn5.cr.row
      clear hn5 hb5
      go_wp2
      go_ret
      have hl : (((T.length : Int) + 1)) = (al.length : Int) + 1 := by rw [HTa.out]
      exact ⟨HB5.out.trans (below_place HN5.out), Or.inr ⟨HM.out, rfl, _, by have h9 := HN5.out.place HM.out HX.out; rw [← hl] at h9; exact h9⟩⟩
end Go.Proofs.Ytdffbjjiojheoaa.Bp
-- from Bk
namespace Go.Proofs.Ytdffbjjiojheoaa.Bp
set_option maxRecDepth 100000
open Go.ChangeShapes Go.WideShapes Go.ChangeAt Go.RowKit Go.Proofs.Ytdffbjjiojheoaa.Tn
open Go.ChangeMaps (setBlock heap_setBlock_same heap_setBlock_other)
/-! ### addPair -/
/-- a pair in a block of its own -/
structure Pk (b : Nat) (x y : Int) (W : World) : Prop where
  row : W.heap[b]? = some (.cells #[.int .i64 x, .int .i64 y] 151 (0, 0))
section
variable {W W' : World} {b : Nat} {x y : Int}
theorem Pk.later (h : Pk b x y W) (hb : Below W.heap.size W W') : Pk b x y W' := ⟨(hb.block _ (Array.getElem?_eq_some_iff.1 h.row).1).trans h.row⟩
theorem Pk.cells (h : Pk b x y W) : W.cell? ⟨b, 0, none⟩ = some (.int .i64 x) ∧ W.cell? ⟨b, 1, none⟩ = some (.int .i64 y) := by
  constructor
  · rw [cell_of_row _ _ _ _ _ _ h.row]; rfl
  · rw [cell_of_row _ _ _ _ _ _ h.row]; rfl
theorem size_bpair : (Try.prog.info? 151).map (·.size) = some 2 := by kernel_rfl
theorem Pk.load (h : Pk b x y W) : (loadVar 151 ⟨b, 0, none⟩).run Try.prog W = .ok (.agg #[.int .i64 x, .int .i64 y]) W :=
  run_loadVar_row W b 151 151 _ _ _ h.row under_pair rfl size_bpair
end
theorem str_append (a b : List Int) : strOfNums a ++ strOfNums b = strOfNums (a ++ b) := by
  apply ByteArray.ext
  rw [ByteArray.data_append]
  apply Array.ext'
  simp [strOfNums_data]
theorem str_size (a : List Int) : (strOfNums a).size = a.length := by
  rw [ByteArray.size, ← Array.length_toList, strOfNums_data]
  simp
theorem drawn_below {W : World} (q : Nat) : Below W.heap.size W (W.drewN q) := below_drewN (Below.refl W.heap.size W) q
set_option maxHeartbeats 8000000 in
theorem addPair_any (w : World) (lo g m B : Nat) (al : List Int) (ps : List (Int × Int)) (T : List (List Int)) (sv : Value) (x y : Int) (h : Gw lo g m B al ps T sv w) (hT : Texts al.length ps T) (hM : T.length ≤ 512) (hS : ∀ k, (T.getD k []).length ≤ 16) :
    Calls Try.prog 98 #[.pointer (some ⟨g, 0, none⟩), .agg #[.int .i64 x, .int .i64 y]] w fun e w' => Below lo w w' ∧ e = .returned (.int .i64 (stepE T ps (x, y))) ∧ (stepE T ps (x, y) = 0 → ∃ sv', Gw lo g m B al (ps ++ [(x, y)]) (T ++ [txt T (x, y)]) sv' w') := by
  have hlo : lo ≤ w.heap.size := by have := h.big; have := h.gB; have := h.lg; omega
  have HLo := Lib.hid hlo
  have hb0 : Below w.heap.size w (w.alloc (.cells #[.int .i64 x, .int .i64 y] 151)) := (Below.refl _ _).alloc (Nat.le_refl _) _
  have HG1 := Lib.hid (h.later hb0)
  have HB1 := Lib.hid (hb0.mono hlo)
  have HP1 : Hid (Pk w.heap.size x y (w.alloc (.cells #[.int .i64 x, .int .i64 y] 151))) := Lib.hid ⟨heap_alloc_new _ _⟩
  obtain ⟨s, c, rfl, _, _, _⟩ := Tn.Sl.all1 h.texts
  have HT := Lib.hid hT
  have HMm := Lib.hid hM
  have HSm := Lib.hid hS
  have hMx : T.length ≤ maxLen := by unfold maxLen; omega
  have HMx := Lib.hid hMx
  clear h hT hM hS hMx hb0 hlo
  go_enter Try.func98, Try.ntmps98
  go_upto_region 1 with fail
  refine gen_w (Q := fun w => Code.wp _ _ _ _ w) _ (fun W => Gw lo g m B al ps T (.slice s T.length c) W ∧ Below lo w W ∧ Pk w.heap.size x y W) ⟨HG1.out, HB1.out, HP1.out⟩ ?_
  clear HG1 HB1 HP1
  rintro W1 ⟨hg1, hb1, hp1⟩
  obtain ⟨b, hb⟩ : ∃ b, w.heap.size = b := ⟨_, rfl⟩
  rw [hb] at hp1 ⊢
  have HG1 := Lib.hid hg1
  have HB1 := Lib.hid hb1
  have HP1 := Lib.hid hp1
  obtain ⟨q1, q2⟩ := hp1.cells
  clear hg1 hb1 hp1
  have HS1 : Hid (Strs W1 s c T) := Lib.hid (by
    obtain ⟨s', c', e, _, h1, _⟩ := Tn.Sl.all1 HG1.out.texts
    cases e
    exact h1)
  by_cases hx : 0 ≤ x ∧ x < (T.length : Int)
  · by_cases hy : 0 ≤ y ∧ y < (T.length : Int)
    · have dx : decide (0 ≤ x ∧ x < (T.length : Int)) = true := by simpa using hx
      have dy : decide (0 ≤ y ∧ y < (T.length : Int)) = true := by simpa using hy
      have HXx := Lib.hid hx
      have HYy := Lib.hid hy
      clear hx hy
      go_wp2_with fail
      refine (isToken_any W1 g m al ps s T.length c x HG1.out.cr HMx.out).mono ?_
      rintro e w2 ⟨rfl, rfl⟩
      rw [dx]
      go_wp2_with fail
      refine (isToken_any w2 g m al ps s T.length c y HG1.out.cr HMx.out).mono ?_
      rintro e w3 ⟨rfl, rfl⟩
      rw [dy]
      clear q1 q2 dx dy
      obtain ⟨xn, rfl⟩ := Int.eq_ofNat_of_zero_le HXx.out.1
      obtain ⟨yn, rfl⟩ := Int.eq_ofNat_of_zero_le HYy.out.1
      obtain ⟨q1, q2⟩ := HP1.out.cells
      go_upto_region 3 with fail
      have hl := HP1.out.load
      have c2 := HG1.out.cr.c2
      by_cases hm : ((xn : Int), (yn : Int)) ∈ ps
      · have hlk : ∀ q, (Instr.lookup 144 (.map (some m)) (.agg #[.int .i64 (xn : Int), .int .i64 (yn : Int)]) true).run Try.prog (w3.drewN q) = .ok (.tuple #[.int .i64 (tokP al.length ps ((xn : Int), (yn : Int))), .bool true]) (w3.drewN q) := fun q => by
          have h9 := look_ok (W := w3.drewN q) HG1.out.cr.mp (xn : Int) (yn : Int)
          rw [decide_eq_true hm] at h9
          exact h9
        have HE : Hid (stepE T ps ((xn : Int), (yn : Int)) = 15) := Lib.hid (by
          have h1 := HXx.out
          have h2 := HYy.out
          unfold stepE
          rw [if_neg (by omega), if_pos hm])
        clear hm
        obtain ⟨z, hz⟩ : ∃ z, tokP al.length ps ((xn : Int), (yn : Int)) = z := ⟨_, rfl⟩
        rw [hz] at hlk
        clear hz
        go_quiet (fail)
        go_wp2
        go_ret
        exact ⟨HB1.out.trans ((drawn_below nq).mono (Nat.le_trans HLo.out HB1.out.size)), by rw [HE.out]; rfl, fun e => by rw [HE.out] at e; omega⟩
      · have hlk : ∀ q, (Instr.lookup 144 (.map (some m)) (.agg #[.int .i64 (xn : Int), .int .i64 (yn : Int)]) true).run Try.prog (w3.drewN q) = .ok (.tuple #[.int .i64 (tokP al.length ps ((xn : Int), (yn : Int))), .bool false]) (w3.drewN q) := fun q => by
          have h9 := look_ok (W := w3.drewN q) HG1.out.cr.mp (xn : Int) (yn : Int)
          rw [decide_eq_false hm] at h9
          exact h9
        have HM0 := Lib.hid hm
        obtain ⟨z, hz⟩ : ∃ z, tokP al.length ps ((xn : Int), (yn : Int)) = z := ⟨_, rfl⟩
        rw [hz] at hlk
        clear hz hm
        go_quiet (fail)
        clear hlk
        generalize hw4 : w3.drewN nq = w4
        have HG4 : Hid (Gw lo g m B al ps T (.slice s T.length c) w4) := Lib.hid (by rw [← hw4]; exact HG1.out.later (drawn_below nq))
        have HB4 : Hid (Below lo w w4) := Lib.hid (by rw [← hw4]; exact HB1.out.trans ((drawn_below nq).mono (Nat.le_trans HLo.out HB1.out.size)))
        have HP4 : Hid (Pk b (xn : Int) (yn : Int) w4) := Lib.hid (by rw [← hw4]; exact HP1.out.later (drawn_below nq))
        have HS4 : Hid (Strs w4 s c T) := Lib.hid (by rw [← hw4]; exact HS1.out.below (drawn_below nq))
        clear q1 q2 hl c2 hw4
        obtain ⟨q1, q2⟩ := HP4.out.cells
        have c0 := HG4.out.cr.c0
        have hxn : xn < T.length := by have := HXx.out; omega
        have hyn : yn < T.length := by have := HYy.out; omega
        obtain ⟨d, o, e, t1⟩ := HS4.out.at_ xn hxn
        obtain ⟨d', o', e', t2⟩ := HS4.out.at_ yn hyn
        subst e
        cases e'
        obtain ⟨tx, htx⟩ : ∃ tx, T.getD xn [] = tx := ⟨_, rfl⟩
        obtain ⟨ty, hty⟩ : ∃ ty, T.getD yn [] = ty := ⟨_, rfl⟩
        rw [htx] at t1
        rw [hty] at t2
        have HTx := Lib.hid htx
        have HTy := Lib.hid hty
        unfold strV at t1 t2
        obtain ⟨X, hX⟩ : ∃ X, strOfNums tx = X := ⟨_, rfl⟩
        obtain ⟨Y, hY⟩ : ∃ Y, strOfNums ty = Y := ⟨_, rfl⟩
        rw [hX] at t1
        rw [hY] at t2
        obtain ⟨Z, hZ⟩ : ∃ Z, X ++ Y = Z := ⟨_, rfl⟩
        obtain ⟨t, ht⟩ : ∃ t, txt T ((xn : Int), (yn : Int)) = t := ⟨_, rfl⟩
        have Ht := Lib.hid ht
        have HZ : Hid (Z = strOfNums t) := Lib.hid (by
          rw [← hZ, ← hX, ← hY, str_append, ← htx, ← hty, ← ht]
          rfl)
        clear ht
        have hsz : X.size + Y.size ≤ 32 := by
          rw [← hX, ← hY, str_size, str_size, ← htx, ← hty]
          have h1 := HSm.out xn
          have h2 := HSm.out yn
          omega
        have hbig : (X.size + Y.size > 9223372036854775807) = False := by
          apply eq_false
          omega
        have HX := Lib.hid hX
        have HY := Lib.hid hY
        clear htx hty hX hY hsz
        go_wp2
        go_quiet (fail)
        clear hZ hbig
        generalize hw5 : w4.drewN nq = w5
        have HG5 : Hid (Gw lo g m B al ps T (.slice (some ⟨d, o, none⟩) T.length c) w5) := Lib.hid (by rw [← hw5]; exact HG4.out.later (drawn_below nq))
        have HB5 : Hid (Below lo w w5) := Lib.hid (by rw [← hw5]; exact HB4.out.trans ((drawn_below nq).mono (Nat.le_trans HLo.out HB4.out.size)))
        have HP5 : Hid (Pk b (xn : Int) (yn : Int) w5) := Lib.hid (by rw [← hw5]; exact HP4.out.later (drawn_below nq))
        clear q1 q2 c0 t1 t2 hw5
        obtain ⟨L, hL⟩ : ∃ L, Z.size = L := ⟨_, rfl⟩
        have HL : Hid (L = t.length) := Lib.hid (by rw [← hL, HZ.out, str_size])
        by_cases hlong : 16 < L
        · have d1 : decide (16 < L) = true := by simpa using hlong
          have d2 : decide ((16 : Int) < (L : Int)) = true := by simp; omega
          have HE : Hid (stepE T ps ((xn : Int), (yn : Int)) = 20) := Lib.hid (by
            have h1 := HXx.out
            have h2 := HYy.out
            have h3 := HL.out
            unfold stepE
            rw [if_neg (by omega), if_neg HM0.out, if_pos (by rw [Ht.out]; omega)])
          clear hlong
          go_wp2
          go_ret
          exact ⟨HB5.out, by rw [HE.out]; rfl, fun e => by rw [HE.out] at e; omega⟩
        · have d1 : decide (16 < L) = false := by simpa using hlong
          have d2 : decide ((16 : Int) < (L : Int)) = false := by simp; omega
          have HE : Hid (stepE T ps ((xn : Int), (yn : Int)) = 0) := Lib.hid (by
            have h1 := HXx.out
            have h2 := HYy.out
            have h3 := HL.out
            unfold stepE
            rw [if_neg (by omega), if_neg HM0.out, if_neg (by rw [Ht.out]; omega)])
          clear hlong
          go_upto_region 9 with fail
          clear hL d1 d2
          obtain ⟨q1, q2⟩ := HP5.out.cells
          have hl := HP5.out.load
          have c2 := HG5.out.cr.c2
          have c0 := HG5.out.cr.c0
          go_still_tail 10, (by kernel_rfl)
          have hb1 : Below w5.heap.size w5 { w5 with drawn := w5.drawn + 1 } := ⟨rfl, rfl, rfl, Nat.le_refl _, fun _ _ => rfl⟩
          refine gen_w (Q := fun w => wpList _ _ _ _ _ w) _ (fun W => Gw lo g m B al ps T (.slice (some ⟨d, o, none⟩) T.length c) W ∧ Below lo w W) ⟨HG5.out.later hb1, HB5.out.trans (hb1.mono (Nat.le_trans HLo.out HB5.out.size))⟩ ?_
          clear q1 q2 hl c2 c0 hb1
          rintro w6 ⟨hg6, hb6⟩
          have HG6 := Lib.hid hg6
          have HB6 := Lib.hid hb6
          have HTl : Hid ((T.length : Int) = (al.length : Int) + (ps.length : Int)) := Lib.hid (by have := HT.out.len; omega)
          have hu := update_new hg6.cr.mp (xn : Int) (yn : Int) HM0.out
          rw [← HTl.out] at hu
          clear hg6 hb6
          have HG7 : Hid (Gw lo g m B al (ps ++ [((xn : Int), (yn : Int))]) T (.slice (some ⟨d, o, none⟩) T.length c) _) := Lib.hid (HG6.out.entry ((xn : Int), (yn : Int)))
          have HB7 : Hid (Below lo w _) := Lib.hid (HB6.out.trans (below_entry HG6.out (.map (ents al.length 0 (ps ++ [((xn : Int), (yn : Int))])).toArray (ps.length + 1))))
          generalize setBlock w6 m (.map (ents al.length 0 (ps ++ [((xn : Int), (yn : Int))])).toArray (ps.length + 1)) = w7 at hu HG7 HB7
          go_upto_region 10 with fail
          clear hu
          have hz := HZ.out
          subst hz
          have c0 := HG7.out.cr.c0
          have HMs : Hid (T.length ≤ 999999) := Lib.hid (by have := HMm.out; omega)
          go_wp2_with (refine wpList_push_str rfl (.tmp 64) (.tmp 66) rfl B _ T.length T t rfl HG7.out.texts rfl HMs.out HG7.out.big ?_; intro v9 w9 ho9 hg9; have HO9 := Lib.hid ho9; have HG9 := Lib.hid hg9; clear ho9 hg9; refine Hid.out ?_)
          refine Lib.hid ?_
          obtain ⟨s9, c9, rfl, _, _, _⟩ := Tn.Sl.all1 HO9.out
          have HRw : Hid (w9.heap[g]? = some (.cells (crow (.slice (some ⟨d, o, none⟩) T.length c) al m) 148 (0, 0))) := Lib.hid ((HG9.out.block _ (by have := HG7.out.big; have := HG7.out.gB; omega) (fun e => by have := (own_block HG7.out.texts e.symm).1; have := HG7.out.gB; omega)).trans HG7.out.cr.row)
          have q1 : w9.cell? ⟨g, 0, none⟩ = some (.slice (some ⟨d, o, none⟩) T.length c) := by rw [cell_of_row _ _ _ _ _ _ HRw.out]; exact crow_zero _ _ _
          have q2 : w9.frozen? ⟨g, 0, none⟩ = false := frozen_of_row _ _ _ _ _ HRw.out
          clear c0
          go_wp2
          go_ret
          exact ⟨HB7.out.trans (below_push HG7.out HG9.out), by rw [HE.out]; rfl, fun _ => ⟨_, by rw [Ht.out]; exact HG7.out.push HG9.out HO9.out⟩⟩
    · have dx : decide (0 ≤ x ∧ x < (T.length : Int)) = true := by simpa using hx
      have dy : decide (0 ≤ y ∧ y < (T.length : Int)) = false := by simpa using hy
      have HE : Hid (stepE T ps (x, y) = 10) := Lib.hid (by
        unfold stepE
        rw [if_pos (by omega)])
      clear hx hy
      go_wp2_with fail
      refine (isToken_any W1 g m al ps s T.length c x HG1.out.cr HMx.out).mono ?_
      rintro e w2 ⟨rfl, rfl⟩
      rw [dx]
      go_wp2_with fail
      refine (isToken_any w2 g m al ps s T.length c y HG1.out.cr HMx.out).mono ?_
      rintro e w3 ⟨rfl, rfl⟩
      rw [dy]
      clear dx dy
      go_wp2
      go_ret
      exact ⟨HB1.out, by rw [HE.out]; rfl, fun e => by rw [HE.out] at e; omega⟩
  · have dx : decide (0 ≤ x ∧ x < (T.length : Int)) = false := by simpa using hx
    have HE : Hid (stepE T ps (x, y) = 10) := Lib.hid (by
      unfold stepE
      rw [if_pos (by omega)])
    clear hx
    go_wp2_with fail
    refine (isToken_any W1 g m al ps s T.length c x HG1.out.cr HMx.out).mono ?_
    rintro e w2 ⟨rfl, rfl⟩
    rw [dx]
    clear dx
    go_wp2
    go_ret
    exact ⟨HB1.out, by rw [HE.out]; rfl, fun e => by rw [HE.out] at e; omega⟩
end Go.Proofs.Ytdffbjjiojheoaa.Bp
-- from Bw
namespace Go.Proofs.Ytdffbjjiojheoaa.Bp
set_option maxRecDepth 100000
open Go.ChangeShapes Go.WideShapes Go.ChangeAt Go.RowKit Go.Proofs.Ytdffbjjiojheoaa.Tn
open Go.ChangeMaps (setBlock heap_setBlock_same heap_setBlock_other)
/-! ### the package's New -/
/-- a coder that is made -/
def Cd (g : Nat) (al : List Int) (ps : List (Int × Int)) (T : List (List Int)) (W : World) : Prop :=
  ∃ m sp c, Cr g m al ps (.slice sp T.length c) W ∧ Strs W sp c T
theorem Cd.later {g : Nat} {al : List Int} {ps : List (Int × Int)} {T : List (List Int)} {W W' : World} (h : Cd g al ps T W) (hb : Below W.heap.size W W') : Cd g al ps T W' := by
  obtain ⟨m, sp, c, h1, h2⟩ := h
  exact ⟨m, sp, c, h1.later hb, h2.below hb⟩
/-- what New answers -/
def NewP (w : World) (al : List Int) (ps : List (Int × Int)) (e : Ending) (w' : World) : Prop :=
  Below w.heap.size w w' ∧ (((newD al ps).1 ≠ 0 ∧ e = .returned (.tuple #[.pointer none, .int .i64 (newD al ps).1])) ∨
    ((newD al ps).1 = 0 ∧ ∃ g, e = .returned (.tuple #[.pointer (some ⟨g, 0, none⟩), .int .i64 0]) ∧ g = w.heap.size + 1 ∧ Cd g al ps (newD al ps).2 w'))
theorem builtC (m : Nat) : Try.prog.built 148 [(2, .map (some m))] = some (crow (.slice none 0 0) [] m) := by kernel_rfl
theorem wpList_buildC {w : World} {ops : Array Oper} {rest : List Oper} {o : Oper} {a : Act} {Q : Exit → Act → World → Prop} (hg : o.guard = none) (x : Operand) (ho : o.op = .build 148 #[(2, x)]) (m : Nat) (hx : a.eval x = .map (some m))
    (h : wpList Try.prog ops Q rest (a.put o.dst (.agg (crow (.slice none 0 0) [] m))) w) : wpList Try.prog ops Q (o :: rest) a w := by
  have e : ((#[(2, x)] : Array (Nat × Operand)).map fun (i, x) => (i, a.eval x)).toList = [(2, .map (some m))] := by simp [hx]
  refine wpList_build hg _ _ ho (by rw [e, builtC m]; rfl) ?_
  rw [e, builtC m]
  exact h
theorem Gw.made (w : World) : Gw w.heap.size (w.heap.size + 1) w.heap.size (w.heap.size + 2) [] [] [] (.slice none 0 0) ((w.alloc (.map #[] 0)).alloc (.cells (crow (.slice none 0 0) [] w.heap.size) 148)) := by
  refine ⟨⟨?_, ?_⟩, World.ownsRow_nil _ _ _ _, by simp, by omega, by omega, by omega, by omega, by omega⟩
  · exact top2 _ _ _ _
  · show ((w.alloc (.map #[] 0)).alloc (.cells (crow (.slice none 0 0) [] w.heap.size) 148)).heap[w.heap.size]? = _
    rw [heap_alloc_old _ _ (by simp)]
    exact heap_alloc_new _ _
theorem newD_size {al : List Int} {ps : List (Int × Int)} (h : al.length < 1 ∨ 512 < al.length + ps.length) : newD al ps = (13, []) := by unfold newD; rw [if_pos h]
theorem newD_dup {al : List Int} {ps : List (Int × Int)} (h : ¬ (al.length < 1 ∨ 512 < al.length + ps.length)) (hd : ¬ al.Nodup) : newD al ps = (15, []) := by unfold newD; rw [if_neg h, if_pos hd]
theorem newD_go {al : List Int} {ps : List (Int × Int)} (h : ¬ (al.length < 1 ∨ 512 < al.length + ps.length)) (hd : al.Nodup) : newD al ps = newT (one al) [] ps := by unfold newD; rw [if_neg h, if_neg (fun e => e hd)]
theorem take_dup {al : List Int} {i : Nat} (hi : i < al.length) (h : al.getD i 0 ∈ al.take i) : ¬ al.Nodup := by
  intro hn
  obtain ⟨k, hk, e⟩ := List.mem_iff_getElem.1 h
  have hk2 : k < i := by simp at hk; omega
  exact dup_not (k := k) (i := i) hk2 hi (by rw [List.getElem_take] at e; rw [← e]; simp [show k < al.length by omega]) hn
theorem take_nodup {al : List Int} {i : Nat} (hi : i < al.length) (h : al.getD i 0 ∉ al.take i) (hn : (al.take i).Nodup) : (al.take (i + 1)).Nodup := by
  rw [take_at hi, List.nodup_append]
  refine ⟨hn, by simp, fun a ha b hb => ?_⟩
  obtain rfl : b = al.getD i 0 := by simpa using hb
  intro e
  subst e
  exact h ha
theorem one_take {al : List Int} {i : Nat} (hi : i < al.length) : one (al.take (i + 1)) = one (al.take i) ++ [[al.getD i 0]] := by rw [take_at hi]; simp [one]
theorem ptake_at {ps : List (Int × Int)} {i : Nat} (h : i < ps.length) : ps.take (i + 1) = ps.take i ++ [ps.getD i (0, 0)] := by
  rw [List.take_succ_eq_append_getElem h]
  simp [h]
theorem pdrop_at {ps : List (Int × Int)} {k : Nat} (h : k < ps.length) : ps.drop k = ps.getD k (0, 0) :: ps.drop (k + 1) := by
  rw [List.drop_eq_getElem_cons h]
  simp [h]
theorem newT_no {T : List (List Int)} {seen r : List (Int × Int)} {p : Int × Int} (h : stepE T seen p ≠ 0) : newT T seen (p :: r) = (stepE T seen p, []) := by rw [newT, if_pos h]
theorem newT_yes {T : List (List Int)} {seen r : List (Int × Int)} {p : Int × Int} (h : stepE T seen p = 0) : newT T seen (p :: r) = newT (T ++ [txt T p]) (seen ++ [p]) r := by rw [newT, if_neg (by omega)]
theorem short_snoc {T : List (List Int)} {t : List Int} (h : ∀ k, (T.getD k []).length ≤ 16) (ht : t.length ≤ 16) : ∀ k, ((T ++ [t]).getD k []).length ≤ 16 := fun k => by
  rw [List.getD_eq_getElem?_getD, List.getElem?_append]
  split
  · have := h k
    rwa [List.getD_eq_getElem?_getD] at this
  · rcases hk : k - T.length with _ | j
    · simpa using ht
    · simp
theorem short_one (al : List Int) : ∀ k, ((one al).getD k []).length ≤ 16 := fun k => by
  unfold one
  rw [List.getD_eq_getElem?_getD, List.getElem?_map]
  rcases al[k]? with _ | x
  · simp
  · simp
end Go.Proofs.Ytdffbjjiojheoaa.Bp
