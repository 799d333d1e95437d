import Derived.Test.YtchjijifmjbgoaaDoorGg
import Derived.Test.YtchjijifmjbgoaaDoorGi
namespace Go.Proofs.YtchjijifmjbgoaaDoor.Tn
open Go.ChangeShapes Go.WideShapes Go.ChangeAt Go.RowKit Go.Proofs.YtchjijifmjbgoaaDoor.Fx Go.Proofs.YtchjijifmjbgoaaDoor.Rf

section
variable {W : World} {ops : Array Oper} {rest : List Oper} {o : Oper} {a : Act} {Q : Exit → Act → World → Prop}
/-- append of two numbers to a row of the call's own -/
theorem wpList_push2 (hgd : o.guard = none) (s x : Operand) (ho : o.op = .call { callee := .builtin .append, args := #[s, x], argTypes := #[22, 22] }) (base : Nat) (v : Value) (n : Nat) (l : List Int) (y z : Int) (hs : a.eval s = v) (hown : W.ownsRow base 3 1 v n (l.map (Value.int .i64)))
    (hx : a.eval x = .slice (some ⟨W.heap.size, 0, none⟩) 2 2) (hn : n ≤ 999998) (hbase : base ≤ W.heap.size)
    (h : ∀ v' w', w'.ownsRow base 3 1 v' (n + 2) ((l ++ [y, z]).map (Value.int .i64)) → Below base W w' → wpList Tryd.prog ops Q rest (a.put o.dst v') w') : wpList Tryd.prog ops Q (o :: rest) a (W.alloc (.cells #[.int .i64 y, .int .i64 z] 3)) := by
  have hb : Below W.heap.size W (W.alloc (.cells #[.int .i64 y, .int .i64 z] 3)) := (Below.refl _ _).alloc (Nat.le_refl _) _
  have hsl : Sl (W.alloc (.cells #[.int .i64 y, .int .i64 z] 3)) (some ⟨W.heap.size, 0, none⟩) 2 [.int .i64 y, .int .i64 z] := Sl.new W [.int .i64 y, .int .i64 z] #[.int .i64 y, .int .i64 z] 3 (0, 0) rfl (by simp)
  have ho' := owns_below hown hb
  refine wpList_append_sl 22 3 8 (.int .i64 0) Tryd.underlying22 info3 rfl (by decide) hgd s x ho base v n 2 (l.map (Value.int .i64)) [.int .i64 y, .int .i64 z] hs ho' (some ⟨W.heap.size, 0, none⟩) 2 hx rfl hsl (fun v hv => by
    rcases List.mem_cons.1 hv with rfl | hv
    · rfl
    · obtain rfl := List.mem_singleton.1 hv
      rfl) (by omega) (by simp; omega) ?_
  intro v' w' h1 h2
  refine h v' w' (by rw [List.map_append]; exact h1) ((hb.mono hbase).trans (Below.ofGrown h2 (by simp; omega) (fun k hk => (ho'.lt k hk).1)))
theorem wpList_valH {P : Program} {w : World} (hg : o.guard = none) (v : Value) (hr : (execOp a.eval o).run P w = .ok (.value v) w) (h : wpList P ops Q rest (a.put o.dst v) w) : wpList P ops Q (o :: rest) a w := by
  refine wpList_plain hg fun K hK => ?_
  unfold Oper.wp
  simp only [hr, Oper.upon]
  exact hK _ _ h
end
def NewB (B : Nat) (X : Array Value) (W : World) (v : Value) : Prop := ∃ g, v = .pointer (some ⟨g, 0, none⟩) ∧ B ≤ g ∧ (W.heap[g]? = some (.cells #[.int .i64 0, .int .i64 0] 78 (0, 0)) ∨ W.heap[g]? = some (.cells X 78 (0, 0)))
theorem NewB.later {B : Nat} {W W' : World} {X : Array Value} {v : Value} (h : NewB B X W v) (hb : LeX X W W') : NewB B X W' v := by
  obtain ⟨g, h1, h2, h3⟩ := h
  refine ⟨g, h1, h2, ?_⟩
  rcases h3 with h3 | h3
  · rcases hb g _ h3 with h4 | ⟨_, h4⟩
    · exact Or.inl h4
    · exact Or.inr h4
  · rcases hb g _ h3 with h4 | ⟨_, h4⟩
    · exact Or.inr h4
    · exact Or.inr h4
def rotV7 (l : List Int) (n h : Nat) : List Int := if rotOk l n h then rotL l n h else []
def rotE7 (l : List Int) (n h : Nat) : Int := if rotOk l n h then 0 else 17
theorem rotL_length {l : List Int} {n : Nat} : ∀ h : Nat, rotOk l n h → (rotL l n h).length = 2 * h
  | 0, _ => rfl
  | h + 1, ho => by
    have h1 := ho h (by omega)
    obtain ⟨p, hp⟩ := Option.isSome_iff_exists.1 h1
    rw [rotL_succ hp, List.length_append, rotL_length h (fun j hj => ho j (by omega))]
    simp
    omega
/-- what each operation of a pair's turn yields -/
def rotVal (sp : Option Addr) (N cap g o i : Nat) (x y : Int) (p : Int × Int) (X : Array Value) (e : Int) : Nat → Option Value
  | 0 => some (.slice sp N cap) | 1 => some (.int .i64 (i : Int)) | 2 => some (.pointer (some ⟨g, o + i, none⟩)) | 3 => some (.int .i64 x)
  | 4 => some (.slice sp N cap) | 5 => some (.int .i64 (i : Int)) | 6 => some (.int .i64 ((i + 1 : Nat) : Int)) | 7 => some (.pointer (some ⟨g, o + (i + 1), none⟩)) | 8 => some (.int .i64 y)
  | 9 => some (.agg #[.int .i64 x, .int .i64 y]) | 10 => some (.agg (pairC p)) | 11 => some (.tuple #[.agg X, .int .i64 e]) | 12 => some (.tuple #[.agg X, .int .i64 e]) | 13 => some (.agg X) | 14 => some (.int .i64 e) | _ => none
theorem exec_num_at {a : Act} {o : Oper} {W : World} (x y : Operand) (ho : o.op = .indexAddr 22 x y) (c k n cap i : Nat) (hx : a.eval x = .slice (some ⟨c, k, none⟩) n cap) (hy : a.eval y = .int .i64 (i : Int)) (hi : i < n) : (execOp a.eval o).run Tryd.prog W = .ok (.value (.pointer (some ⟨c, k + i, none⟩))) W := by
  have hadd := add_plain c k i
  cases hq : Tryd.prog.info? 3 with
  | none => have := size3; simp [hq] at this
  | some j =>
    have hj : j.size = 1 := by have := size3; simpa [hq] using this
    unfold execOp
    simp [ho, hx, hy, Instr.indexAt, asIntOf, run_underlying Tryd.underlying22, sizeOf, typeInfo, hq, hj, hi, hadd]
theorem exec_load_num {a : Act} {o : Oper} {W : World} (x : Operand) (ho : o.op = .load 3 x) (g i : Nat) (z : Int) (hx : a.eval x = .pointer (some ⟨g, i, none⟩)) (hc : W.cell? ⟨g, i, none⟩ = some (.int .i64 z)) : (execOp a.eval o).run Tryd.prog W = .ok (.value (.int .i64 z)) W := by
  unfold execOp
  simp only [ho, hx, Instr.loadAt, Instr.sureAddr, Sem.run_bind, Sem.run_pure, Result.andThen_ok]
  simp [go_sem, hc]
theorem cell_lt {w : World} {p : Addr} {v : Value} (h : w.cell? p = some v) : p.block < w.heap.size := by
  by_cases hlt : p.block < w.heap.size
  · exact hlt
  · have hn : w.heap[p.block]? = none := Array.getElem?_eq_none (by omega)
    simp [World.cell?, hn] at h
theorem below_cell {w w' : World} {p : Addr} {v : Value} (hb : Below w.heap.size w w') (h : w.cell? p = some v) : w'.cell? p = some v := by
  rw [hb.cell (cell_lt h)]
  exact h
theorem run_add1 (i : Nat) (h : i ≤ 1000) (W : World) : (binOp .add 3 (.int .i64 (i : Int)) (.int .i64 1)).run Tryd.prog W = .ok (.int .i64 ((i + 1 : Nat) : Int)) W := by
  have hw : IntKind.i64.wrap ((i : Int) + 1) = (i : Int) + 1 := IntWalk.i64_in _ (by omega)
  simp [go_sem, hw]
theorem exec_build2 {a : Act} {o : Oper} {W : World} (x y : Operand) (ho : o.op = .build 78 #[(0, x), (1, y)]) (u v : Int) (hx : a.eval x = .int .i64 u) (hy : a.eval y = .int .i64 v) : (execOp a.eval o).run Tryd.prog W = .ok (.value (.agg #[.int .i64 u, .int .i64 v])) W := by
  have e : ((#[((0 : Nat), x), (1, y)] : Array (Nat × Operand)).map fun q => (q.1, a.eval q.2)).toList = [(0, .int .i64 u), (1, .int .i64 v)] := by simp [hx, hy]
  have hb : Tryd.prog.built 78 ((#[((0 : Nat), x), (1, y)] : Array (Nat × Operand)).map fun q => (q.1, a.eval q.2)).toList = some #[.int .i64 u, .int .i64 v] := by rw [e]; kernel_rfl
  unfold execOp
  simp only [ho, Sem.run_bind, run_build W _ _ _ hb, Result.andThen_ok, Sem.run_pure]
/-- while the pairs are gone through -/
structure RoS (w : World) (l : List Int) (n k : Nat) (v : Value) (W : World) : Prop where
  below : Below w.heap.size w W
  own : W.ownsRow w.heap.size 3 1 v (2 * k) ((rotL l n k).map (Value.int .i64))
set_option maxRecDepth 100000 in
set_option maxHeartbeats 4000000 in
theorem rrot_any (w : World) (sp : Option Addr) (cap N h n : Nat) (l : List Int) (hN : l.length = N) (hl : Nums w sp cap l) (hh : N = 2 * h) (h5 : N ≤ 512) (hi : ∀ x ∈ l, isN x) (hn : n ≤ 1023) :
    Calls Tryd.prog 29 #[.slice sp N cap, .int .i64 (n : Int)] w (AnsE w (rotV7 l n h) (rotE7 l n h)) := by
  have HL := Lib.hid hl
  have HN := Lib.hid hN
  have HI := Lib.hid (fun i h => in_of (p := isN) hi i h)
  have HH := Lib.hid hh
  clear hl hN hi hh
  go_enter Tryd.func29, Tryd.ntmps29
  go_wp2
  go_loopw [6, 7] (fun v i wr => ∃ k : Nat, k ≤ h ∧ i = .int .i64 ((2 * k : Nat) : Int) ∧ rotOk l n k ∧ RoS w l n k v wr) (fun _ i _ => N - (intOf i).toNat)
  case atStart => exact ⟨0, by omega, rfl, fun j hj => by omega, Below.refl _ _, World.ownsRow_nil _ _ _ _⟩
  case round =>
    obtain ⟨k, hk, rfl, hok, hS⟩ := hrel
    obtain ⟨sv, cv, rfl, _, _, _⟩ := Sl.all1 hS.own
    have HS := Lib.hid hS
    have HOk := Lib.hid hok
    obtain ⟨i, hi0⟩ : ∃ i, 2 * k = i := ⟨_, rfl⟩
    have HI0 := Lib.hid hi0
    rw [hi0]
    clear hS hok
    by_cases hlt : k < h
    · have hhN := HH.out
      have hiN : i + 1 < N := by omega
      have hdt : decide ((i : Int) + 1 < (N : Int)) = true := by simp; omega
      have hi2 : (i : Int) / 2 = (k : Int) := by omega
      obtain ⟨g, o, rfl, hc1⟩ := HL.out.at_ i (by rw [HN.out]; omega)
      obtain ⟨g', o', e, hc2⟩ := HL.out.at_ (i + 1) (by rw [HN.out]; exact hiN)
      cases e
      have hx1 := HI.out i (by rw [HN.out]; omega)
      have hx2 := HI.out (i + 1) (by rw [HN.out]; omega)
      have hrp : rotP l n k = (angP k n).bind fun p => trn (l.getD i 0) (l.getD (i + 1) 0) p.1 p.2 := by unfold rotP; rw [hi0]
      obtain ⟨p, hp⟩ := Option.isSome_iff_exists.1 (angP_some k n hn)
      rw [hp] at hrp
      obtain ⟨x, hx⟩ : ∃ x, l.getD i 0 = x := ⟨_, rfl⟩
      obtain ⟨y, hy⟩ : ∃ x, l.getD (i + 1) 0 = x := ⟨_, rfl⟩
      rw [hx] at hc1 hx1 hrp
      rw [hy] at hc2 hx2 hrp
      have HRp : Hid (rotP l n k = trn x y p.1 p.2) := Lib.hid hrp
      have hpi : isN p.1 ∧ isN p.2 := ang_in _ _ n p hp
      have HC1 := Lib.hid hc1
      have HC2 := Lib.hid hc2
      have HX1 := Lib.hid hx1
      have HX2 := Lib.hid hx2
      have HPi := Lib.hid hpi
      have HAn := Lib.hid (angle_any wr k n (by omega) hn)
      rw [hp] at HAn
      rw [show pairV (some p) = .tuple #[.agg (pairC p), .int .i64 0] from rfl] at HAn
      have hk0 : 0 ≤ (k : Int) := by omega
      clear hx hy hc1 hc2 hx1 hx2 hpi hp hrp hi0 hhN
      go_wp2_with fail
      refine HAn.out.mono ?_
      rintro e w1 ⟨rfl, hb1⟩
      have HB1 := Lib.hid hb1
      clear hb1 hi2
      dsimp only
      go_upto_region 8 with (refine wpList_store_row rfl 78 (.tmp 8) (.tmp 24) rfl w1.heap.size (pairC p) rfl rfl 78 _ (heap_alloc_new _ _) size_pair rfl (pairC_one _) ?_)
      try simp only [Act.put]
      refine gen_world (Q := fun w => Code.wp _ _ _ _ w) _ (fun W => Below w1.heap.size w1 W ∧ W.heap[w1.heap.size]? = some (.cells (pairC p) 78 (0, 0))) ⟨below_setRow ((Below.refl _ _).alloc (Nat.le_refl _) _) (Nat.le_refl _) _, setRow_heap _ _ _ _ _ _ (heap_alloc_new _ _)⟩ ?_
      rintro w2 ⟨hb2, hr2⟩
      have hbr : Below wr.heap.size wr w2 := HB1.out.trans (hb2.mono HB1.out.size)
      have hb0 : Below w.heap.size w w2 := HS.out.below.trans (hbr.mono HS.out.below.size)
      have HR2 := Lib.hid hr2
      have HC1x := Lib.hid (below_cell hb0 HC1.out)
      have HC2x := Lib.hid (below_cell hb0 HC2.out)
      have HOwn := Lib.hid (owns_below HS.out.own hbr)
      have HB0 := Lib.hid hb0
      clear hb2 hr2 hbr hb0
      obtain ⟨X, e, hX, hX2, hX1, hXd⟩ := ang_ways (x, y) p.1 p.2
      have HXd := Lib.hid hXd
      have HTc := Lib.hid (fun W => turn_any W x y p.1 p.2 HX1.out HX2.out HPi.out.1 HPi.out.2)
      dsimp only at hX
      rw [hX] at HTc
      have HXs := Lib.hid hX2
      have HXo := Lib.hid hX1
      clear hX hX2 hX1 hXd
      refine wp_region_spec (C := fun W => Below w2.heap.size w2 W) (Le := LeX X) 17 (fun u q W v => (q = 15 → NewB w2.heap.size X W v) ∧ (q = 16 → HoldC X (u 15) W) ∧ ∀ z, rotVal (some ⟨g, o, none⟩) N cap g o i x y p X e q = some z → v = z) (by kernel_rfl) (by kernel_rfl) ⟨rfl, rfl, rfl, Nat.le_refl _, fun _ _ => rfl⟩ (fun u u' q W v hd h => ⟨h.1, fun e => ?_, h.2.2⟩) (fun u q W W' v hb h => ⟨fun e => (h.1 e).later hb, fun e => (h.2.1 e).later hb, h.2.2⟩) (fun q v => ∀ z, rotVal (some ⟨g, o, none⟩) N cap g o i x y p X e q = some z → v = z) (fun _ _ _ _ h => h.2.2) (fun q => (rotVal (some ⟨g, o, none⟩) N cap g o i x y p X e q).getD undef) (fun q x h => by rw [h]; rfl) ?_ ?_
      · subst e
        have := hd _ rfl ⟨15, .data⟩ (by simp) rfl
        simp only at this
        rw [← this]
        exact h.2.1 rfl
      · intro u hu
        have h0 : u 0 = .slice (some ⟨g, o, none⟩) N cap := hu 0 _ rfl
        have h1 : u 1 = .int .i64 (i : Int) := hu 1 _ rfl
        have h2 : u 2 = .pointer (some ⟨g, o + i, none⟩) := hu 2 _ rfl
        have h3 : u 3 = .int .i64 x := hu 3 _ rfl
        have h4 : u 4 = .slice (some ⟨g, o, none⟩) N cap := hu 4 _ rfl
        have h5 : u 5 = .int .i64 (i : Int) := hu 5 _ rfl
        have h6 : u 6 = .int .i64 ((i + 1 : Nat) : Int) := hu 6 _ rfl
        have h7 : u 7 = .pointer (some ⟨g, o + (i + 1), none⟩) := hu 7 _ rfl
        have h8 : u 8 = .int .i64 y := hu 8 _ rfl
        have h9 : u 9 = .agg #[.int .i64 x, .int .i64 y] := hu 9 _ rfl
        have h10 : u 10 = .agg (pairC p) := hu 10 _ rfl
        have h11 : u 11 = .tuple #[.agg X, .int .i64 e] := hu 11 _ rfl
        have h12 : u 12 = .tuple #[.agg X, .int .i64 e] := hu 12 _ rfl
        have h13 : u 13 = .agg X := hu 13 _ rfl
        have h14 : u 14 = .int .i64 e := hu 14 _ rfl
        simp only [List.take_succ_cons, List.take_zero]
        refine spec_cons (fun W hC hd => ⟨by rfl, ?_⟩) ?_
        · exact gives_val (.slice (some ⟨g, o, none⟩) N cap) W (rfl) ⟨hC, LeX.of (Below.refl _ _), (fun h => absurd h (by decide)), (fun h => absurd h (by decide)), fun x hx => by cases hx; rfl⟩
        simp only [Act.put, List.setIfInBounds_toArray, List.set_cons_succ, List.set_cons_zero, Nat.reduceAdd]
        rw [h0]
        refine spec_cons (fun W hC hd => ⟨by rfl, ?_⟩) ?_
        · exact gives_val (.int .i64 (i : Int)) W (rfl) ⟨hC, LeX.of (Below.refl _ _), (fun h => absurd h (by decide)), (fun h => absurd h (by decide)), fun x hx => by cases hx; rfl⟩
        simp only [Act.put, List.setIfInBounds_toArray, List.set_cons_succ, List.set_cons_zero, Nat.reduceAdd]
        rw [h1]
        refine spec_cons (fun W hC hd => ⟨by rfl, ?_⟩) ?_
        · exact gives_val (.pointer (some ⟨g, o + i, none⟩)) W (exec_num_at (.tmp 30) (.tmp 31) rfl g o N cap i rfl rfl (by omega)) ⟨hC, LeX.of (Below.refl _ _), (fun h => absurd h (by decide)), (fun h => absurd h (by decide)), fun x hx => by cases hx; rfl⟩
        simp only [Act.put, List.setIfInBounds_toArray, List.set_cons_succ, List.set_cons_zero, Nat.reduceAdd]
        rw [h2]
        refine spec_cons (fun W hC hd => ⟨by rfl, ?_⟩) ?_
        · exact gives_val (.int .i64 x) W (exec_load_num (.tmp 32) rfl g (o + i) x rfl (below_cell hC HC1x.out)) ⟨hC, LeX.of (Below.refl _ _), (fun h => absurd h (by decide)), (fun h => absurd h (by decide)), fun x hx => by cases hx; rfl⟩
        simp only [Act.put, List.setIfInBounds_toArray, List.set_cons_succ, List.set_cons_zero, Nat.reduceAdd]
        rw [h3]
        refine spec_cons (fun W hC hd => ⟨by rfl, ?_⟩) ?_
        · exact gives_val (.slice (some ⟨g, o, none⟩) N cap) W (rfl) ⟨hC, LeX.of (Below.refl _ _), (fun h => absurd h (by decide)), (fun h => absurd h (by decide)), fun x hx => by cases hx; rfl⟩
        simp only [Act.put, List.setIfInBounds_toArray, List.set_cons_succ, List.set_cons_zero, Nat.reduceAdd]
        rw [h4]
        refine spec_cons (fun W hC hd => ⟨by rfl, ?_⟩) ?_
        · exact gives_val (.int .i64 (i : Int)) W (rfl) ⟨hC, LeX.of (Below.refl _ _), (fun h => absurd h (by decide)), (fun h => absurd h (by decide)), fun x hx => by cases hx; rfl⟩
        simp only [Act.put, List.setIfInBounds_toArray, List.set_cons_succ, List.set_cons_zero, Nat.reduceAdd]
        rw [h5]
        refine spec_cons (fun W hC hd => ⟨by rfl, ?_⟩) ?_
        · exact gives_val (.int .i64 ((i + 1 : Nat) : Int)) W (exec_binOp .add 3 3 (.tmp 35) (.const (.int .i64 1)) rfl (.int .i64 (i : Int)) (.int .i64 1) _ rfl rfl rfl (run_add1 i (by omega) W)) ⟨hC, LeX.of (Below.refl _ _), (fun h => absurd h (by decide)), (fun h => absurd h (by decide)), fun x hx => by cases hx; rfl⟩
        simp only [Act.put, List.setIfInBounds_toArray, List.set_cons_succ, List.set_cons_zero, Nat.reduceAdd]
        rw [h6]
        refine spec_cons (fun W hC hd => ⟨by rfl, ?_⟩) ?_
        · exact gives_val (.pointer (some ⟨g, o + (i + 1), none⟩)) W (exec_num_at (.tmp 34) (.tmp 36) rfl g o N cap (i + 1) rfl rfl hiN) ⟨hC, LeX.of (Below.refl _ _), (fun h => absurd h (by decide)), (fun h => absurd h (by decide)), fun x hx => by cases hx; rfl⟩
        simp only [Act.put, List.setIfInBounds_toArray, List.set_cons_succ, List.set_cons_zero, Nat.reduceAdd]
        rw [h7]
        refine spec_cons (fun W hC hd => ⟨by rfl, ?_⟩) ?_
        · exact gives_val (.int .i64 y) W (exec_load_num (.tmp 37) rfl g (o + (i + 1)) y rfl (below_cell hC HC2x.out)) ⟨hC, LeX.of (Below.refl _ _), (fun h => absurd h (by decide)), (fun h => absurd h (by decide)), fun x hx => by cases hx; rfl⟩
        simp only [Act.put, List.setIfInBounds_toArray, List.set_cons_succ, List.set_cons_zero, Nat.reduceAdd]
        rw [h8]
        refine spec_cons (fun W hC hd => ⟨by rfl, ?_⟩) ?_
        · exact gives_val (.agg #[.int .i64 x, .int .i64 y]) W (exec_build2 (.tmp 33) (.tmp 38) rfl x y rfl rfl) ⟨hC, LeX.of (Below.refl _ _), (fun h => absurd h (by decide)), (fun h => absurd h (by decide)), fun x hx => by cases hx; rfl⟩
        simp only [Act.put, List.setIfInBounds_toArray, List.set_cons_succ, List.set_cons_zero, Nat.reduceAdd]
        rw [h9]
        refine spec_cons (fun W hC hd => ⟨by rfl, ?_⟩) ?_
        · exact gives_val (.agg (pairC p)) W (exec_load_row 78 (.tmp 8) rfl w1.heap.size rfl 78 (pairC p) (0, 0) _ ((hC.block _ (Array.getElem?_eq_some_iff.1 HR2.out).1).trans HR2.out) Tryd.underlying78 rfl size_pair) ⟨hC, LeX.of (Below.refl _ _), (fun h => absurd h (by decide)), (fun h => absurd h (by decide)), fun x hx => by cases hx; rfl⟩
        simp only [Act.put, List.setIfInBounds_toArray, List.set_cons_succ, List.set_cons_zero, Nat.reduceAdd]
        rw [h10]
        refine spec_cons (fun W hC hd => ⟨by rfl, ?_⟩) ?_
        · exact gives_call _ _ (exec_call2 61 (.tmp 39) (.tmp 40) #[78, 78] _ _ rfl rfl rfl (cf Tryd.func61 (by kernel_rfl) (by kernel_rfl) _ _)) ((HTc.out W).mono fun e W' h => ⟨_, h.1, hC.trans (h.2.mono hC.size), LeX.of h.2, (fun h => absurd h (by decide)), (fun h => absurd h (by decide)), fun x hx => by cases hx; rfl⟩)
        simp only [Act.put, List.setIfInBounds_toArray, List.set_cons_succ, List.set_cons_zero, Nat.reduceAdd]
        rw [h11]
        refine spec_cons (fun W hC hd => ⟨by rfl, ?_⟩) ?_
        · exact gives_val (.tuple #[.agg X, .int .i64 e]) W (rfl) ⟨hC, LeX.of (Below.refl _ _), (fun h => absurd h (by decide)), (fun h => absurd h (by decide)), fun x hx => by cases hx; rfl⟩
        simp only [Act.put, List.setIfInBounds_toArray, List.set_cons_succ, List.set_cons_zero, Nat.reduceAdd]
        rw [h12]
        refine spec_cons (fun W hC hd => ⟨by rfl, ?_⟩) ?_
        · exact gives_val (.agg X) W (rfl) ⟨hC, LeX.of (Below.refl _ _), (fun h => absurd h (by decide)), (fun h => absurd h (by decide)), fun x hx => by cases hx; rfl⟩
        simp only [Act.put, List.setIfInBounds_toArray, List.set_cons_succ, List.set_cons_zero, Nat.reduceAdd]
        rw [h13]
        refine spec_cons (fun W hC hd => ⟨by rfl, ?_⟩) ?_
        · exact gives_val (.int .i64 e) W (rfl) ⟨hC, LeX.of (Below.refl _ _), (fun h => absurd h (by decide)), (fun h => absurd h (by decide)), fun x hx => by cases hx; rfl⟩
        simp only [Act.put, List.setIfInBounds_toArray, List.set_cons_succ, List.set_cons_zero, Nat.reduceAdd]
        rw [h14]
        refine spec_cons (fun W hC hd => ⟨by rfl, ?_⟩) ?_
        · exact gives_val (.pointer (some ⟨W.heap.size, 0, none⟩)) (W.alloc (.cells #[.int .i64 0, .int .i64 0] 78)) (by rfl) ⟨hC.trans (((Below.refl _ _).alloc (Nat.le_refl _) _).mono hC.size), LeX.of ((Below.refl _ _).alloc (Nat.le_refl _) _), (fun _ => ⟨W.heap.size, rfl, hC.size, Or.inl (heap_alloc_new _ _)⟩), (fun h => absurd h (by decide)), fun x hx => by cases hx⟩
        simp only [Act.put, List.setIfInBounds_toArray, List.set_cons_succ, List.set_cons_zero, Nat.reduceAdd]
        refine spec_cons (fun W hC hd => ⟨by rfl, ?_⟩) ?_
        · have hn := (hd ⟨15, .data⟩ (by simp) rfl).1 rfl
          obtain ⟨g1, hg1, hg2, hg3⟩ := hn
          have hZ : (Tryd.prog.info? 78).map (·.size) = some X.size := by rw [HXs.out]; exact size_pair
          rcases hg3 with hg3 | hg3
          · exact gives_skip (W.setRow g1 X) (exec_store_row 78 (.tmp 10) (.tmp 42) rfl g1 X hg1 rfl 78 _ hg3 hZ (by rw [HXs.out]; rfl) HXo.out) ⟨below_setRow hC hg2 _, LeX.put hg3, (fun h => absurd h (by decide)), (fun _ => ⟨g1, hg1, setRow_heap _ _ _ _ _ _ hg3⟩), fun x hx => by cases hx⟩
          · exact gives_skip (W.setRow g1 X) (exec_store_row 78 (.tmp 10) (.tmp 42) rfl g1 X hg1 rfl 78 _ hg3 hZ rfl HXo.out) ⟨below_setRow hC hg2 _, LeX.put2 hg3, (fun h => absurd h (by decide)), (fun _ => ⟨g1, hg1, setRow_heap _ _ _ _ _ _ hg3⟩), fun x hx => by cases hx⟩
        simp only [Act.put, Nat.reduceAdd]
        exact spec_nil
      intro u W hu hC hΦ
      have h0 : u 0 = .slice (some ⟨g, o, none⟩) N cap := hu 0 _ rfl
      have h1 : u 1 = .int .i64 (i : Int) := hu 1 _ rfl
      have h2 : u 2 = .pointer (some ⟨g, o + i, none⟩) := hu 2 _ rfl
      have h3 : u 3 = .int .i64 x := hu 3 _ rfl
      have h4 : u 4 = .slice (some ⟨g, o, none⟩) N cap := hu 4 _ rfl
      have h5 : u 5 = .int .i64 (i : Int) := hu 5 _ rfl
      have h6 : u 6 = .int .i64 ((i + 1 : Nat) : Int) := hu 6 _ rfl
      have h7 : u 7 = .pointer (some ⟨g, o + (i + 1), none⟩) := hu 7 _ rfl
      have h8 : u 8 = .int .i64 y := hu 8 _ rfl
      have h9 : u 9 = .agg #[.int .i64 x, .int .i64 y] := hu 9 _ rfl
      have h10 : u 10 = .agg (pairC p) := hu 10 _ rfl
      have h11 : u 11 = .tuple #[.agg X, .int .i64 e] := hu 11 _ rfl
      have h12 : u 12 = .tuple #[.agg X, .int .i64 e] := hu 12 _ rfl
      have h13 : u 13 = .agg X := hu 13 _ rfl
      have h14 : u 14 = .int .i64 e := hu 14 _ rfl
      obtain ⟨g1, h16, hg2⟩ := (hΦ 16 (by omega)).2.1 rfl
      obtain ⟨g2, h15, hg1, _⟩ := (hΦ 15 (by omega)).1 rfl
      have hgg : g2 = g1 := by rw [h16] at h15; cases h15; rfl
      subst hgg
      simp only [List.take_succ_cons, List.take_zero, List.drop_succ_cons, List.drop_zero, putAll, Act.put, List.setIfInBounds_toArray, List.set_cons_succ, List.set_cons_zero, Nat.reduceAdd]
      rw [h0, h1, h2, h3, h4, h5, h6, h7, h8, h9, h10, h11, h12, h13, h14, h16]
      clear hu hΦ h0 h1 h2 h3 h4 h5 h6 h7 h8 h9 h10 h11 h12 h13 h14 h15 h16
      have HC := Lib.hid hC
      have HG2 := Lib.hid hg2
      have HG1 := Lib.hid hg1
      clear hC hg2 hg1
      rcases HXd.out with ⟨rfl, q, hq, rfl⟩ | ⟨rfl, hnn, rfl⟩
      · have HQ : Hid (rotP l n k = some q) := Lib.hid (by rw [HRp.out]; exact hq)
        clear hq
        have HL0 : Hid (W.cell? ⟨g2, 0, none⟩ = some (.int .i64 q.1)) := Lib.hid (by rw [cell_of_row _ _ _ _ _ _ HG2.out]; rfl)
        have HL1 : Hid (W.cell? ⟨g2, 1, none⟩ = some (.int .i64 q.2)) := Lib.hid (by rw [cell_of_row _ _ _ _ _ _ HG2.out]; rfl)
        have HOw : Hid (W.ownsRow w.heap.size 3 1 (.slice sv i cv) i ((rotL l n k).map (Value.int .i64))) := Lib.hid (by rw [← HI0.out]; exact owns_below HOwn.out HC.out)
        have HBw : Hid (Below w.heap.size w W) := Lib.hid (HB0.out.trans (HC.out.mono HB0.out.size))
        have hsz := HBw.out.size
        go_wp2_with (first
          | (refine wpList_valH rfl _ (exec_load_num (.tmp 48) rfl g2 0 q.1 rfl HL0.out) ?_)
          | (refine wpList_valH rfl _ (exec_load_num (.tmp 50) rfl g2 1 q.2 rfl HL1.out) ?_)
          | (refine wpList_push2 rfl (.tmp 47) (.tmp 52) rfl w.heap.size (.slice sv i cv) i (rotL l n k) q.1 q.2 rfl HOw.out rfl (by omega) hsz ?_; intro v2 w2 hown2 hb2; have HO2 := Lib.hid hown2; have HB3 := Lib.hid (HBw.out.trans hb2); clear hown2 hb2))
        go_roundw
        case rel => exact ⟨k + 1, by omega, by have := HI0.out; go_num, (fun j hj => by
          by_cases e : j = k
          · rw [e, HQ.out]; rfl
          · exact HOk.out j (by omega)), HB3.out, by rw [rotL_succ HQ.out, show 2 * (k + 1) = i + 2 by have := HI0.out; omega]; exact HO2.out⟩
        case measure => simp [intOf]; omega
      · have HQ : Hid (rotP l n k = none) := Lib.hid (by rw [HRp.out]; exact hnn)
        clear hnn
        have HBw : Hid (Below w.heap.size w W) := Lib.hid (HB0.out.trans (HC.out.mono HB0.out.size))
        have HNo : ¬ rotOk l n h := fun ho => by
          have h1 := ho k hlt
          rw [HQ.out] at h1
          cases h1
        have HX : Hid (rotE7 l n h = 17) := Lib.hid (by unfold rotE7; rw [if_neg HNo])
        have HY : Hid (rotV7 l n h = []) := Lib.hid (by unfold rotV7; rw [if_neg HNo])
        clear HNo
        go_wp2_with fail
        rw [HX.out, HY.out]
        go_ret2
        exact AnsE.no HBw.out
    · obtain rfl : k = h := by omega
      have hN2 : N = i := by have := HH.out; omega
      subst hN2
      have hdf : decide ((N : Int) + 1 < (N : Int)) = false := by simp; omega
      have HX : Hid (rotE7 l n k = 0) := Lib.hid (by unfold rotE7; rw [if_pos HOk.out])
      have HY : Hid (rotV7 l n k = rotL l n k) := Lib.hid (by unfold rotV7; rw [if_pos HOk.out])
      have hown := HS.out.own
      rw [HI0.out] at hown
      have HOw := Lib.hid hown
      have hbl := HS.out.below
      have HBl := Lib.hid hbl
      clear hown hbl
      go_wp2_with fail
      rw [HX.out, HY.out]
      go_ret2
      obtain ⟨sp2, cap2, e2, hl2, hnum⟩ := own_nums HOw.out
      cases e2
      exact ⟨sv, cv, by rw [hl2]; rfl, hnum, HBl.out⟩
end Go.Proofs.YtchjijifmjbgoaaDoor.Tn
