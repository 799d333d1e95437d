import Derived.Test.YtllaecliaojmjaaDoorBs
namespace Go.Proofs.YtllaecliaojmjaaDoor.Bp
set_option maxRecDepth 100000
open Go.ChangeShapes Go.WideShapes Go.ChangeAt Go.RowKit Go.Proofs.YtllaecliaojmjaaDoor.Tn

/-! ### the document's Encode: tools -/
theorem run_loadVar1 {P : Program} {W : World} (ty : TypeId) (p : Addr) (v : Value) (hc : W.cell? p = some v) (d : TypeDesc) (hu : P.underlying ty = some d) (hd : (match d with | .struct _ | .array _ _ => false | _ => true) = true) : (loadVar ty p).run P W = .ok v W := by
  have hag : (isAgg ty).run P W = .ok false W := by
    simp only [isAgg, Sem.run_bind, run_underlying hu, Result.andThen_ok]
    cases d <;> simp_all
  simp [loadVar, hag, go_sem, hc]
theorem exec_load1 {P : Program} {a : Act} {o : Oper} {W : World} (ty : TypeId) (x : Operand) (ho : o.op = .load ty x) (p : Addr) (hx : a.eval x = .pointer (some p)) (v : Value) (hc : W.cell? p = some v) (d : TypeDesc) (hu : P.underlying ty = some d)
    (hd : (match d with | .struct _ | .array _ _ => false | _ => true) = true) : (execOp a.eval o).run P W = .ok (.value v) W := by
  unfold execOp
  simp only [ho, hx, Instr.loadAt, Instr.sureAddr, Sem.run_bind, Sem.run_pure, Result.andThen_ok, run_loadVar1 ty p v hc d hu hd]
theorem exec_at1 {P : Program} {a : Act} {o : Oper} {W : World} (t e : TypeId) (ht : P.underlying t = some (.slice e)) (hs : (P.info? e).map (·.size) = some 1) (x y : Operand) (ho : o.op = .indexAddr t x y) (c k n cap i : Nat) (hx : a.eval x = .slice (some ⟨c, k, none⟩) n cap) (hy : a.eval y = .int .i64 (i : Int)) (hi : i < n) : (execOp a.eval o).run P W = .ok (.value (.pointer (some ⟨c, k + i, none⟩))) W := by
  have hadd := Tn.add_plain c k i
  cases hq : P.info? e with
  | none => simp [hq] at hs
  | some j =>
    have hj : j.size = 1 := by simpa [hq] using hs
    unfold execOp
    simp [ho, hx, hy, Instr.indexAt, asIntOf, run_underlying ht, sizeOf, typeInfo, hq, hj, hi, hadd]
theorem run_fld0 {W : World} (g : Nat) : (Instr.fieldAt 36 (.pointer (some ⟨g, 0, none⟩)) 0).run Tryd.prog W = .ok (.pointer (some ⟨g, 0, none⟩)) W := by kernel_rfl
theorem exec_fld0 {a : Act} {o : Oper} {W : World} (x : Operand) (ho : o.op = .fieldAddr 36 x 0) (g : Nat) (hx : a.eval x = .pointer (some ⟨g, 0, none⟩)) : (execOp a.eval o).run Tryd.prog W = .ok (.value (.pointer (some ⟨g, 0, none⟩))) W := by
  unfold execOp
  simp only [ho, hx, Sem.run_bind, run_fld0, Result.andThen_ok, Sem.run_pure]
theorem info5 : (Tryd.prog.info? 5).map (fun i => (i.zero, i.size, i.bytes)) = some (some (.int .u8 0), 1, 1) := by kernel_rfl
theorem exec_byte1 {a : Act} {o : Oper} {W : World} (x : Operand) (ho : o.op = .buildSlice 22 1 #[(0, x)]) (c : Int) (hx : a.eval x = .int .u8 c) : (execOp a.eval o).run Tryd.prog W = .ok (.value (.slice (some ⟨W.heap.size, 0, none⟩) 1 1)) (W.alloc (.cells #[.int .u8 c] 5)) := by
  obtain ⟨i0, hi, hz0, hz1, hz2⟩ := info_parts info5
  unfold execOp
  have hr := run_buildSlice (P := Tryd.prog) W 22 5 1 #[(0, .int .u8 c)] #[.int .u8 c] i0 _ Tryd.underlying22 hi hz0 (by rw [hz1]; decide) (by rw [hz1]; decide) (by rw [hz1]; kernel_rfl)
  have e : (#[((0 : Nat), x)].map fun (i, x) => (i, a.eval x)) = #[(0, .int .u8 c)] := by simp [hx]
  simp only [ho, e, Sem.run_bind, hr, Result.andThen_ok, Sem.run_pure]
theorem exec_str1 {a : Act} {o : Oper} {W : World} (x : Operand) (ho : o.op = .convert 22 9 x) (b : Nat) (c : Int) (hx : a.eval x = .slice (some ⟨b, 0, none⟩) 1 1) (hc : W.cell? ⟨b, 0, none⟩ = some (.int .u8 c)) : (execOp a.eval o).run Tryd.prog W = .ok (.value (strV [c])) W := by
  have h := run_convert_bytes_arg (P := Tryd.prog) W 22 5 Tryd.underlying22 Tryd.underlying5 b 0 1 1 [c] rfl (fun i hi => by
    obtain rfl : i = 0 := by omega
    exact hc) 9 Tryd.underlying9
  unfold execOp
  simp only [ho, hx, Sem.run_bind, h, Result.andThen_ok, Sem.run_pure]
  rfl
theorem getD_mem {l : List Int} {i : Nat} (h : i < l.length) : l.getD i 0 ∈ l := by
  rw [List.getD_eq_getElem?_getD, List.getElem?_eq_getElem h]
  exact List.getElem_mem h
theorem eqs_yes (Y : ByteArray) : (Y.toList == Y.toList) = true := by simp
theorem eqs_no {a b : Int} (ha : 0 ≤ a ∧ a < 256) (hb : 0 ≤ b ∧ b < 256) (h : a ≠ b) : ((strOfNums [a]).toList == (strOfNums [b]).toList) = false := by
  rw [beq_eq_false_iff_ne]
  intro e
  apply h
  apply str_inj ha hb
  rw [ByteArray.toList_eq, ByteArray.toList_eq] at e
  exact ByteArray.ext (Array.ext' e)
/-- a byte in a slice of its own -/
def OneB (x : Int) (W : World) (v : Value) : Prop := ∃ b, v = .slice (some ⟨b, 0, none⟩) 1 1 ∧ W.cell? ⟨b, 0, none⟩ = some (.int .u8 x)
theorem OneB.later {x : Int} {W W' : World} {v : Value} (h : OneB x W v) (hb : Below W.heap.size W W') : OneB x W' v := by
  obtain ⟨b, e, hc⟩ := h
  exact ⟨b, e, (hb.cell (block_lt_of_cell hc)).trans hc⟩
theorem OneB.made (x : Int) (W : World) : OneB x (W.alloc (.cells #[.int .u8 x] 5)) (.slice (some ⟨W.heap.size, 0, none⟩) 1 1) := ⟨_, rfl, by rw [cell_of_row _ _ _ _ _ _ (heap_alloc_new _ _)]; rfl⟩
/-- what Encode answers -/
def EncA (w : World) (r : List Int × Nat × Int) (e : Ending) (w' : World) : Prop := ∃ sp cap, e = .returned (.tuple #[.slice sp r.1.length cap, .int .i64 (r.2.1 : Int), .int .i64 r.2.2]) ∧ Nums w' sp cap r.1 ∧ Below w.heap.size w w'
/-- the token of a byte as far as the alphabet is gone through -/
def tokN (al : List Int) (x : Int) (k : Nat) : Int := if al.idxOf x < k then (al.idxOf x : Int) else -1
theorem tokN_zero (al : List Int) (x : Int) : tokN al x 0 = -1 := by unfold tokN; rw [if_neg (by omega)]
theorem tokN_yes {al : List Int} (hn : al.Nodup) {k : Nat} (hk : k < al.length) {x : Int} (h : al.getD k 0 = x) : tokN al x (k + 1) = k := by
  have := idx_yes hn hk h
  unfold tokN
  rw [if_pos (by omega), this]
theorem tokN_no {al : List Int} {k : Nat} (hk : k < al.length) {x : Int} (h : al.getD k 0 ≠ x) : tokN al x (k + 1) = tokN al x k := by
  have := idx_no hk h
  unfold tokN
  by_cases h1 : al.idxOf x < k
  · rw [if_pos h1, if_pos (by omega)]
  · rw [if_neg h1, if_neg (by omega)]
theorem tokN_end {al : List Int} {x : Int} : tokN al x al.length = if x ∈ al then (al.idxOf x : Int) else -1 := by
  unfold tokN
  simp only [List.idxOf_lt_length_iff]
/-- the texts of the alphabet's bytes -/
theorem one_at {al : List Int} {V : List (List Int)} {k : Nat} (hk : k < al.length) : (one al ++ V).getD k [] = [al.getD k 0] := by
  rw [List.getD_eq_getElem?_getD, List.getElem?_append_left (by simpa [one] using hk)]
  simp [one, hk]
/-- while the tokens of bytes come up: i are gone through -/
structure Fi (w : World) (al b : List Int) (i : Nat) (v : Value) (W : World) : Prop where
  own : W.ownsRow (w.heap.size + 1) 3 1 v i ((firsts al (b.take i)).map (Value.int .i64))
  all : ∀ x ∈ b.take i, x ∈ al
theorem Fi.nil (w W : World) (al b : List Int) : Fi w al b 0 (.slice none 0 0) W := ⟨World.ownsRow_nil _ _ _ _, fun x hx => by simp at hx⟩
theorem take_at {b : List Int} {i : Nat} (h : i < b.length) : b.take (i + 1) = b.take i ++ [b.getD i 0] := by
  rw [List.take_succ_eq_append_getElem h]
  simp [h]
theorem Fi.push {w W W' : World} {al b : List Int} {i : Nat} {v v' : Value} {z : Int} (h : Fi w al b i v W) (hi : i < b.length) (hx : b.getD i 0 ∈ al) (hz : z = (al.idxOf (b.getD i 0) : Int)) (ho : W'.ownsRow (w.heap.size + 1) 3 1 v' (i + 1) ((firsts al (b.take i) ++ [z]).map (Value.int .i64))) : Fi w al b (i + 1) v' W' := by
  subst hz
  refine ⟨?_, fun x hx' => ?_⟩
  · rw [take_at hi]
    simpa [firsts] using ho
  · rw [take_at hi] at hx'
    rcases List.mem_append.1 hx' with h1 | h1
    · exact h.all x h1
    · obtain rfl : x = b.getD i 0 := by simpa using h1
      exact hx
def lenV : Value → Nat
  | .slice _ n _ => n
  | _ => 0
theorem badAt_at {al b : List Int} {i : Nat} (h : i < b.length) (h1 : ∀ x ∈ b.take i, x ∈ al) (h2 : b.getD i 0 ∉ al) : badAt al b = some i := by
  unfold badAt
  rw [List.findIdx?_eq_some_iff_getElem]
  refine ⟨h, by simpa [h] using h2, fun j hj => ?_⟩
  have := h1 b[j] (by rw [List.mem_iff_getElem]; exact ⟨j, by simp; omega, by simp⟩)
  simpa using this
theorem badAt_all {al b : List Int} (h : ∀ x ∈ b, x ∈ al) : badAt al b = none := by
  unfold badAt
  rw [List.findIdx?_eq_none_iff]
  exact fun x hx => by simpa using h x hx
theorem enc_step {ps : List (Int × Int)} {base : Int} {l : List Int} {k : Nat} (h : fst ps l = some k) : enc ps base l.length l = enc ps base (merg (ps.getD k (0, 0)) (base + k) l).length (merg (ps.getD k (0, 0)) (base + k) l) := by
  have h1 := merg_less (ps.getD k (0, 0)) (base + k) l (fst_some h).2.1
  obtain ⟨f, hf⟩ : ∃ f, l.length = f + 1 := ⟨l.length - 1, by omega⟩
  rw [hf, enc, h]
  exact enc_more ps base _ _ _ (Nat.le_refl _) (by omega)
theorem enc_stop {ps : List (Int × Int)} {base : Int} {l : List Int} (h : fst ps l = none) (f : Nat) : enc ps base f l = l := by
  rcases f with _ | f
  · rfl
  · rw [enc, h]
theorem fst_at {ps : List (Int × Int)} {l : List Int} {k : Nat} (hk : k < ps.length) (h1 : nbr (ps.getD k (0, 0)) l = true) (h2 : ∀ j, j < k → nbr (ps.getD j (0, 0)) l = false) : fst ps l = some k := by
  unfold fst
  rw [List.findIdx?_eq_some_iff_getElem]
  refine ⟨hk, by simpa [hk] using h1, fun j hj => ?_⟩
  have hj' : j < ps.length := by omega
  simpa [hj'] using h2 j hj
theorem fst_end {ps : List (Int × Int)} {l : List Int} (h : ∀ j, j < ps.length → nbr (ps.getD j (0, 0)) l = false) : fst ps l = none := by
  unfold fst
  rw [List.findIdx?_eq_none_iff]
  intro p hp
  obtain ⟨j, hj, rfl⟩ := List.mem_iff_getElem.1 hp
  simpa [hj] using h j hj
theorem Prs.at_ {w : World} {sp : Option Addr} {cap : Nat} {ps : List (Int × Int)} (h : Prs w sp cap ps) (k : Nat) (hk : k < ps.length) : ∃ c o, sp = some ⟨c, o, none⟩ ∧ w.rangeAt c (o + k * 2) [.int .i64 (ps.getD k (0, 0)).1, .int .i64 (ps.getD k (0, 0)).2] := by
  obtain ⟨c, o, e, hl⟩ := h.lies (by omega)
  exact ⟨c, o, e, hl k hk⟩
theorem size_pair : (Tryd.prog.info? 47).map (·.size) = some 2 := by kernel_rfl
theorem exec_load_pair {a : Act} {o : Oper} {W : World} (x : Operand) (ho : o.op = .load 47 x) (c k : Nat) (hx : a.eval x = .pointer (some ⟨c, k, none⟩)) (u v : Int) (hr : W.rangeAt c k [.int .i64 u, .int .i64 v]) : (execOp a.eval o).run Tryd.prog W = .ok (.value (.agg #[.int .i64 u, .int .i64 v])) W := by
  have h := run_loadVar_mid (P := Tryd.prog) W c k 47 [.int .i64 u, .int .i64 v] _ hr Tryd.underlying47 rfl (by simpa using size_pair)
  unfold execOp
  simp only [ho, hx, Instr.loadAt, Instr.sureAddr, Sem.run_bind, Sem.run_pure, Result.andThen_ok, h]
theorem exec_at2 {P : Program} {a : Act} {o : Oper} {W : World} (t e : TypeId) (ht : P.underlying t = some (.slice e)) (hs : (P.info? e).map (·.size) = some 2) (x y : Operand) (ho : o.op = .indexAddr t x y) (c k n cap i : Nat) (hx : a.eval x = .slice (some ⟨c, k, none⟩) n cap) (hy : a.eval y = .int .i64 (i : Int)) (hi : i < n) : (execOp a.eval o).run P W = .ok (.value (.pointer (some ⟨c, k + i * 2, none⟩))) W := by
  have hadd := Tn.add_plain c k (i * 2)
  cases hq : P.info? e with
  | none => simp [hq] at hs
  | some j =>
    have hj : j.size = 2 := by simpa [hq] using hs
    unfold execOp
    simp [ho, hx, hy, Instr.indexAt, asIntOf, run_underlying ht, sizeOf, typeInfo, hq, hj, hi, hadd]
theorem run_fld1 {W : World} (g : Nat) : (Instr.fieldAt 36 (.pointer (some ⟨g, 0, none⟩)) 1).run Tryd.prog W = .ok (.pointer (some ⟨g, 1, none⟩)) W := by kernel_rfl
theorem run_fld2 {W : World} (g : Nat) : (Instr.fieldAt 36 (.pointer (some ⟨g, 0, none⟩)) 2).run Tryd.prog W = .ok (.pointer (some ⟨g, 2, none⟩)) W := by kernel_rfl
theorem exec_fld1 {a : Act} {o : Oper} {W : World} (x : Operand) (ho : o.op = .fieldAddr 36 x 1) (g : Nat) (hx : a.eval x = .pointer (some ⟨g, 0, none⟩)) : (execOp a.eval o).run Tryd.prog W = .ok (.value (.pointer (some ⟨g, 1, none⟩))) W := by
  unfold execOp
  simp only [ho, hx, Sem.run_bind, run_fld1, Result.andThen_ok, Sem.run_pure]
theorem exec_fld2 {a : Act} {o : Oper} {W : World} (x : Operand) (ho : o.op = .fieldAddr 36 x 2) (g : Nat) (hx : a.eval x = .pointer (some ⟨g, 0, none⟩)) : (execOp a.eval o).run Tryd.prog W = .ok (.value (.pointer (some ⟨g, 2, none⟩))) W := by
  unfold execOp
  simp only [ho, hx, Sem.run_bind, run_fld2, Result.andThen_ok, Sem.run_pure]
theorem exec_add {a : Act} {o : Oper} {W : World} (x y : Operand) (ho : o.op = .binOp .add 3 x y 3) (u v z : Int) (hx : a.eval x = .int .i64 u) (hy : a.eval y = .int .i64 v) (h : IntKind.i64.wrap (u + v) = z) : (execOp a.eval o).run Tryd.prog W = .ok (.value (.int .i64 z)) W := by
  unfold execOp
  simp [ho, hx, hy, binOp, Op.intArith, h, eqGuard]
theorem exec_call3 {P : Program} {a : Act} {o : Oper} {W : World} (f : FuncId) (x y z : Operand) (ats : Array TypeId) (u v r : Value) (ho : o.op = .call { callee := .value (.func f), args := #[x, y, z], argTypes := ats }) (hx : a.eval x = u) (hy : a.eval y = v) (hz : a.eval z = r)
    (hf : (callFunc f #[u, v, r]).run P W = .ok (.enter f #[u, v, r]) W) : (execOp a.eval o).run P W = .ok (.enter f #[u, v, r]) W :=
  Tn.exec_call f #[x, y, z] ats #[u, v, r] ho (by simp [hx, hy, hz]) hf
/-- what the operations of the region that merges answer -/
def meX (B : Nat) (sp : Option Addr) (L cap c o P cq k n : Nat) (x y s : Int) : Nat → Option Value
  | 0 => some (.slice sp L cap)
  | 1 => some (.pointer (some ⟨B, 1, none⟩))
  | 2 => some (.slice (some ⟨c, o, none⟩) P cq)
  | 3 => some (.int .i64 (k : Int))
  | 4 => some (.pointer (some ⟨c, o + k * 2, none⟩))
  | 5 => some (.agg #[.int .i64 x, .int .i64 y])
  | 6 => some (.pointer (some ⟨B, 2, none⟩))
  | 7 => some (.int .i64 (n : Int))
  | 8 => some (.int .i64 (k : Int))
  | 9 => some (.int .i64 s)
  | _ => none
/-- what the drawn region's operations answer -/
def teX (B : Nat) (st : Option Addr) (M ct c o k : Nat) (bp : Option Addr) (N cb d p i : Nat) (y x : Int) : Nat → Option Value
  | 0 => some (.pointer (some ⟨B, 0, none⟩))
  | 1 => some (.slice st M ct)
  | 2 => some (.int .i64 (k : Int))
  | 3 => some (.pointer (some ⟨c, o + k, none⟩))
  | 4 => some (strV [y])
  | 5 => some (.slice bp N cb)
  | 6 => some (.int .i64 (i : Int))
  | 7 => some (.pointer (some ⟨d, p + i, none⟩))
  | 8 => some (.int .u8 x)
  | 10 => some (strV [x])
  | _ => none
end Go.Proofs.YtllaecliaojmjaaDoor.Bp
