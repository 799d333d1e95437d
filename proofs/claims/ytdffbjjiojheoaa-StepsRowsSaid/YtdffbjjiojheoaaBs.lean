import Derived.Test.YtdffbjjiojheoaaBt
import Derived.Laws.BytesArg
import Derived.Great.BuildSlice
import Derived.Deep.MidRow
import Derived.Laws.StructEq
import Derived.ChangeMaps5
-- from Bn
namespace Go.Proofs.Ytdffbjjiojheoaa.Bp
set_option maxRecDepth 100000
open Go.ChangeShapes Go.WideShapes Go.ChangeAt Go.RowKit Go.Proofs.Ytdffbjjiojheoaa.Tn
theorem gen_w {Q : World → Prop} (w2 : World) (P : World → Prop) (h : P w2) (k : ∀ w, P w → Q w) : Q w2 := k w2 h
theorem Nums.cell {w : World} {c o : Nat} {cap : Nat} {l : List Int} (h : Nums w (some ⟨c, o, none⟩) cap l) (k : Nat) (hk : k < l.length) : w.cell? ⟨c, o + k, none⟩ = some (.int .i64 (l.getD k 0)) := by
  obtain ⟨c', o', e, hc⟩ := h.at_ k hk
  cases e
  exact hc
end Go.Proofs.Ytdffbjjiojheoaa.Bp
-- from Bm
namespace Go.Proofs.Ytdffbjjiojheoaa.Bp
set_option maxRecDepth 100000
open Go.ChangeShapes Go.WideShapes Go.ChangeAt Go.RowKit Go.Proofs.Ytdffbjjiojheoaa.Tn
end Go.Proofs.Ytdffbjjiojheoaa.Bp
-- from Bs
namespace Go.Proofs.Ytdffbjjiojheoaa.Bp
set_option maxRecDepth 100000
open Go.ChangeShapes Go.WideShapes Go.ChangeAt Go.RowKit Go.Proofs.Ytdffbjjiojheoaa.Tn
/-! ### texts, pairs and bytes in memory -/
def strV (t : List Int) : Value := .string (strOfNums t)
/-- a slice that reads as texts -/
def Strs (w : World) (sp : Option Addr) (cap : Nat) (T : List (List Int)) : Prop := Sl w sp cap (T.map strV)
/-- a slice that reads as bytes -/
structure Byts (w : World) (sp : Option Addr) (cap : Nat) (b : List Int) : Prop where
  sl : Sl w sp cap (b.map (Value.int .u8))
  rng : ∀ x ∈ b, 0 ≤ x ∧ x < 256
/-- a slice that reads as pairs (two cells each) -/
structure Prs (w : World) (sp : Option Addr) (cap : Nat) (ps : List (Int × Int)) : Prop where
  le : ps.length ≤ cap
  max : cap ≤ maxLen
  nul : sp = none → cap = 0
  lies : 0 < ps.length → ∃ c o, sp = some ⟨c, o, none⟩ ∧ ∀ k, k < ps.length → w.rangeAt c (o + k * 2) [.int .i64 (ps.getD k (0, 0)).1, .int .i64 (ps.getD k (0, 0)).2]
section
variable {w w' : World} {sp : Option Addr} {cap : Nat}
theorem Strs.below {T : List (List Int)} (h : Strs w sp cap T) (hb : Below w.heap.size w w') : Strs w' sp cap T := Sl.below h (Nat.le_refl _) hb
theorem Byts.below {b : List Int} (h : Byts w sp cap b) (hb : Below w.heap.size w w') : Byts w' sp cap b := ⟨Sl.below h.sl (Nat.le_refl _) hb, h.rng⟩
theorem Prs.below {ps : List (Int × Int)} (h : Prs w sp cap ps) (hb : Below w.heap.size w w') : Prs w' sp cap ps :=
  ⟨h.le, h.max, h.nul, fun h0 => by
    obtain ⟨c, o, e, hl⟩ := h.lies h0
    exact ⟨c, o, e, fun k hk j v hv => (hb.cell (block_lt_of_cell (hl k hk j v hv))).trans (hl k hk j v hv)⟩⟩
theorem Strs.at_ {T : List (List Int)} (h : Strs w sp cap T) (k : Nat) (hk : k < T.length) : ∃ c o, sp = some ⟨c, o, none⟩ ∧ w.cell? ⟨c, o + k, none⟩ = some (strV (T.getD k [])) := by
  obtain ⟨c, o, rfl, hl⟩ := h.lies (by simp; omega)
  exact ⟨c, o, rfl, hl k _ (by simp [hk])⟩
theorem Byts.at_ {b : List Int} (h : Byts w sp cap b) (k : Nat) (hk : k < b.length) : ∃ c o, sp = some ⟨c, o, none⟩ ∧ w.cell? ⟨c, o + k, none⟩ = some (.int .u8 (b.getD k 0)) := by
  obtain ⟨c, o, rfl, hl⟩ := h.sl.lies (by simp; omega)
  exact ⟨c, o, rfl, hl k _ (by simp [hk])⟩
end
theorem idx_yes {al : List Int} (hn : al.Nodup) {k : Nat} (hk : k < al.length) {x : Int} (h : al.getD k 0 = x) : al.idxOf x = k := by
  have e : al[k] = x := by simpa [hk] using h
  rw [← e]
  exact hn.idxOf_getElem k hk
section
variable {w W W' : World} {st sq : Option Addr} {nt ct nq cq n : Nat}
end
end Go.Proofs.Ytdffbjjiojheoaa.Bp
-- from Be
namespace Go.Proofs.Ytdffbjjiojheoaa.Bp
set_option maxRecDepth 100000
open Go.ChangeShapes Go.WideShapes Go.ChangeAt Go.RowKit Go.Proofs.Ytdffbjjiojheoaa.Tn
/-! ### the document's Encode: tools -/
theorem run_loadVar1 {P : Program} {W : World} (ty : TypeId) (p : Addr) (v : Value) (hc : W.cell? p = some v) (d : TypeDesc) (hu : P.underlying ty = some d) (hd : (match d with | .struct _ | .array _ _ => false | _ => true) = true) : (loadVar ty p).run P W = .ok v W := by
  have hag : (isAgg ty).run P W = .ok false W := by
    simp only [isAgg, Sem.run_bind, run_underlying hu, Result.andThen_ok]
    cases d <;> simp_all
  simp [loadVar, hag, go_sem, hc]
theorem exec_load1 {P : Program} {a : Act} {o : Oper} {W : World} (ty : TypeId) (x : Operand) (ho : o.op = .load ty x) (p : Addr) (hx : a.eval x = .pointer (some p)) (v : Value) (hc : W.cell? p = some v) (d : TypeDesc) (hu : P.underlying ty = some d)
    (hd : (match d with | .struct _ | .array _ _ => false | _ => true) = true) : (execOp a.eval o).run P W = .ok (.value v) W := by
  unfold execOp
  simp only [ho, hx, Instr.loadAt, Instr.sureAddr, Sem.run_bind, Sem.run_pure, Result.andThen_ok, run_loadVar1 ty p v hc d hu hd]
theorem exec_at1 {P : Program} {a : Act} {o : Oper} {W : World} (t e : TypeId) (ht : P.underlying t = some (.slice e)) (hs : (P.info? e).map (·.size) = some 1) (x y : Operand) (ho : o.op = .indexAddr t x y) (c k n cap i : Nat) (hx : a.eval x = .slice (some ⟨c, k, none⟩) n cap) (hy : a.eval y = .int .i64 (i : Int)) (hi : i < n) : (execOp a.eval o).run P W = .ok (.value (.pointer (some ⟨c, k + i, none⟩))) W := by
  have hadd := Tn.add_plain c k i
  cases hq : P.info? e with
  | none => simp [hq] at hs
  | some j =>
    have hj : j.size = 1 := by simpa [hq] using hs
    unfold execOp
    simp [ho, hx, hy, Instr.indexAt, asIntOf, run_underlying ht, sizeOf, typeInfo, hq, hj, hi, hadd]
theorem info5 : (Try.prog.info? 5).map (fun i => (i.zero, i.size, i.bytes)) = some (some (.int .u8 0), 1, 1) := by kernel_rfl
theorem exec_byte1 {a : Act} {o : Oper} {W : World} (x : Operand) (ho : o.op = .buildSlice 32 1 #[(0, x)]) (c : Int) (hx : a.eval x = .int .u8 c) : (execOp a.eval o).run Try.prog W = .ok (.value (.slice (some ⟨W.heap.size, 0, none⟩) 1 1)) (W.alloc (.cells #[.int .u8 c] 5)) := by
  obtain ⟨i0, hi, hz0, hz1, hz2⟩ := info_parts info5
  unfold execOp
  have hr := run_buildSlice (P := Try.prog) W 32 5 1 #[(0, .int .u8 c)] #[.int .u8 c] i0 _ Try.underlying32 hi hz0 (by rw [hz1]; decide) (by rw [hz1]; decide) (by rw [hz1]; kernel_rfl)
  have e : (#[((0 : Nat), x)].map fun (i, x) => (i, a.eval x)) = #[(0, .int .u8 c)] := by simp [hx]
  simp only [ho, e, Sem.run_bind, hr, Result.andThen_ok, Sem.run_pure]
theorem exec_str1 {a : Act} {o : Oper} {W : World} (x : Operand) (ho : o.op = .convert 32 9 x) (b : Nat) (c : Int) (hx : a.eval x = .slice (some ⟨b, 0, none⟩) 1 1) (hc : W.cell? ⟨b, 0, none⟩ = some (.int .u8 c)) : (execOp a.eval o).run Try.prog W = .ok (.value (strV [c])) W := by
  have h := run_convert_bytes_arg (P := Try.prog) W 32 5 Try.underlying32 Try.underlying5 b 0 1 1 [c] rfl (fun i hi => by
    obtain rfl : i = 0 := by omega
    exact hc) 9 Try.underlying9
  unfold execOp
  simp only [ho, hx, Sem.run_bind, h, Result.andThen_ok, Sem.run_pure]
  rfl
theorem getD_mem {l : List Int} {i : Nat} (h : i < l.length) : l.getD i 0 ∈ l := by
  rw [List.getD_eq_getElem?_getD, List.getElem?_eq_getElem h]
  exact List.getElem_mem h
/-- a byte in a slice of its own -/
def OneB (x : Int) (W : World) (v : Value) : Prop := ∃ b, v = .slice (some ⟨b, 0, none⟩) 1 1 ∧ W.cell? ⟨b, 0, none⟩ = some (.int .u8 x)
theorem OneB.later {x : Int} {W W' : World} {v : Value} (h : OneB x W v) (hb : Below W.heap.size W W') : OneB x W' v := by
  obtain ⟨b, e, hc⟩ := h
  exact ⟨b, e, (hb.cell (block_lt_of_cell hc)).trans hc⟩
theorem OneB.made (x : Int) (W : World) : OneB x (W.alloc (.cells #[.int .u8 x] 5)) (.slice (some ⟨W.heap.size, 0, none⟩) 1 1) := ⟨_, rfl, by rw [cell_of_row _ _ _ _ _ _ (heap_alloc_new _ _)]; rfl⟩
/-- while the tokens of bytes come up: i are gone through -/
structure Fi (w : World) (al b : List Int) (i : Nat) (v : Value) (W : World) : Prop where
  own : W.ownsRow (w.heap.size + 1) 3 1 v i ((firsts al (b.take i)).map (Value.int .i64))
  all : ∀ x ∈ b.take i, x ∈ al
theorem take_at {b : List Int} {i : Nat} (h : i < b.length) : b.take (i + 1) = b.take i ++ [b.getD i 0] := by
  rw [List.take_succ_eq_append_getElem h]
  simp [h]
theorem Fi.push {w W W' : World} {al b : List Int} {i : Nat} {v v' : Value} {z : Int} (h : Fi w al b i v W) (hi : i < b.length) (hx : b.getD i 0 ∈ al) (hz : z = (al.idxOf (b.getD i 0) : Int)) (ho : W'.ownsRow (w.heap.size + 1) 3 1 v' (i + 1) ((firsts al (b.take i) ++ [z]).map (Value.int .i64))) : Fi w al b (i + 1) v' W' := by
  subst hz
  refine ⟨?_, fun x hx' => ?_⟩
  · rw [take_at hi]
    simpa [firsts] using ho
  · rw [take_at hi] at hx'
    rcases List.mem_append.1 hx' with h1 | h1
    · exact h.all x h1
    · obtain rfl : x = b.getD i 0 := by simpa using h1
      exact hx
theorem Prs.at_ {w : World} {sp : Option Addr} {cap : Nat} {ps : List (Int × Int)} (h : Prs w sp cap ps) (k : Nat) (hk : k < ps.length) : ∃ c o, sp = some ⟨c, o, none⟩ ∧ w.rangeAt c (o + k * 2) [.int .i64 (ps.getD k (0, 0)).1, .int .i64 (ps.getD k (0, 0)).2] := by
  obtain ⟨c, o, e, hl⟩ := h.lies (by omega)
  exact ⟨c, o, e, hl k hk⟩
end Go.Proofs.Ytdffbjjiojheoaa.Bp
-- from Bf
namespace Go.Proofs.Ytdffbjjiojheoaa.Bp
set_option maxRecDepth 100000
open Go.ChangeShapes Go.WideShapes Go.ChangeAt Go.RowKit Go.Proofs.Ytdffbjjiojheoaa.Tn
end Go.Proofs.Ytdffbjjiojheoaa.Bp
-- from Bg
namespace Go.Proofs.Ytdffbjjiojheoaa.Bp
set_option maxRecDepth 100000
open Go.ChangeShapes Go.WideShapes Go.ChangeAt Go.RowKit Go.Proofs.Ytdffbjjiojheoaa.Tn
theorem info9 : (Try.prog.info? 9).map (fun i => (i.zero, i.size, i.bytes)) = some (some (.string ByteArray.empty), 1, 16) := by kernel_rfl
section
variable {w W W' : World} {n : Nat} {T : List (List Int)} {seen : List (Int × Int)} {sv qv sv' qv' : Value}
theorem grown_of (hb : Below W.heap.size W W') (row : Option Nat) : W.grownBy W' row := ⟨hb.os, hb.tape, hb.output, hb.size, fun k hk _ => hb.block k hk⟩
/-- the block of an owned row stands behind base, and tells its type -/
theorem own_block {base e size n : Nat} {v : Value} {xs : List Value} (h : W.ownsRow base e size v n xs) {k : Nat} (hk : v.ownBlock = some k) : base ≤ k ∧ ∃ cur, W.heap[k]? = some (.cells cur e (0, 0)) := by
  rcases h.2 with ⟨rfl, _⟩ | ⟨g, cap, cur, rfl, hb, hg, _⟩
  · cases hk
  · obtain rfl : g = k := by simpa [Value.ownBlock] using hk
    exact ⟨hb, cur, hg⟩
theorem grown_trans {W1 W2 W3 : World} {row : Option Nat} (h1 : W1.grownBy W2 row) (h2 : W2.grownBy W3 row) : W1.grownBy W3 row :=
  ⟨h2.os.trans h1.os, h2.tape.trans h1.tape, h2.output.trans h1.output, Nat.le_trans h1.size h2.size, fun k hk hne => (h2.block k (by have := h1.size; omega) hne).trans (h1.block k hk hne)⟩
/-- a value in a slice of its own, behind lo -/
def OneV (lo : Nat) (x : Value) (W : World) (v : Value) : Prop := ∃ b, v = .slice (some ⟨b, 0, none⟩) 1 1 ∧ lo ≤ b ∧ W.cell? ⟨b, 0, none⟩ = some x
theorem OneV.later {lo : Nat} {x v : Value} {W W' : World} (h : OneV lo x W v) (hb : Below W.heap.size W W') : OneV lo x W' v := by
  obtain ⟨b, e, hl, hc⟩ := h
  exact ⟨b, e, hl, (hb.cell (block_lt_of_cell hc)).trans hc⟩
theorem cell_grown {W W' : World} {row : Option Nat} (hg : W.grownBy W' row) {b o : Nat} {x : Value} (hc : W.cell? ⟨b, o, none⟩ = some x) (hne : ∀ k, row = some k → b ≠ k) : W'.cell? ⟨b, o, none⟩ = some x := by
  have hb : W'.heap[b]? = W.heap[b]? := hg.block b (block_lt_of_cell hc) (fun e => hne b e.symm rfl)
  unfold World.cell? at hc ⊢
  simp only [hb] at hc ⊢
  exact hc
theorem OneV.grown {lo : Nat} {x v : Value} {W W' : World} {row : Option Nat} (h : OneV lo x W v) (hg : W.grownBy W' row) (hr : ∀ k, row = some k → k < lo) : OneV lo x W' v := by
  obtain ⟨b, e, hl, hc⟩ := h
  exact ⟨b, e, hl, cell_grown hg hc (fun k hk => by have := hr k hk; omega)⟩
theorem OneV.made {lo : Nat} (x : Value) (W : World) (t : TypeId) (hl : lo ≤ W.heap.size) : OneV lo x (W.alloc (.cells #[x] t)) (.slice (some ⟨W.heap.size, 0, none⟩) 1 1) := ⟨_, rfl, hl, by rw [cell_of_row _ _ _ _ _ _ (heap_alloc_new _ _)]; rfl⟩
theorem exec_slstr {a : Act} {o : Oper} {W : World} (x : Operand) (ho : o.op = .buildSlice 145 1 #[(0, x)]) (t : List Int) (hx : a.eval x = strV t) : (execOp a.eval o).run Try.prog W = .ok (.value (.slice (some ⟨W.heap.size, 0, none⟩) 1 1)) (W.alloc (.cells #[strV t] 9)) := by
  obtain ⟨i0, hi, hz0, hz1, hz2⟩ := info_parts info9
  unfold execOp
  have hr := run_buildSlice (P := Try.prog) W 145 9 1 #[(0, strV t)] #[strV t] i0 _ Try.underlying145 hi hz0 (by rw [hz1]; decide) (by rw [hz1]; decide) (by rw [hz1]; unfold strV; kernel_rfl)
  have e : (#[((0 : Nat), x)].map fun (i, x) => (i, a.eval x)) = #[(0, strV t)] := by simp [hx]
  simp only [ho, e, Sem.run_bind, hr, Result.andThen_ok, Sem.run_pure]
theorem exec_append_str {a : Act} {o : Oper} {W : World} (s x : Operand) (ho : o.op = .call { callee := .builtin .append, args := #[s, x], argTypes := #[145, 145] }) (base : Nat) (v : Value) (n : Nat) (T : List (List Int)) (t : List Int) (hs : a.eval s = v) (hown : W.ownsRow base 9 1 v n (T.map strV)) (b : Nat)
    (hx : a.eval x = .slice (some ⟨b, 0, none⟩) 1 1) (hc : W.cell? ⟨b, 0, none⟩ = some (strV t)) (hn : n ≤ 999999) (hbase : base ≤ W.heap.size) :
    ∃ v' W', (execOp a.eval o).run Try.prog W = .ok (.value v') W' ∧ W'.ownsRow base 9 1 v' (n + 1) ((T ++ [t]).map strV) ∧ W.grownBy W' v.ownBlock := by
  obtain ⟨i0, hi, hz0, hz1, hz2⟩ := info_parts info9
  obtain ⟨v', w', hrun, hown', hg, _⟩ := run_append_own (P := Try.prog) W base 145 o.type 9 i0 (.string ByteArray.empty) 1 16 Try.underlying145 hi hz0 hz1 hz2 rfl (by decide) v n _ hown ⟨b, 0, none⟩ 1 1 [strV t] rfl (fun j u hj => by
      rcases j with _ | j
      · obtain rfl : strV t = u := by simpa using hj
        rw [Tn.add_plain]
        exact hc
      · simp at hj) (fun u hu => by simp at hu; subst hu; rfl)
      (by unfold maxLen; omega) (by omega) hbase
  refine ⟨v', w', ?_, by rw [List.map_append]; exact hown', hg⟩
  simp [execOp, ho, resolve, invoke, builtin, hs, hx, hrun, Result.andThen]
theorem gives_append_str {a : Act} {o : Oper} {W : World} {G : Value → World → Prop} (s x : Operand) (ho : o.op = .call { callee := .builtin .append, args := #[s, x], argTypes := #[145, 145] }) (base : Nat) (v : Value) (n : Nat) (T : List (List Int)) (t : List Int) (hs : a.eval s = v) (hown : W.ownsRow base 9 1 v n (T.map strV)) (b : Nat)
    (hx : a.eval x = .slice (some ⟨b, 0, none⟩) 1 1) (hc : W.cell? ⟨b, 0, none⟩ = some (strV t)) (hn : n ≤ 999999) (hbase : base ≤ W.heap.size) (h : ∀ v' W', W'.ownsRow base 9 1 v' (n + 1) ((T ++ [t]).map strV) → W.grownBy W' v.ownBlock → G v' W') : Gives Try.prog o a W G := by
  obtain ⟨v', W', hrun, h1, h2⟩ := exec_append_str s x ho base v n T t hs hown b hx hc hn hbase
  exact Tn.gives_val v' W' hrun (h v' W' h1 h2)
/-- what the operations of the region that appends a byte's text may change: the ninth grows the row -/
def Le12 (row : Option Nat) (k : Nat) (w w' : World) : Prop := (k = 9 → w.grownBy w' row) ∧ (k ≠ 9 → Below w.heap.size w w')
theorem le_b {row : Option Nat} {k : Nat} {W1 W2 : World} (hk : k ≠ 9) (hb : Below W1.heap.size W1 W2) : Le12 row k W1 W2 := ⟨fun h => absurd h hk, fun _ => hb⟩
theorem le_g {row : Option Nat} {W1 W2 : World} (hg : W1.grownBy W2 row) : Le12 row 9 W1 W2 := ⟨fun _ => hg, fun h => absurd rfl h⟩
def neP (base lo : Nat) (str byte : Value) (m : Nat) (xs : List Value) (vals : Nat → Option Value) (j : Nat) (W : World) (v : Value) : Prop :=
  (j = 6 → OneV lo byte W v) ∧ (j = 8 → OneV lo str W v) ∧ (j = 9 → W.ownsRow base 9 1 v m xs) ∧ ∀ z, vals j = some z → v = z
theorem neP_later {row : Option Nat} {base lo m j i : Nat} {str byte v : Value} {xs : List Value} {vals : Nat → Option Value} {W1 W2 : World} (hlo : ∀ k, row = some k → k < lo) (hne : j ≠ i) (hle : Le12 row i W1 W2) (h : neP base lo str byte m xs vals j W1 v) : neP base lo str byte m xs vals j W2 v := by
  have ho : ∀ x, OneV lo x W1 v → OneV lo x W2 v := fun x hx => by
    by_cases hi : i = 9
    · exact hx.grown (hle.1 hi) hlo
    · exact hx.later (hle.2 hi)
  exact ⟨fun e => ho _ (h.1 e), fun e => ho _ (h.2.1 e), fun e => (h.2.2.1 e).kept (row := none) (grown_of (hle.2 (by omega)) none) (by cases v.ownBlock <;> simp), h.2.2.2⟩
end
section
variable {W : World} {ops : Array Oper} {rest : List Oper} {o : Oper} {a : Act} {Q : Exit → Act → World → Prop}
theorem wpList_push_str (hgd : o.guard = none) (s x : Operand) (ho : o.op = .call { callee := .builtin .append, args := #[s, x], argTypes := #[145, 145] }) (base : Nat) (v : Value) (n : Nat) (T : List (List Int)) (t : List Int) (hs : a.eval s = v) (hown : W.ownsRow base 9 1 v n (T.map strV))
    (hx : a.eval x = .slice (some ⟨W.heap.size, 0, none⟩) 1 1) (hn : n ≤ 999999) (hbase : base ≤ W.heap.size)
    (h : ∀ v' w', w'.ownsRow base 9 1 v' (n + 1) ((T ++ [t]).map strV) → W.grownBy w' v.ownBlock → wpList Try.prog ops Q rest (a.put o.dst v') w') : wpList Try.prog ops Q (o :: rest) a (W.alloc (.cells #[strV t] 9)) := by
  have hb : Below W.heap.size W (W.alloc (.cells #[strV t] 9)) := (Below.refl _ _).alloc (Nat.le_refl _) _
  have hsl : Sl (W.alloc (.cells #[strV t] 9)) (some ⟨W.heap.size, 0, none⟩) 1 [strV t] := Sl.new W [strV t] #[strV t] 9 (0, 0) rfl (by simp)
  have ho' := owns_below hown hb
  refine wpList_append_sl 145 9 16 (.string ByteArray.empty) Try.underlying145 info9 rfl (by decide) hgd s x ho base v n 1 (T.map strV) [strV t] hs ho' (some ⟨W.heap.size, 0, none⟩) 1 hx rfl hsl (fun v hv => by simp at hv; subst hv; rfl) (by omega) (by simp; omega) ?_
  intro v' w' h1 h2
  refine h v' w' (by rw [List.map_append]; exact h1) ⟨h2.os, h2.tape, h2.output, by have := h2.size; simp at this; omega, fun k hk hne => ?_⟩
  rw [h2.block k (by simp; omega) hne]
  exact hb.block k hk
end
end Go.Proofs.Ytdffbjjiojheoaa.Bp
-- from Bq
namespace Go.Proofs.Ytdffbjjiojheoaa.Bp
set_option maxRecDepth 100000
open Go.ChangeShapes Go.WideShapes Go.ChangeAt Go.RowKit Go.Proofs.Ytdffbjjiojheoaa.Tn
open Go.ChangeMaps (setBlock heap_setBlock_same heap_setBlock_other)
theorem top2 (w : World) (X : Obj) (cs : Array Value) (t : TypeId) : ((w.alloc X).alloc (.cells cs t)).heap[w.heap.size + 1]? = some (.cells cs t (0, 0)) := by
  have h := heap_alloc_new (w.alloc X) (.cells cs t)
  rw [World.size_alloc] at h
  exact h
theorem Byts.cell {w : World} {c o cap : Nat} {l : List Int} (h : Byts w (some ⟨c, o, none⟩) cap l) (k : Nat) (hk : k < l.length) : w.cell? ⟨c, o + k, none⟩ = some (.int .u8 (l.getD k 0)) := by
  obtain ⟨c', o', e, hc⟩ := h.at_ k hk
  cases e
  exact hc
theorem dup_not {al : List Int} {k i : Nat} (hk : k < i) (hi : i < al.length) (h : al.getD k 0 = al.getD i 0) : ¬ al.Nodup := fun hn => by
  have h1 := idx_yes hn (k := k) (by omega) rfl
  have h2 := idx_yes hn hi rfl
  rw [h] at h1
  omega
/-- a pair as a value -/
def kv (p : Int × Int) : Value := .agg #[.int .i64 p.1, .int .i64 p.2]
theorem part3_0 (a b : Int) (W : World) : (part 3 #[.int .i64 a, .int .i64 b] 0).run Try.prog W = .ok (.int .i64 a) W := by kernel_rfl
theorem part3_1 (a b : Int) (W : World) : (part 3 #[.int .i64 a, .int .i64 b] 1).run Try.prog W = .ok (.int .i64 b) W := by kernel_rfl
theorem eq_int (d : Nat) (a b : Int) (W : World) : (Op.equalIn (d + 1) 3 (.int .i64 a) (.int .i64 b)).run Try.prog W = .ok (a == b) W := run_equalIn_int W d 3 .i64 .i64 a b Try.underlying3
theorem stood_pair : Try.prog.stoodInHeld 151 = false := by kernel_rfl
theorem under_pair : Try.prog.underlying 151 = some (.struct (Try.prog.fieldsOf 151)) := by kernel_rfl
theorem fields_pair : (Try.prog.fieldsOf 151).toList.map (fun f => (f.name, f.type, f.offset)) = [("A", 3, 0), ("B", 3, 1)] := by kernel_rfl
theorem eq_pair (p q : Int × Int) (W : World) : (Op.equal 151 (kv p) (kv q)).run Try.prog W = .ok (decide (p = q)) W := by
  obtain ⟨a, b⟩ := p
  obtain ⟨c, d⟩ := q
  have hf := fields_pair
  show (Op.equalIn (9999 + 1) 151 (.agg #[.int .i64 a, .int .i64 b]) (.agg #[.int .i64 c, .int .i64 d])).run Try.prog W = _
  rw [run_equalIn_struct W 9999 151 _ _ under_pair stood_pair]
  generalize (Try.prog.fieldsOf 151).toList = fs at hf ⊢
  rcases fs with _ | ⟨f, _ | ⟨g, _ | ⟨_, _⟩⟩⟩
  · simp at hf
  · simp at hf
  · simp only [List.map_cons, List.map_nil, List.cons.injEq, Prod.mk.injEq, and_true] at hf
    obtain ⟨⟨f1, f2, f3⟩, g1, g2, g3⟩ := hf
    have e1 := eq_int 9998 a c W
    have e2 := eq_int 9998 b d W
    by_cases h1 : a = c
    · subst h1
      by_cases h2 : b = d
      · subst h2
        simp [Op.eqFields, f1, f2, f3, g1, g2, g3, part3_0, part3_1, e1, e2]
      · have h2' : (b == d) = false := by simpa using h2
        rw [h2'] at e2
        simp [Op.eqFields, f1, f2, f3, g1, g2, g3, part3_0, part3_1, e1, e2, h2]
    · have h1' : (a == c) = false := by simpa using h1
      rw [h1'] at e1
      simp [Op.eqFields, f1, f2, f3, part3_0, e1, h1]
  · simp at hf
theorem check_pair (p : Int × Int) (em : Bool) (W : World) : (Instr.checkKey em 10000 151 (kv p)).run Try.prog W = .ok () W := by
  obtain ⟨a, b⟩ := p
  kernel_rfl
/-- the entries of a map of pairs: the k-th one's token is n + k -/
def ents (n : Nat) : Nat → List (Int × Int) → List MapEntry
  | _, [] => []
  | k, p :: r => ⟨kv p, .int .i64 ((n : Int) + (k : Int)), k⟩ :: ents n (k + 1) r
theorem ents_snoc (n : Nat) (p : Int × Int) : ∀ (k : Nat) (ps : List (Int × Int)), ents n k (ps ++ [p]) = ents n k ps ++ [⟨kv p, .int .i64 ((n : Int) + ((k + ps.length : Nat) : Int)), k + ps.length⟩]
  | k, [] => by simp [ents]
  | k, q :: r => by
    have e : k + 1 + r.length = k + (r.length + 1) := by omega
    simp [ents, ents_snoc n p (k + 1) r, e]
theorem asking_pair (n : Nat) (q : Int × Int) (W : World) : ∀ (k i : Nat) (ps : List (Int × Int)), (Instr.findAsking 151 (kv q) (ents n k ps) i).run Try.prog W = .ok (if q ∈ ps then some (i + ps.idxOf q, .int .i64 ((n : Int) + ((k + ps.idxOf q : Nat) : Int))) else none) W
  | k, i, [] => by simp [ents, Instr.findAsking]
  | k, i, p :: r => by
    have he := eq_pair q p W
    have ih := asking_pair n q W (k + 1) (i + 1) r
    by_cases h : q = p
    · subst h
      simp [ents, Instr.findAsking, he]
    · have hd : decide (q = p) = false := by simpa using h
      rw [hd] at he
      have hx : (p :: r).idxOf q = r.idxOf q + 1 := by
        rw [List.idxOf_cons]
        have : (p == q) = false := by simpa using fun e => h e.symm
        rw [this]; rfl
      simp only [ents, Instr.findAsking, Sem.run_bind, he, Result.andThen_ok, Bool.false_eq_true, if_false, ih, hx]
      by_cases hm : q ∈ r
      · rw [if_pos hm, if_pos (List.mem_cons_of_mem _ hm)]
        have e1 : i + 1 + r.idxOf q = i + (r.idxOf q + 1) := by omega
        have e2 : k + 1 + r.idxOf q = k + (r.idxOf q + 1) := by omega
        rw [e1, e2]
      · rw [if_neg hm, if_neg (fun e => by rcases List.mem_cons.1 e with e | e; exact h e; exact hm e)]
theorem find_pair (n : Nat) (q : Int × Int) (W : World) (ps : List (Int × Int)) : (Instr.findKey 151 (kv q) (ents n 0 ps)).run Try.prog W = .ok (if q ∈ ps then some (ps.idxOf q, .int .i64 ((n : Int) + (ps.idxOf q : Int))) else none) W := by
  have h := asking_pair n q W 0 0 ps
  simp only [Nat.zero_add] at h
  rw [← h]
  cases ps with
  | nil => simp [ents, Instr.findKey, run_underlying under_pair, Instr.findNow, Instr.findAsking]
  | cons p r => simp [ents, Instr.findKey, run_underlying under_pair, Instr.findNow, Instr.sameNow]
/-- a map of pairs -/
def Mp (n : Nat) (ps : List (Int × Int)) (m : Nat) (W : World) : Prop := W.heap[m]? = some (.map (ents n 0 ps).toArray ps.length)
theorem under_map : Try.prog.underlying 144 = some (.map 151 3) := by kernel_rfl
/-- the token of a pair, or 0 -/
def tokP (n : Nat) (ps : List (Int × Int)) (q : Int × Int) : Int := if q ∈ ps then (n : Int) + (ps.idxOf q : Int) else 0
theorem look_ok {n : Nat} {ps : List (Int × Int)} {m : Nat} {W : World} (h : Mp n ps m W) (a b : Int) : (Instr.lookup 144 (.map (some m)) (.agg #[.int .i64 a, .int .i64 b]) true).run Try.prog W = .ok (.tuple #[.int .i64 (tokP n ps (a, b)), .bool (decide ((a, b) ∈ ps))]) W := by
  have hc := check_pair (a, b) (ents n 0 ps).isEmpty W
  have hf := find_pair n (a, b) W ps
  unfold kv at hc hf
  dsimp only at hc hf
  unfold tokP
  by_cases hm : (a, b) ∈ ps
  · simp only [if_pos hm] at hf ⊢
    simp [Instr.lookup, run_underlying under_map, MapKept.run_getObj_map h, hc, hf, hm, Result.andThen]
  · simp only [if_neg hm] at hf ⊢
    simp [Instr.lookup, run_underlying under_map, MapKept.run_getObj_map h, hc, hf, hm, Result.andThen]
theorem update_new {n : Nat} {ps : List (Int × Int)} {m : Nat} {W : World} (h : Mp n ps m W) (a b : Int) (hn : (a, b) ∉ ps) : (Instr.mapUpdate 144 (.map (some m)) (.agg #[.int .i64 a, .int .i64 b]) (.int .i64 ((n : Int) + (ps.length : Int)))).run Try.prog W = .ok () (setBlock W m (.map (ents n 0 (ps ++ [(a, b)])).toArray (ps.length + 1))) := by
  have hc := check_pair (a, b) false W
  have hf := find_pair n (a, b) W ps
  have hs := ents_snoc n (a, b) 0 ps
  unfold kv at hc hf hs
  dsimp only at hc hf hs
  rw [if_neg hn] at hf
  simp only [Nat.zero_add] at hs
  simp [Instr.mapUpdate, run_underlying under_map, MapKept.run_getObj_map h, hc, hf, MapKept.run_setObj_map _ h, Result.andThen, setBlock, hs]
theorem Mp.put {n : Nat} {ps : List (Int × Int)} {m : Nat} {W : World} (h : Mp n ps m W) (p : Int × Int) : Mp n (ps ++ [p]) m (setBlock W m (.map (ents n 0 (ps ++ [p])).toArray (ps.length + 1))) := by
  unfold Mp
  rw [heap_setBlock_same h]
  simp
theorem Mp.later {n : Nat} {ps : List (Int × Int)} {m : Nat} {W W' : World} (h : Mp n ps m W) (hb : Below W.heap.size W W') : Mp n ps m W' := (hb.block _ (Array.getElem?_eq_some_iff.1 h).1).trans h
end Go.Proofs.Ytdffbjjiojheoaa.Bp
