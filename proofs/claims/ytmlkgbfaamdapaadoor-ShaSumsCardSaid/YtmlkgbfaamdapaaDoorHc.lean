import Derived.Test.YtmlkgbfaamdapaaDoorHb
namespace Go.Proofs.YtmlkgbfaamdapaaDoor
open Go.ChangeShapes Go.WideShapes Go.ChangeAt Go.RowKit

/-- a text's letter, as a number -/
def sv (s : ByteArray) (i : Nat) : Int := ((s.data.toList.getD i 0).toNat : Int)
theorem sv_byte (s : ByteArray) (i : Nat) : 0 ≤ sv s i ∧ sv s i < 256 := by
  unfold sv
  have := (s.data.toList.getD i 0).toNat_lt
  omega
theorem run_at (s : ByteArray) (k : IntKind) (y : Int) (i : Nat) (hy : y = i) (hi : i < s.size) (w : World) : (Instr.index 9 (.string s) (.int k y)).run Tryd.prog w = .ok (.int .u8 (sv s i)) w := by
  subst hy
  rw [run_index_string (h := Tryd.underlying9), dif_pos ⟨by omega, by omega⟩]
  congr 2
  unfold sv
  have hi' : i < s.data.size := hi
  simp [ByteArray.getElem_eq_getElem_data]
  rw [Array.getElem?_eq_getElem hi']
  rfl
/-- the bytes of the first n pairs of digits -/
def un (s : ByteArray) : Nat → List Int
  | 0 => zs 32
  | n + 1 => (un s n).set n (16 * hexV (sv s (2 * n)) + hexV (sv s (2 * n + 1)))
theorem un_length (s : ByteArray) : ∀ n, (un s n).length = 32
  | 0 => rfl
  | n + 1 => by simp [un, un_length s n]
def good (s : ByteArray) (n : Nat) : Prop := ∀ i, i < n → 0 ≤ hexV (sv s (2 * i)) ∧ 0 ≤ hexV (sv s (2 * i + 1))
theorem hexV_lt (c : Int) (h : 0 ≤ hexV c) : hexV c < 16 := by
  unfold hexV at *
  split at h <;> rename_i h1
  · rw [if_pos h1]; omega
  · rw [if_neg h1]
    split at h <;> rename_i h2
    · rw [if_pos h2]; omega
    · omega
theorem or16 : ∀ a : Nat, a < 16 → ∀ b : Nat, b < 16 → bits .or .i64 ((a : Int) * 16) (b : Int) = 16 * (a : Int) + (b : Int) := by decide +kernel
theorem or16' (a b : Int) (h1 : 0 ≤ a) (h2 : a < 16) (h3 : 0 ≤ b) (h4 : b < 16) : bits .or .i64 (a * 16) b = 16 * a + b := by
  obtain ⟨n, rfl⟩ := Int.eq_ofNat_of_zero_le h1
  obtain ⟨m, rfl⟩ := Int.eq_ofNat_of_zero_le h3
  exact or16 n (by omega) m (by omega)
theorem results_two {P : Program} {fn : Func} {p q : Tmp} {ty : TypeId} (h : fn.results = #[.cell p ty, .tmp q]) (tmps : Array Value) (w : World) (g : Nat) (t : TypeId) (cs : Array Value) (fr : Nat × Nat) (d : TypeDesc) (v : Value)
    (hp : tmps.getD p undef = .pointer (some ⟨g, 0, none⟩)) (hq : tmps.getD q undef = v) (hg : w.heap[g]? = some (.cells cs t fr))
    (hu : P.underlying ty = some d) (hd : (match d with | .struct _ | .array _ _ => true | _ => false) = true) (hi : (P.info? ty).map (·.size) = some cs.size) :
    (results fn tmps).run P w = .ok (.tuple #[.agg cs, v]) w := by
  have hp' : tmps[p]?.getD undef = .pointer (some ⟨g, 0, none⟩) := by simpa using hp
  have hq' : tmps[q]?.getD undef = v := by simpa using hq
  simp [results, h, hp', hq', asAddr, run_loadVar_row w g t ty cs fr d hg hu hd hi]
theorem built25 : Tryd.prog.built 25 [] = some (rowB (zs 32)) := by kernel_rfl
theorem wpList_build25 {w : World} {ops : Array Oper} {rest : List Oper} {o : Oper} {a : Act} {Q : Exit → Act → World → Prop} (hg : o.guard = none) (ho : o.op = .build 25 #[])
    (h : wpList Tryd.prog ops Q rest (a.put o.dst (.agg (rowB (zs 32)))) w) : wpList Tryd.prog ops Q (o :: rest) a w :=
  wpList_build hg 25 #[] ho (by kernel_rfl) (by
    have e : ((#[] : Array (Nat × Operand)).map fun (i, x) => (i, a.eval x)).toList = [] := by simp
    rw [e, built25]
    exact h)
theorem rowz32 : (Tryd.prog.info? 25).map (·.size) = some (rowB (zs 32)).size := by rw [rowB_size]; exact size25
end Go.Proofs.YtmlkgbfaamdapaaDoor
