import Derived.Test.YtllaecliaojmjaaDoorBg
import Derived.Laws.StructEq
import Derived.ChangeMaps5
namespace Go.Proofs.YtllaecliaojmjaaDoor.Bp
set_option maxRecDepth 100000
open Go.ChangeShapes Go.WideShapes Go.ChangeAt Go.RowKit Go.Proofs.YtllaecliaojmjaaDoor.Tn
open Go.ChangeMaps (setBlock heap_setBlock_same heap_setBlock_other)

/-! ### pairs as the keys of a map -/
theorem results_two {P : Program} {fn : Func} {p q : Tmp} {ty : TypeId} (h : fn.results = #[.cell p ty, .tmp q]) (tmps : Array Value) (w : World) (g : Nat) (t : TypeId) (cs : Array Value) (fr : Nat × Nat) (d : TypeDesc) (v : Value)
    (hp : tmps.getD p undef = .pointer (some ⟨g, 0, none⟩)) (hq : tmps.getD q undef = v) (hg : w.heap[g]? = some (.cells cs t fr))
    (hu : P.underlying ty = some d) (hd : (match d with | .struct _ | .array _ _ => true | _ => false) = true) (hi : (P.info? ty).map (·.size) = some cs.size) :
    (results fn tmps).run P w = .ok (.tuple #[.agg cs, v]) w := by
  have hp' : tmps[p]?.getD undef = .pointer (some ⟨g, 0, none⟩) := by simpa using hp
  have hq' : tmps[q]?.getD undef = v := by simpa using hq
  simp [results, h, hp', hq', asAddr, run_loadVar_row w g t ty cs fr d hg hu hd hi]
theorem below_setRow {B : Nat} {a w : World} (h : Below B a w) {g : Nat} (hg : B ≤ g) (cs : Array Value) : Below B a (w.setRow g cs) :=
  h.trans ⟨rfl, rfl, rfl, by simp, fun k hk => setRow_other w g k cs (by omega)⟩
theorem top2 (w : World) (X : Obj) (cs : Array Value) (t : TypeId) : ((w.alloc X).alloc (.cells cs t)).heap[w.heap.size + 1]? = some (.cells cs t (0, 0)) := by
  have h := heap_alloc_new (w.alloc X) (.cells cs t)
  rw [World.size_alloc] at h
  exact h
theorem Byts.cell {w : World} {c o cap : Nat} {l : List Int} (h : Byts w (some ⟨c, o, none⟩) cap l) (k : Nat) (hk : k < l.length) : w.cell? ⟨c, o + k, none⟩ = some (.int .u8 (l.getD k 0)) := by
  obtain ⟨c', o', e, hc⟩ := h.at_ k hk
  cases e
  exact hc
theorem dup_not {al : List Int} {k i : Nat} (hk : k < i) (hi : i < al.length) (h : al.getD k 0 = al.getD i 0) : ¬ al.Nodup := fun hn => by
  have h1 := idx_yes hn (k := k) (by omega) rfl
  have h2 := idx_yes hn hi rfl
  rw [h] at h1
  omega
/-- a pair as a value -/
def kv (p : Int × Int) : Value := .agg #[.int .i64 p.1, .int .i64 p.2]
theorem part3_0 (a b : Int) (W : World) : (part 3 #[.int .i64 a, .int .i64 b] 0).run Tryd.prog W = .ok (.int .i64 a) W := by kernel_rfl
theorem part3_1 (a b : Int) (W : World) : (part 3 #[.int .i64 a, .int .i64 b] 1).run Tryd.prog W = .ok (.int .i64 b) W := by kernel_rfl
theorem eq_int (d : Nat) (a b : Int) (W : World) : (Op.equalIn (d + 1) 3 (.int .i64 a) (.int .i64 b)).run Tryd.prog W = .ok (a == b) W := run_equalIn_int W d 3 .i64 .i64 a b Tryd.underlying3
theorem stood_pair : Tryd.prog.stoodInHeld 46 = false := by kernel_rfl
theorem under_pair : Tryd.prog.underlying 46 = some (.struct (Tryd.prog.fieldsOf 46)) := by kernel_rfl
theorem fields_pair : (Tryd.prog.fieldsOf 46).toList.map (fun f => (f.name, f.type, f.offset)) = [("A", 3, 0), ("B", 3, 1)] := by kernel_rfl
theorem eq_pair (p q : Int × Int) (W : World) : (Op.equal 46 (kv p) (kv q)).run Tryd.prog W = .ok (decide (p = q)) W := by
  obtain ⟨a, b⟩ := p
  obtain ⟨c, d⟩ := q
  have hf := fields_pair
  show (Op.equalIn (9999 + 1) 46 (.agg #[.int .i64 a, .int .i64 b]) (.agg #[.int .i64 c, .int .i64 d])).run Tryd.prog W = _
  rw [run_equalIn_struct W 9999 46 _ _ under_pair stood_pair]
  generalize (Tryd.prog.fieldsOf 46).toList = fs at hf ⊢
  rcases fs with _ | ⟨f, _ | ⟨g, _ | ⟨_, _⟩⟩⟩
  · simp at hf
  · simp at hf
  · simp only [List.map_cons, List.map_nil, List.cons.injEq, Prod.mk.injEq, and_true] at hf
    obtain ⟨⟨f1, f2, f3⟩, g1, g2, g3⟩ := hf
    have e1 := eq_int 9998 a c W
    have e2 := eq_int 9998 b d W
    by_cases h1 : a = c
    · subst h1
      by_cases h2 : b = d
      · subst h2
        simp [Op.eqFields, f1, f2, f3, g1, g2, g3, part3_0, part3_1, e1, e2]
      · have h2' : (b == d) = false := by simpa using h2
        rw [h2'] at e2
        simp [Op.eqFields, f1, f2, f3, g1, g2, g3, part3_0, part3_1, e1, e2, h2]
    · have h1' : (a == c) = false := by simpa using h1
      rw [h1'] at e1
      simp [Op.eqFields, f1, f2, f3, part3_0, e1, h1]
  · simp at hf
theorem check_pair (p : Int × Int) (em : Bool) (W : World) : (Instr.checkKey em 10000 46 (kv p)).run Tryd.prog W = .ok () W := by
  obtain ⟨a, b⟩ := p
  kernel_rfl
/-- the entries of a map of pairs: the k-th one's token is n + k -/
def ents (n : Nat) : Nat → List (Int × Int) → List MapEntry
  | _, [] => []
  | k, p :: r => ⟨kv p, .int .i64 ((n : Int) + (k : Int)), k⟩ :: ents n (k + 1) r
theorem ents_length (n : Nat) : ∀ (k : Nat) (ps : List (Int × Int)), (ents n k ps).length = ps.length
  | _, [] => rfl
  | k, p :: r => by simp [ents, ents_length n (k + 1) r]
theorem ents_snoc (n : Nat) (p : Int × Int) : ∀ (k : Nat) (ps : List (Int × Int)), ents n k (ps ++ [p]) = ents n k ps ++ [⟨kv p, .int .i64 ((n : Int) + ((k + ps.length : Nat) : Int)), k + ps.length⟩]
  | k, [] => by simp [ents]
  | k, q :: r => by
    have e : k + 1 + r.length = k + (r.length + 1) := by omega
    simp [ents, ents_snoc n p (k + 1) r, e]
theorem asking_pair (n : Nat) (q : Int × Int) (W : World) : ∀ (k i : Nat) (ps : List (Int × Int)), (Instr.findAsking 46 (kv q) (ents n k ps) i).run Tryd.prog W = .ok (if q ∈ ps then some (i + ps.idxOf q, .int .i64 ((n : Int) + ((k + ps.idxOf q : Nat) : Int))) else none) W
  | k, i, [] => by simp [ents, Instr.findAsking]
  | k, i, p :: r => by
    have he := eq_pair q p W
    have ih := asking_pair n q W (k + 1) (i + 1) r
    by_cases h : q = p
    · subst h
      simp [ents, Instr.findAsking, he]
    · have hd : decide (q = p) = false := by simpa using h
      rw [hd] at he
      have hx : (p :: r).idxOf q = r.idxOf q + 1 := by
        rw [List.idxOf_cons]
        have : (p == q) = false := by simpa using fun e => h e.symm
        rw [this]; rfl
      simp only [ents, Instr.findAsking, Sem.run_bind, he, Result.andThen_ok, Bool.false_eq_true, if_false, ih, hx]
      by_cases hm : q ∈ r
      · rw [if_pos hm, if_pos (List.mem_cons_of_mem _ hm)]
        have e1 : i + 1 + r.idxOf q = i + (r.idxOf q + 1) := by omega
        have e2 : k + 1 + r.idxOf q = k + (r.idxOf q + 1) := by omega
        rw [e1, e2]
      · rw [if_neg hm, if_neg (fun e => by rcases List.mem_cons.1 e with e | e; exact h e; exact hm e)]
theorem find_pair (n : Nat) (q : Int × Int) (W : World) (ps : List (Int × Int)) : (Instr.findKey 46 (kv q) (ents n 0 ps)).run Tryd.prog W = .ok (if q ∈ ps then some (ps.idxOf q, .int .i64 ((n : Int) + (ps.idxOf q : Int))) else none) W := by
  have h := asking_pair n q W 0 0 ps
  simp only [Nat.zero_add] at h
  rw [← h]
  cases ps with
  | nil => simp [ents, Instr.findKey, run_underlying under_pair, Instr.findNow, Instr.findAsking]
  | cons p r => simp [ents, Instr.findKey, run_underlying under_pair, Instr.findNow, Instr.sameNow]
/-- a map of pairs -/
def Mp (n : Nat) (ps : List (Int × Int)) (m : Nat) (W : World) : Prop := W.heap[m]? = some (.map (ents n 0 ps).toArray ps.length)
theorem under_map : Tryd.prog.underlying 54 = some (.map 46 3) := by kernel_rfl
theorem zero3 (W : World) : (zeroValue 3).run Tryd.prog W = .ok (.int .i64 0) W := by kernel_rfl
/-- the token of a pair, or 0 -/
def tokP (n : Nat) (ps : List (Int × Int)) (q : Int × Int) : Int := if q ∈ ps then (n : Int) + (ps.idxOf q : Int) else 0
theorem look_ok {n : Nat} {ps : List (Int × Int)} {m : Nat} {W : World} (h : Mp n ps m W) (a b : Int) : (Instr.lookup 54 (.map (some m)) (.agg #[.int .i64 a, .int .i64 b]) true).run Tryd.prog W = .ok (.tuple #[.int .i64 (tokP n ps (a, b)), .bool (decide ((a, b) ∈ ps))]) W := by
  have hc := check_pair (a, b) (ents n 0 ps).isEmpty W
  have hf := find_pair n (a, b) W ps
  unfold kv at hc hf
  dsimp only at hc hf
  unfold tokP
  by_cases hm : (a, b) ∈ ps
  · simp only [if_pos hm] at hf ⊢
    simp [Instr.lookup, run_underlying under_map, MapKept.run_getObj_map h, hc, hf, hm, Result.andThen]
  · simp only [if_neg hm] at hf ⊢
    simp [Instr.lookup, run_underlying under_map, MapKept.run_getObj_map h, hc, hf, hm, Result.andThen]
theorem look_one {n : Nat} {ps : List (Int × Int)} {m : Nat} {W : World} (h : Mp n ps m W) (a b : Int) : (Instr.lookup 54 (.map (some m)) (.agg #[.int .i64 a, .int .i64 b]) false).run Tryd.prog W = .ok (.int .i64 (tokP n ps (a, b))) W := by
  have hc := check_pair (a, b) (ents n 0 ps).isEmpty W
  have hf := find_pair n (a, b) W ps
  unfold kv at hc hf
  dsimp only at hc hf
  unfold tokP
  by_cases hm : (a, b) ∈ ps
  · simp only [if_pos hm] at hf ⊢
    simp [Instr.lookup, run_underlying under_map, MapKept.run_getObj_map h, hc, hf, Result.andThen]
  · simp only [if_neg hm] at hf ⊢
    simp [Instr.lookup, run_underlying under_map, MapKept.run_getObj_map h, hc, hf, Result.andThen]
theorem update_new {n : Nat} {ps : List (Int × Int)} {m : Nat} {W : World} (h : Mp n ps m W) (a b : Int) (hn : (a, b) ∉ ps) : (Instr.mapUpdate 54 (.map (some m)) (.agg #[.int .i64 a, .int .i64 b]) (.int .i64 ((n : Int) + (ps.length : Int)))).run Tryd.prog W = .ok () (setBlock W m (.map (ents n 0 (ps ++ [(a, b)])).toArray (ps.length + 1))) := by
  have hc := check_pair (a, b) false W
  have hf := find_pair n (a, b) W ps
  have hs := ents_snoc n (a, b) 0 ps
  unfold kv at hc hf hs
  dsimp only at hc hf hs
  rw [if_neg hn] at hf
  simp only [Nat.zero_add] at hs
  simp [Instr.mapUpdate, run_underlying under_map, MapKept.run_getObj_map h, hc, hf, MapKept.run_setObj_map _ h, Result.andThen, setBlock, hs]
theorem Mp.put {n : Nat} {ps : List (Int × Int)} {m : Nat} {W : World} (h : Mp n ps m W) (p : Int × Int) : Mp n (ps ++ [p]) m (setBlock W m (.map (ents n 0 (ps ++ [p])).toArray (ps.length + 1))) := by
  unfold Mp
  rw [heap_setBlock_same h]
  simp
theorem Mp.later {n : Nat} {ps : List (Int × Int)} {m : Nat} {W W' : World} (h : Mp n ps m W) (hb : Below W.heap.size W W') : Mp n ps m W' := (hb.block _ (Array.getElem?_eq_some_iff.1 h).1).trans h
end Go.Proofs.YtllaecliaojmjaaDoor.Bp
