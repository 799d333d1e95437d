import Derived.Test.YtpaffncdfldnmaaDoorS
namespace Go.Proofs.YtpaffncdfldnmaaDoor
open Go.RowKit

theorem gen_world {Q : World → Prop} (w2 : World) (P : World → Prop) (h : P w2) (k : ∀ w, P w → Q w) : Q w2 := k w2 h
/-- the constants -/
def kc : List Int := [1116352408, 1899447441, 3049323471, 3921009573, 961987163, 1508970993, 2453635748, 2870763221, 3624381080, 310598401, 607225278, 1426881987, 1925078388, 2162078206, 2614888103, 3248222580, 3835390401, 4022224774, 264347078, 604807628, 770255983, 1249150122, 1555081692, 1996064986, 2554220882, 2821834349, 2952996808, 3210313671, 3336571891, 3584528711, 113926993, 338241895, 666307205, 773529912, 1294757372, 1396182291, 1695183700, 1986661051, 2177026350, 2456956037, 2730485921, 2820302411, 3259730800, 3345764771, 3516065817, 3600352804, 4094571909, 275423344, 430227734, 506948616, 659060556, 883997877, 958139571, 1322822218, 1537002063, 1747873779, 1955562222, 2024104815, 2227730452, 2361852424, 2428436474, 2756734187, 3204031479, 3329325298]
theorem kc_length : kc.length = 64 := rfl
/-- the state -/
structure St where
  a : Int
  b : Int
  c : Int
  d : Int
  e : Int
  f : Int
  g : Int
  h : Int
def St.list (s : St) : List Int := [s.a, s.b, s.c, s.d, s.e, s.f, s.g, s.h]
def start : St := ⟨1779033703, 3144134277, 1013904242, 2773480762, 1359893119, 2600822924, 528734635, 1541459225⟩
def bsig1 (x : Int) : Int := bits .xor .u32 (bits .xor .u32 (rotr x 6) (rotr x 11)) (rotr x 25)
def bsig0 (x : Int) : Int := bits .xor .u32 (bits .xor .u32 (rotr x 2) (rotr x 13)) (rotr x 22)

/-- a block that begins with the words of l -/
def rowSt (l : List Int) (r : Array Value) : Array Value := (l.map (Value.int .u32)).toArray ++ r
theorem rowSt_get (l : List Int) (r : Array Value) (i : Nat) (h : i < l.length) : (rowSt l r)[i]? = some (.int .u32 (l.getD i 0)) := by
  simp [rowSt, Array.getElem?_append, h, List.getD]
theorem rowSt_set (l : List Int) (r : Array Value) (i : Nat) (x : Int) (h : i < l.length) : (rowSt l r).setIfInBounds i (.int .u32 x) = rowSt (l.set i x) r := by
  apply Array.ext'
  simp [rowSt, h]

/-- one round -/
def choice (e f g : Int) : Int := bits .xor .u32 (bits .and .u32 e f) (bits .and .u32 (bits .xor .u32 4294967295 e) g)
def majority (a b c : Int) : Int := bits .xor .u32 (bits .xor .u32 (bits .and .u32 a b) (bits .and .u32 a c)) (bits .and .u32 b c)
def St.pp (s : St) (k x : Int) : Int := (s.h + bsig1 s.e + choice s.e s.f s.g + k + x) % 4294967296
def St.qq (s : St) : Int := (bsig0 s.a + majority s.a s.b s.c) % 4294967296
def St.step (s : St) (k x : Int) : St := ⟨(s.pp k x + s.qq) % 4294967296, s.a, s.b, s.c, (s.d + s.pp k x) % 4294967296, s.e, s.f, s.g⟩
/-- n rounds -/
def St.rounds (s : St) (ws : List Int) : Nat → St
  | 0 => s
  | n + 1 => (s.rounds ws n).step (kc.getD n 0) (ws.getD n 0)

/-- the world while a block turns the state: g is the block of the words -/
structure Tn (w : World) (g : Nat) (ws : List Int) (wr : World) : Prop where
  below : Below w.heap.size w wr
  ge : w.heap.size ≤ g
  row : wr.heap[g]? = some (.cells (rowOf 64 ws) 84 (0, 0))
theorem Tn.made {w w1 : World} (hb : Below w.heap.size w w1) (X : Array Value) (ws : List Int) : Tn w w1.heap.size ws ((w1.alloc (.cells X 84)).setRow w1.heap.size (rowOf 64 ws)) :=
  ⟨below_setRow (hb.alloc hb.size _) hb.size _, hb.size, setRow_heap _ _ _ _ _ _ (heap_alloc_new _ _)⟩
theorem Tn.word {w wr : World} {g : Nat} {ws : List Int} (h : Tn w g ws wr) (i : Nat) (hi : i < ws.length) : wr.cell? ⟨g, i, none⟩ = some (.int .u32 (ws.getD i 0)) := by
  rw [cell_of_row _ _ _ _ _ _ h.row, rowOf_get _ _ _ hi]
theorem Tn.drewN {w wr : World} {g : Nat} {ws : List Int} (h : Tn w g ws wr) (n : Nat) : Tn w g ws (wr.drewN n) :=
  ⟨⟨h.below.os, h.below.tape, h.below.output, h.below.size, h.below.block⟩, h.ge, h.row⟩

/-- an array's value, at a place -/
theorem run_index_row {P : Program} (t e : TypeId) (n : Nat) (k : IntKind) (ht : P.underlying t = some (.array n e)) (he : P.underlying e = some (.int k)) (hs : (P.info? e).map (·.size) = some 1)
    (cs : Array Value) (i : Nat) (hi : i < n) (v : Value) (hv : cs[i]? = some v) (w : World) : (Instr.index t (.agg cs) (.int .i64 (i : Int))).run P w = .ok v w := by
  cases hq : P.info? e with
  | none => simp [hq] at hs
  | some j =>
    have hj : j.size = 1 := by simpa [hq] using hs
    simp [Instr.index, asIntOf, run_underlying ht, part, isAgg, run_underlying he, sizeOf, typeInfo, hq, hj, hi, hv]

/-- the words of b added to those of a, the first n -/
def mix (a b : List Int) : Nat → List Int
  | 0 => a
  | n + 1 => (mix a b n).set n ((a.getD n 0 + b.getD n 0) % 4294967296)
theorem mix_length (a b : List Int) : ∀ n, (mix a b n).length = a.length
  | 0 => rfl
  | n + 1 => by simp [mix, mix_length a b n]
theorem mix_get (a b : List Int) : ∀ (n i : Nat), n ≤ i → (mix a b n).getD i 0 = a.getD i 0
  | 0, _, _ => rfl
  | n + 1, i, h => by
    rw [mix, ← mix_get a b n i (by omega)]
    simp [show ¬ n = i by omega]
def St.plus (s x : St) : St := ⟨(s.a + x.a) % 4294967296, (s.b + x.b) % 4294967296, (s.c + x.c) % 4294967296, (s.d + x.d) % 4294967296, (s.e + x.e) % 4294967296, (s.f + x.f) % 4294967296, (s.g + x.g) % 4294967296, (s.h + x.h) % 4294967296⟩
theorem mix_all (s x : St) : mix s.list x.list 8 = (s.plus x).list := rfl
/-- a block turns the state -/
def St.turn (s : St) (l : List Int) : St := s.plus (s.rounds (words l) 64)

/-- the world while the state is written -/
structure Un (w : World) (p : Nat) (ty : TypeId) (r : Array Value) (l : List Int) (wr : World) : Prop where
  grown : w.grownBy wr (some p)
  row : wr.heap[p]? = some (.cells (rowSt l r) ty (0, 0))
theorem Un.start {w wr : World} {g : Nat} {ws : List Int} (h : Tn w g ws wr) {p : Nat} {ty : TypeId} {r : Array Value} {l : List Int} (hp : w.heap[p]? = some (.cells (rowSt l r) ty (0, 0))) : Un w p ty r l wr :=
  ⟨⟨h.below.os, h.below.tape, h.below.output, h.below.size, fun k hk _ => h.below.block k hk⟩, (h.below.block p (Array.getElem?_eq_some_iff.1 hp).1).trans hp⟩
theorem Un.drew {w wr : World} {p : Nat} {ty : TypeId} {r : Array Value} {l : List Int} (h : Un w p ty r l wr) : Un w p ty r l wr.drew := ⟨⟨h.grown.os, h.grown.tape, h.grown.output, h.grown.size, h.grown.block⟩, h.row⟩
theorem Un.put {w wr : World} {p : Nat} {ty : TypeId} {r : Array Value} {l : List Int} (h : Un w p ty r l wr) (i : Nat) (hi : i < l.length) (x : Int) : Un w p ty r (l.set i x) (wr.setCell ⟨p, i, none⟩ (.int .u32 x)) := by
  refine ⟨⟨h.grown.os, h.grown.tape, h.grown.output, ?_, fun k hk hne => ?_⟩, ?_⟩
  · exact Nat.le_trans h.grown.size (by simp [World.setCell])
  · rw [heap_setCell_other _ _ _ _ (by simpa using hne)]; exact h.grown.block k hk hne
  · rw [heap_setCell_same _ _ _ _ _ _ h.row, rowSt_set _ _ _ _ hi]
theorem Un.cell {w wr : World} {p : Nat} {ty : TypeId} {r : Array Value} {l : List Int} (h : Un w p ty r l wr) (i : Nat) (hi : i < l.length) : wr.cell? ⟨p, i, none⟩ = some (.int .u32 (l.getD i 0)) := by
  rw [cell_of_row _ _ _ _ _ _ h.row, rowSt_get _ _ _ hi]
theorem Un.free {w wr : World} {p : Nat} {ty : TypeId} {r : Array Value} {l : List Int} (h : Un w p ty r l wr) (i : Nat) : wr.frozen? ⟨p, i, none⟩ = false := frozen_of_row _ _ _ _ _ h.row
end Go.Proofs.YtpaffncdfldnmaaDoor
