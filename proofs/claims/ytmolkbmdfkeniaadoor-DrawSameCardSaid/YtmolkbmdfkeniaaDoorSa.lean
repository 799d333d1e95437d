import Derived.Test.YtmolkbmdfkeniaaDoorChecked
import Derived.WalkKit
import Derived.ProofKit
import Derived.OpenShut
import Derived.WalkLawsBesides
import Derived.Lib.Hide
import Derived.StillTailTactics
import Derived.BigRegion
import Derived.BigQuiet
import Derived.Deep.QuietTactic
import Derived.Laws.CopyOwn
-- from S
namespace Go.Proofs.YtmolkbmdfkeniaaDoor
open Go.RowKit
/-- x turned by k -/
def rotr (x k : Int) : Int := bits .or .u32 (x * 2 ^ (32 - k).toNat % 4294967296) (x / 2 ^ k.toNat)

theorem mask_neg : ∀ k : Nat, k < 32 → 1 ≤ k → bits .and .u64 (IntKind.u64.wrap (-(k : Int))) 31 = 32 - (k : Int) := by decide +kernel

/-- a row of n words, those of l first, then noughts -/
def rowOf (n : Nat) (l : List Int) : Array Value := ((l ++ List.replicate (n - l.length) 0).map (Value.int .u32)).toArray

theorem rowOf_size (n : Nat) (l : List Int) (h : l.length ≤ n) : (rowOf n l).size = n := by simp [rowOf]; omega

theorem rowOf_get (n : Nat) (l : List Int) (i : Nat) (h : i < l.length) : (rowOf n l)[i]? = some (.int .u32 (l.getD i 0)) := by
  simp [rowOf, List.getElem?_append, h, List.getD]

theorem rowOf_set (n : Nat) (l : List Int) (x : Int) (h : l.length < n) : (rowOf n l).setIfInBounds l.length (.int .u32 x) = rowOf n (l ++ [x]) := by
  apply Array.ext'
  simp only [rowOf, Array.toList_setIfInBounds, List.length_append, List.length_singleton]
  have e : n - l.length = (n - (l.length + 1)) + 1 := by omega
  rw [e, List.replicate_succ]
  simp

theorem rowOf_one (n : Nat) (l : List Int) : (rowOf n l).all (·.oneCell') = true := by
  simp [rowOf, Value.oneCell']

/-- a word out of four bytes -/
def word (b0 b1 b2 b3 : Int) : Int := bits .or .u32 (bits .or .u32 (bits .or .u32 (b0 % 4294967296 * 16777216 % 4294967296) (b1 % 4294967296 * 65536 % 4294967296)) (b2 % 4294967296 * 256 % 4294967296)) (b3 % 4294967296)
/-- the first n words of a block -/
def first (l : List Int) : Nat → List Int
  | 0 => []
  | n + 1 => first l n ++ [word (l.getD (4 * n) 0) (l.getD (4 * n + 1) 0) (l.getD (4 * n + 2) 0) (l.getD (4 * n + 3) 0)]
theorem first_length (l : List Int) : ∀ n, (first l n).length = n
  | 0 => rfl
  | n + 1 => by simp [first, first_length l n]
/-- s0 and s1 of a word -/
def sig0 (x : Int) : Int := bits .xor .u32 (bits .xor .u32 (rotr x 7) (rotr x 18)) (x / 8)
def sig1 (x : Int) : Int := bits .xor .u32 (bits .xor .u32 (rotr x 17) (rotr x 19)) (x / 1024)
/-- the word behind p: p has n + 16 words -/
def next (p : List Int) (n : Nat) : Int := (sig1 (p.getD (n + 14) 0) + p.getD (n + 9) 0 + sig0 (p.getD (n + 1) 0) + p.getD n 0) % 4294967296
/-- n more words behind b -/
def ext (b : List Int) : Nat → List Int
  | 0 => b
  | n + 1 => ext b n ++ [next (ext b n) n]
theorem ext_length (b : List Int) : ∀ n, (ext b n).length = b.length + n
  | 0 => rfl
  | n + 1 => by simp [ext, ext_length b n]; omega
/-- all words of a block -/
def words (l : List Int) : List Int := ext (first l 16) 48
theorem words_length (l : List Int) : (words l).length = 64 := by simp [words, ext_length, first_length]

theorem below_setRow {B : Nat} {a w : World} (h : Below B a w) {g : Nat} (hg : B ≤ g) (cs : Array Value) : Below B a (w.setRow g cs) :=
  h.trans ⟨rfl, rfl, rfl, by simp, fun k hk => setRow_other w g k cs (by omega)⟩

structure Sp (w : World) (row : Array Value) (wr : World) : Prop where
  below : Below w.heap.size w wr
  size : wr.heap.size = w.heap.size + 2
  res : wr.heap[w.heap.size]? = some (.cells (rowOf 64 []) 116 (0, 0))
  row : wr.heap[w.heap.size + 1]? = some (.cells row 116 (0, 0))
theorem Sp.start (w : World) (X Y : Array Value) (hX : X = rowOf 64 []) (hY : Y = rowOf 64 []) : Sp w (rowOf 64 []) ((w.alloc (.cells X 116)).alloc (.cells Y 116)) := by
  subst hX; subst hY
  exact ⟨((Below.refl _ _).alloc (Nat.le_refl _) _).alloc (by simp) _, by simp, heap_alloc2_old _ _ _, heap_alloc2_new _ _ _⟩
theorem Sp.drew {w wr : World} {row : Array Value} (h : Sp w row wr) : Sp w row wr.drew := ⟨h.below.drew, h.size, h.res, h.row⟩
theorem Sp.drewN {w wr : World} {row : Array Value} (h : Sp w row wr) (n : Nat) : Sp w row (wr.drewN n) := ⟨⟨h.below.os, h.below.tape, h.below.output, h.below.size, h.below.block⟩, h.size, h.res, h.row⟩
theorem Sp.put {w wr : World} {ls : List Int} (h : Sp w (rowOf 64 ls) wr) (hl : ls.length < 64) (k : Nat) (hk : k = ls.length) (x : Int) : Sp w (rowOf 64 (ls ++ [x])) (wr.setCell ⟨w.heap.size + 1, k, none⟩ (.int .u32 x)) := by
  subst hk
  refine ⟨h.below.setCell (by simp) _, ?_, ?_, ?_⟩
  · simp [World.setCell, h.size]
  · rw [heap_setCell_other _ _ _ _ (by simp)]; exact h.res
  · rw [heap_setCell_same _ _ _ _ _ _ h.row, rowOf_set _ _ _ hl]
theorem Sp.cell {w wr : World} {ls : List Int} (h : Sp w (rowOf 64 ls) wr) (i : Nat) (hi : i < ls.length) : wr.cell? ⟨w.heap.size + 1, i, none⟩ = some (.int .u32 (ls.getD i 0)) := by
  rw [cell_of_row _ _ _ _ _ _ h.row, rowOf_get _ _ _ hi]
theorem Sp.some {w wr : World} {ls : List Int} (h : Sp w (rowOf 64 ls) wr) (hl : ls.length ≤ 64) (i : Nat) (hi : i < 64) : ∃ v, wr.cell? ⟨w.heap.size + 1, i, none⟩ = some v := by
  rw [cell_of_row _ _ _ _ _ _ h.row]
  exact ⟨_, Array.getElem?_eq_getElem (by rw [rowOf_size _ _ hl]; exact hi)⟩
theorem Sp.free {w wr : World} {row : Array Value} (h : Sp w row wr) (i : Nat) : wr.frozen? ⟨w.heap.size + 1, i, none⟩ = false := frozen_of_row _ _ _ _ _ h.row
end Go.Proofs.YtmolkbmdfkeniaaDoor
-- from A
namespace Go.Proofs.YtmolkbmdfkeniaaDoor
open Go.ChangeShapes Go.WideShapes Go.ChangeAt Go.RowKit
theorem rot32 (x k : Int) (w : World) (h1 : 1 ≤ k) (h2 : k ≤ 31) :
    Calls Tryd.prog 76 #[.int .u32 x, .int .i64 (-k)] w fun e w' => e = .returned (.int .u32 (rotr x k)) ∧ w = w' := by
  have hm : bits .and .u64 (IntKind.u64.wrap (-k)) 31 = 32 - k := by
    obtain ⟨n, rfl⟩ := Int.eq_ofNat_of_zero_le (show 0 ≤ k by omega)
    exact mask_neg n (by omega) (by omega)
  have hp : IntKind.u64.wrap (32 - k) = 32 - k := by simp [IntKind.wrap, IntKind.bits, IntKind.signed]; omega
  have hs : IntKind.u64.wrap (32 - (32 - k)) = k := by simp [IntKind.wrap, IntKind.bits, IntKind.signed]; omega
  have b1 : 0 ≤ 32 - k := by omega
  have b2 : 32 - k ≤ 32 := by omega
  go_enter Tryd.func76, Tryd.ntmps76
  go_wp2
  go_ret
  exact ⟨rfl, rfl⟩
theorem rot31 (x k : Int) (w : World) (h1 : 1 ≤ k) (h2 : k ≤ 31) :
    Calls Tryd.prog 75 #[.int .u32 x, .int .i64 k] w fun e w' => e = .returned (.int .u32 (rotr x k)) ∧ w = w' := by
  go_enter Tryd.func75, Tryd.ntmps75
  go_wp2_with (go_at_call 76; refine (rot32 _ _ _ h1 h2).mono ?_; rintro e w' ⟨rfl, rfl⟩)
  go_ret
  exact ⟨rfl, rfl⟩
theorem rot36 (x k : Int) (w : World) (h1 : 1 ≤ k) (h2 : k ≤ 31) :
    Calls Tryd.prog 84 #[.int .u32 x, .int .i64 k] w fun e w' => e = .returned (.int .u32 (rotr x k)) ∧ w = w' := by
  go_enter Tryd.func84, Tryd.ntmps84
  go_wp2_with (go_at_call 76; refine (rot32 _ _ _ h1 h2).mono ?_; rintro e w' ⟨rfl, rfl⟩)
  go_ret
  exact ⟨rfl, rfl⟩


theorem size66 : (Tryd.prog.info? 116).map (·.size) = some 64 := by kernel_rfl

set_option maxRecDepth 100000 in
set_option maxHeartbeats 4000000 in
theorem spread0 (c o : Nat) (w : World) (l : List Int) (hl : l.length = 64) (hd : ∀ i, i < 64 → w.cell? ⟨c, o + i, none⟩ = some (.int .u8 (l.getD i 0))) (hc : c < w.heap.size) :
    Calls Tryd.prog 77 #[.slice (some ⟨c, o, none⟩) 64 64] w fun e w' => e = .returned (.agg (rowOf 64 (words l))) ∧ Below w.heap.size w w' := by
  have HL := Lib.hid hl
  have HD := Lib.hid hd
  clear hl hd
  go_enter Tryd.func77, Tryd.ntmps77
  go_wp2
  go_loopw [12] (fun i wr => ∃ k : Nat, k ≤ 16 ∧ i = .int .i64 k ∧ Sp w (rowOf 64 (first l k)) wr) (fun i _ => 16 - (intOf i).toNat)
  case atStart => exact ⟨0, by omega, rfl, Sp.start w _ _ (by kernel_rfl) (by kernel_rfl)⟩
  case round =>
    obtain ⟨k, hk, rfl, hsp⟩ := hrel
    by_cases hlt : k < 16
    · have d0 : wr.cell? ⟨c, o + 4 * k, none⟩ = _ := (hsp.below.cell (p := ⟨c, o + (4 * k), none⟩) hc).trans (HD.out (4 * k) (by omega))
      have d1 : wr.cell? ⟨c, o + 4 * k + 1, none⟩ = _ := (hsp.below.cell (p := ⟨c, o + (4 * k + 1), none⟩) hc).trans (HD.out (4 * k + 1) (by omega))
      have d2 : wr.cell? ⟨c, o + 4 * k + 2, none⟩ = _ := (hsp.below.cell (p := ⟨c, o + (4 * k + 2), none⟩) hc).trans (HD.out (4 * k + 2) (by omega))
      have d3 : wr.cell? ⟨c, o + 4 * k + 3, none⟩ = _ := (hsp.below.cell (p := ⟨c, o + (4 * k + 3), none⟩) hc).trans (HD.out (4 * k + 3) (by omega))
      have e4 : 4 * k + 4 - 4 * k = 4 := by omega
      have hfl := first_length l k
      obtain ⟨v0, s0⟩ := hsp.some (by omega) k (by omega)
      have f0 := hsp.free k
      have HF := Lib.hid hfl
      clear hfl
      go_wp2
      go_still_tail 23, (by kernel_rfl)
      change wpList _ _ _ _ _ wr.drew
      go_wp2
      go_roundw
      case rel => exact ⟨k + 1, by omega, by go_num, (hsp.put (by rw [HF.out]; omega) k HF.out.symm _).drew⟩
      case measure => simp [intOf]; omega
    · obtain rfl : k = 16 := by omega
      clear hk hlt
      have hfl := first_length l 16
      have HF := Lib.hid hfl
      clear hfl
      rw [show ((16 : Nat) : Int) = 16 from rfl]
      go_wp2
      go_loopw [7] (fun i wr => ∃ t : Nat, 16 ≤ t ∧ t ≤ 64 ∧ i = .int .i64 t ∧ Sp w (rowOf 64 (ext (first l 16) (t - 16))) wr) (fun i _ => 64 - (intOf i).toNat)
      case atStart => exact ⟨16, by omega, by omega, rfl, hsp⟩
      case round =>
        clear hsp
        obtain ⟨t, hk0, hk, rfl, hsp⟩ := hrel
        by_cases hlt : t < 64
        · have hel := ext_length (first l 16) (t - 16)
          rw [HF.out] at hel
          have hnext : ext (first l 16) (t - 16 + 1) = ext (first l 16) (t - 16) ++ [next (ext (first l 16) (t - 16)) (t - 16)] := rfl
          generalize ext (first l 16) (t - 16) = ws at hsp hel hnext
          have HE := Lib.hid hel
          have HN := Lib.hid hnext
          clear hel hnext
          obtain ⟨x1, h1⟩ : ∃ x, ws.getD (t - 15) 0 = x := ⟨_, rfl⟩
          obtain ⟨x2, h2⟩ : ∃ x, ws.getD (t - 2) 0 = x := ⟨_, rfl⟩
          obtain ⟨x3, h3⟩ : ∃ x, ws.getD (t - 7) 0 = x := ⟨_, rfl⟩
          obtain ⟨x4, h4⟩ : ∃ x, ws.getD (t - 16) 0 = x := ⟨_, rfl⟩
          have c1 := hsp.cell (t - 15) (by rw [HE.out]; omega)
          have c2 := hsp.cell (t - 2) (by rw [HE.out]; omega)
          rw [h1] at c1
          rw [h2] at c2
          have H1 := Lib.hid h1
          have H2 := Lib.hid h2
          have H3 := Lib.hid h3
          have H4 := Lib.hid h4
          clear h1 h2 h3 h4
          go_wp2
          go_quiet (fail)
          clear c1 c2
          have hsp2 := hsp.drewN nq
          clear hsp
          generalize wr.drewN nq = w2 at hsp2
          clear nq wr
          go_wp2_with (go_at_call 84; refine (rot36 _ _ _ (by omega) (by omega)).mono ?_; rintro e w' ⟨rfl, rfl⟩)
          have c3 := hsp2.cell (t - 7) (by rw [HE.out]; omega)
          have c4 := hsp2.cell (t - 16) (by rw [HE.out]; omega)
          obtain ⟨v0, s0⟩ := hsp2.some (by rw [HE.out]; omega) t (by omega)
          have f0 := hsp2.free t
          rw [H3.out] at c3
          rw [H4.out] at c4
          go_region
          go_wp2
          clear c3 c4 s0 f0
          go_roundw
          case rel =>
            refine ⟨t + 1, by omega, by omega, by go_num, ?_⟩
            rw [show t + 1 - 16 = t - 16 + 1 from by omega, HN.out]
            have := (hsp2.put (by rw [HE.out]; omega) t (by rw [HE.out]; omega) (next ws (t - 16))).drew
            unfold next sig0 sig1 at this
            rw [show t - 16 + 14 = t - 2 from by omega, show t - 16 + 9 = t - 7 from by omega, show t - 16 + 1 = t - 15 from by omega, H1.out, H2.out, H3.out, H4.out] at this
            unfold next sig0 sig1
            rw [show t - 16 + 14 = t - 2 from by omega, show t - 16 + 9 = t - 7 from by omega, show t - 16 + 1 = t - 15 from by omega, H1.out, H2.out, H3.out, H4.out]
            exact this
          case measure => simp [intOf]; omega
        · obtain rfl : t = 64 := by omega
          clear hk hk0 hlt
          have hws : ext (first l 16) (64 - 16) = words l := rfl
          rw [hws] at hsp
          have hwl := Lib.hid (words_length l)
          obtain ⟨ws, hW⟩ : ∃ ws, words l = ws := ⟨_, rfl⟩
          rw [hW] at hsp hwl
          have HW := Lib.hid hW
          clear hW
          have hz : (Tryd.prog.info? 116).map (·.size) = some (rowOf 64 ws).size := by rw [rowOf_size _ _ (by rw [hwl.out]; omega)]; exact size66
          have HZ := Lib.hid hz
          have HY := Lib.hid (show (rowOf 64 []).size = (rowOf 64 ws).size by rw [rowOf_size 64 ws (by rw [hwl.out]; omega)]; rfl)
          have HX := Lib.hid (rowOf_one 64 ws)
          clear hz hws
          rw [show ((64 : Nat) : Int) = 64 from rfl]
          go_wp2_with (first
            | (refine wpList_load_row rfl 116 (.tmp 4) rfl (w.heap.size + 1) rfl 116 (rowOf 64 ws) (0, 0) _ hsp.row Tryd.underlying116 rfl HZ.out ?_)
            | (refine wpList_store_row rfl 116 (.tmp 2) (.tmp 97) rfl w.heap.size (rowOf 64 ws) rfl rfl 116 _ hsp.res HZ.out HY.out HX.out ?_))
          refine bodyPost_ret (v := .agg (rowOf 64 ws)) (results_cell_row Tryd.results77 _ _ w.heap.size 116 (rowOf 64 ws) (0, 0) _ rfl (setRow_heap _ _ _ _ _ _ hsp.res) Tryd.underlying116 rfl HZ.out) rfl ⟨?_, below_setRow hsp.below (Nat.le_refl _) _⟩
          rw [HW.out]
end Go.Proofs.YtmolkbmdfkeniaaDoor
-- from T
namespace Go.Proofs.YtmolkbmdfkeniaaDoor
open Go.RowKit
theorem gen_world {Q : World → Prop} (w2 : World) (P : World → Prop) (h : P w2) (k : ∀ w, P w → Q w) : Q w2 := k w2 h
/-- the constants -/
def kc : List Int := [1116352408, 1899447441, 3049323471, 3921009573, 961987163, 1508970993, 2453635748, 2870763221, 3624381080, 310598401, 607225278, 1426881987, 1925078388, 2162078206, 2614888103, 3248222580, 3835390401, 4022224774, 264347078, 604807628, 770255983, 1249150122, 1555081692, 1996064986, 2554220882, 2821834349, 2952996808, 3210313671, 3336571891, 3584528711, 113926993, 338241895, 666307205, 773529912, 1294757372, 1396182291, 1695183700, 1986661051, 2177026350, 2456956037, 2730485921, 2820302411, 3259730800, 3345764771, 3516065817, 3600352804, 4094571909, 275423344, 430227734, 506948616, 659060556, 883997877, 958139571, 1322822218, 1537002063, 1747873779, 1955562222, 2024104815, 2227730452, 2361852424, 2428436474, 2756734187, 3204031479, 3329325298]
/-- the state -/
structure St where
  a : Int
  b : Int
  c : Int
  d : Int
  e : Int
  f : Int
  g : Int
  h : Int
def St.list (s : St) : List Int := [s.a, s.b, s.c, s.d, s.e, s.f, s.g, s.h]
def start : St := ⟨1779033703, 3144134277, 1013904242, 2773480762, 1359893119, 2600822924, 528734635, 1541459225⟩
def bsig1 (x : Int) : Int := bits .xor .u32 (bits .xor .u32 (rotr x 6) (rotr x 11)) (rotr x 25)
def bsig0 (x : Int) : Int := bits .xor .u32 (bits .xor .u32 (rotr x 2) (rotr x 13)) (rotr x 22)

/-- a block that begins with the words of l -/
def rowSt (l : List Int) (r : Array Value) : Array Value := (l.map (Value.int .u32)).toArray ++ r
theorem rowSt_get (l : List Int) (r : Array Value) (i : Nat) (h : i < l.length) : (rowSt l r)[i]? = some (.int .u32 (l.getD i 0)) := by
  simp [rowSt, Array.getElem?_append, h, List.getD]
theorem rowSt_set (l : List Int) (r : Array Value) (i : Nat) (x : Int) (h : i < l.length) : (rowSt l r).setIfInBounds i (.int .u32 x) = rowSt (l.set i x) r := by
  apply Array.ext'
  simp [rowSt, h]

/-- one round -/
def choice (e f g : Int) : Int := bits .xor .u32 (bits .and .u32 e f) (bits .and .u32 (bits .xor .u32 4294967295 e) g)
def majority (a b c : Int) : Int := bits .xor .u32 (bits .xor .u32 (bits .and .u32 a b) (bits .and .u32 a c)) (bits .and .u32 b c)
def St.pp (s : St) (k x : Int) : Int := (s.h + bsig1 s.e + choice s.e s.f s.g + k + x) % 4294967296
def St.qq (s : St) : Int := (bsig0 s.a + majority s.a s.b s.c) % 4294967296
def St.step (s : St) (k x : Int) : St := ⟨(s.pp k x + s.qq) % 4294967296, s.a, s.b, s.c, (s.d + s.pp k x) % 4294967296, s.e, s.f, s.g⟩
/-- n rounds -/
def St.rounds (s : St) (ws : List Int) : Nat → St
  | 0 => s
  | n + 1 => (s.rounds ws n).step (kc.getD n 0) (ws.getD n 0)

/-- the world while a block turns the state: g is the block of the words -/
structure Tn (w : World) (g : Nat) (ws : List Int) (wr : World) : Prop where
  below : Below w.heap.size w wr
  ge : w.heap.size ≤ g
  row : wr.heap[g]? = some (.cells (rowOf 64 ws) 116 (0, 0))
theorem Tn.made {w w1 : World} (hb : Below w.heap.size w w1) (X : Array Value) (ws : List Int) : Tn w w1.heap.size ws ((w1.alloc (.cells X 116)).setRow w1.heap.size (rowOf 64 ws)) :=
  ⟨below_setRow (hb.alloc hb.size _) hb.size _, hb.size, setRow_heap _ _ _ _ _ _ (heap_alloc_new _ _)⟩
theorem Tn.word {w wr : World} {g : Nat} {ws : List Int} (h : Tn w g ws wr) (i : Nat) (hi : i < ws.length) : wr.cell? ⟨g, i, none⟩ = some (.int .u32 (ws.getD i 0)) := by
  rw [cell_of_row _ _ _ _ _ _ h.row, rowOf_get _ _ _ hi]
theorem Tn.drewN {w wr : World} {g : Nat} {ws : List Int} (h : Tn w g ws wr) (n : Nat) : Tn w g ws (wr.drewN n) :=
  ⟨⟨h.below.os, h.below.tape, h.below.output, h.below.size, h.below.block⟩, h.ge, h.row⟩

/-- an array's value, at a place -/
theorem run_index_row {P : Program} (t e : TypeId) (n : Nat) (k : IntKind) (ht : P.underlying t = some (.array n e)) (he : P.underlying e = some (.int k)) (hs : (P.info? e).map (·.size) = some 1)
    (cs : Array Value) (i : Nat) (hi : i < n) (v : Value) (hv : cs[i]? = some v) (w : World) : (Instr.index t (.agg cs) (.int .i64 (i : Int))).run P w = .ok v w := by
  cases hq : P.info? e with
  | none => simp [hq] at hs
  | some j =>
    have hj : j.size = 1 := by simpa [hq] using hs
    simp [Instr.index, asIntOf, run_underlying ht, part, isAgg, run_underlying he, sizeOf, typeInfo, hq, hj, hi, hv]

/-- the words of b added to those of a, the first n -/
def mix (a b : List Int) : Nat → List Int
  | 0 => a
  | n + 1 => (mix a b n).set n ((a.getD n 0 + b.getD n 0) % 4294967296)
theorem mix_length (a b : List Int) : ∀ n, (mix a b n).length = a.length
  | 0 => rfl
  | n + 1 => by simp [mix, mix_length a b n]
theorem mix_get (a b : List Int) : ∀ (n i : Nat), n ≤ i → (mix a b n).getD i 0 = a.getD i 0
  | 0, _, _ => rfl
  | n + 1, i, h => by
    rw [mix, ← mix_get a b n i (by omega)]
    simp [show ¬ n = i by omega]
def St.plus (s x : St) : St := ⟨(s.a + x.a) % 4294967296, (s.b + x.b) % 4294967296, (s.c + x.c) % 4294967296, (s.d + x.d) % 4294967296, (s.e + x.e) % 4294967296, (s.f + x.f) % 4294967296, (s.g + x.g) % 4294967296, (s.h + x.h) % 4294967296⟩
theorem mix_all (s x : St) : mix s.list x.list 8 = (s.plus x).list := rfl
/-- a block turns the state -/
def St.turn (s : St) (l : List Int) : St := s.plus (s.rounds (words l) 64)

/-- the world while the state is written -/
structure Un (w : World) (p : Nat) (ty : TypeId) (r : Array Value) (l : List Int) (wr : World) : Prop where
  grown : w.grownBy wr (some p)
  row : wr.heap[p]? = some (.cells (rowSt l r) ty (0, 0))
theorem Un.start {w wr : World} {g : Nat} {ws : List Int} (h : Tn w g ws wr) {p : Nat} {ty : TypeId} {r : Array Value} {l : List Int} (hp : w.heap[p]? = some (.cells (rowSt l r) ty (0, 0))) : Un w p ty r l wr :=
  ⟨⟨h.below.os, h.below.tape, h.below.output, h.below.size, fun k hk _ => h.below.block k hk⟩, (h.below.block p (Array.getElem?_eq_some_iff.1 hp).1).trans hp⟩
theorem Un.drew {w wr : World} {p : Nat} {ty : TypeId} {r : Array Value} {l : List Int} (h : Un w p ty r l wr) : Un w p ty r l wr.drew := ⟨⟨h.grown.os, h.grown.tape, h.grown.output, h.grown.size, h.grown.block⟩, h.row⟩
theorem Un.put {w wr : World} {p : Nat} {ty : TypeId} {r : Array Value} {l : List Int} (h : Un w p ty r l wr) (i : Nat) (hi : i < l.length) (x : Int) : Un w p ty r (l.set i x) (wr.setCell ⟨p, i, none⟩ (.int .u32 x)) := by
  refine ⟨⟨h.grown.os, h.grown.tape, h.grown.output, ?_, fun k hk hne => ?_⟩, ?_⟩
  · exact Nat.le_trans h.grown.size (by simp [World.setCell])
  · rw [heap_setCell_other _ _ _ _ (by simpa using hne)]; exact h.grown.block k hk hne
  · rw [heap_setCell_same _ _ _ _ _ _ h.row, rowSt_set _ _ _ _ hi]
theorem Un.cell {w wr : World} {p : Nat} {ty : TypeId} {r : Array Value} {l : List Int} (h : Un w p ty r l wr) (i : Nat) (hi : i < l.length) : wr.cell? ⟨p, i, none⟩ = some (.int .u32 (l.getD i 0)) := by
  rw [cell_of_row _ _ _ _ _ _ h.row, rowSt_get _ _ _ hi]
theorem Un.free {w wr : World} {p : Nat} {ty : TypeId} {r : Array Value} {l : List Int} (h : Un w p ty r l wr) (i : Nat) : wr.frozen? ⟨p, i, none⟩ = false := frozen_of_row _ _ _ _ _ h.row
end Go.Proofs.YtmolkbmdfkeniaaDoor
-- from B
namespace Go.Proofs.YtmolkbmdfkeniaaDoor
open Go.ChangeShapes Go.WideShapes Go.ChangeAt Go.RowKit
theorem size43 : (Tryd.prog.info? 86).map (·.size) = some 1 := by kernel_rfl

set_option maxRecDepth 100000 in
set_option maxHeartbeats 4000000 in
theorem turn0 (p c o : Nat) (w : World) (s : St) (r : Array Value) (ty : TypeId) (l : List Int) (hl : l.length = 64) (hd : ∀ i, i < 64 → w.cell? ⟨c, o + i, none⟩ = some (.int .u8 (l.getD i 0)))
    (hp : w.heap[p]? = some (.cells (rowSt s.list r) ty (0, 0))) (hk : ∀ i, i < 64 → w.cell? ⟨1, i, none⟩ = some (.int .u32 (kc.getD i 0))) :
    Calls Tryd.prog 66 #[.pointer (some ⟨p, 0, none⟩), .slice (some ⟨c, o, none⟩) 64 64] w fun e w' => e = .returned (.tuple #[]) ∧ Un w p ty r (s.turn l).list w' := by
  have hc : c < w.heap.size := block_lt_of_cell (hd 0 (by omega))
  have hpl : p < w.heap.size := (Array.getElem?_eq_some_iff.1 hp).1
  have h1l : 1 < w.heap.size := block_lt_of_cell (hk 0 (by omega))
  have HD := Lib.hid hd
  have HL := Lib.hid hl
  have HP := Lib.hid hp
  have HK := Lib.hid hk
  clear hd hl hp hk
  go_enter Tryd.func66, Tryd.ntmps66
  go_wp2_with fail
  refine (spread0 c o _ l HL.out HD.out hc).mono ?_
  rintro e w1 ⟨rfl, hb1⟩
  have hwl := Lib.hid (words_length l)
  obtain ⟨ws, hW⟩ : ∃ ws, words l = ws := ⟨_, rfl⟩
  rw [hW] at hwl
  rw [hW]
  have HW := Lib.hid hW
  clear hW
  have HZ := Lib.hid (show (Tryd.prog.info? 116).map (·.size) = some (rowOf 64 ws).size by rw [rowOf_size _ _ (by rw [hwl.out]; omega)]; exact size66)
  have HX := Lib.hid (rowOf_one 64 ws)
  go_wp2_with (refine wpList_store_row rfl 116 (.tmp 5) (.tmp 24) rfl w1.heap.size (rowOf 64 ws) rfl rfl 116 _ (heap_alloc_new _ _) HZ.out ?_ HX.out ?_)
  case refine_1 => rw [rowOf_size 64 ws (by rw [hwl.out]; omega)]; rfl
  simp only [Act.put]
  refine gen_world (Q := fun w => Code.wp _ _ _ _ w) _ (Tn w w1.heap.size ws) (Tn.made hb1 _ ws) ?_
  intro w2 ht
  generalize w1.heap.size = g at ht ⊢
  clear hb1 HX HZ
  have hbl := ht.below
  have q0 : w2.cell? ⟨p, 0, none⟩ = some (.int .u32 s.a) := (hbl.cell hpl).trans ((cell_of_row _ _ _ _ _ _ HP.out).trans (rowSt_get s.list r 0 (by show _ < 8; omega)))
  have q1 : w2.cell? ⟨p, 1, none⟩ = some (.int .u32 s.b) := (hbl.cell hpl).trans ((cell_of_row _ _ _ _ _ _ HP.out).trans (rowSt_get s.list r 1 (by show _ < 8; omega)))
  have q2 : w2.cell? ⟨p, 2, none⟩ = some (.int .u32 s.c) := (hbl.cell hpl).trans ((cell_of_row _ _ _ _ _ _ HP.out).trans (rowSt_get s.list r 2 (by show _ < 8; omega)))
  have q3 : w2.cell? ⟨p, 3, none⟩ = some (.int .u32 s.d) := (hbl.cell hpl).trans ((cell_of_row _ _ _ _ _ _ HP.out).trans (rowSt_get s.list r 3 (by show _ < 8; omega)))
  have q4 : w2.cell? ⟨p, 4, none⟩ = some (.int .u32 s.e) := (hbl.cell hpl).trans ((cell_of_row _ _ _ _ _ _ HP.out).trans (rowSt_get s.list r 4 (by show _ < 8; omega)))
  have q5 : w2.cell? ⟨p, 5, none⟩ = some (.int .u32 s.f) := (hbl.cell hpl).trans ((cell_of_row _ _ _ _ _ _ HP.out).trans (rowSt_get s.list r 5 (by show _ < 8; omega)))
  have q6 : w2.cell? ⟨p, 6, none⟩ = some (.int .u32 s.g) := (hbl.cell hpl).trans ((cell_of_row _ _ _ _ _ _ HP.out).trans (rowSt_get s.list r 6 (by show _ < 8; omega)))
  have q7 : w2.cell? ⟨p, 7, none⟩ = some (.int .u32 s.h) := (hbl.cell hpl).trans ((cell_of_row _ _ _ _ _ _ HP.out).trans (rowSt_get s.list r 7 (by show _ < 8; omega)))
  clear hbl
  go_quiet (fail)
  clear q0 q1 q2 q3 q4 q5 q6 q7
  have ht3 := ht.drewN nq
  clear ht
  generalize w2.drewN nq = w3 at ht3
  clear nq w2
  go_wp2
  go_loopw [57, 6, 7, 8, 9, 10, 11, 12, 13] (fun i va vb vc vd ve vf vg vh wr => ∃ (t : Nat) (x : St), t ≤ 64 ∧ i = .int .i64 t ∧ x = s.rounds ws t ∧ va = .int .u32 x.a ∧ vb = .int .u32 x.b ∧ vc = .int .u32 x.c ∧ vd = .int .u32 x.d ∧ ve = .int .u32 x.e ∧ vf = .int .u32 x.f ∧ vg = .int .u32 x.g ∧ vh = .int .u32 x.h ∧ Tn w g ws wr) (fun i _ _ _ _ _ _ _ _ _ => 64 - (intOf i).toNat)
  case atStart => exact ⟨0, s, by omega, rfl, rfl, rfl, rfl, rfl, rfl, rfl, rfl, rfl, rfl, ht3⟩
  case round =>
    clear ht3
    obtain ⟨t, x, hk, rfl, hx, rfl, rfl, rfl, rfl, rfl, rfl, rfl, rfl, ht⟩ := hrel
    have HXx := Lib.hid hx
    clear hx
    by_cases hlt : t < 64
    · obtain ⟨y, h1⟩ : ∃ y, ws.getD t 0 = y := ⟨_, rfl⟩
      obtain ⟨k, h2⟩ : ∃ y, kc.getD t 0 = y := ⟨_, rfl⟩
      have c1 := ht.word t (by rw [hwl.out]; omega)
      rw [h1] at c1
      have c2 := (ht.below.cell (p := ⟨1, t, none⟩) h1l).trans (HK.out t hlt)
      rw [h2] at c2
      have H1 := Lib.hid h1
      have H2 := Lib.hid h2
      clear h1 h2
      have hdt : decide ((t : Int) < 64) = true := by simp; omega
      have hif : (if IntKind.u32.signed = true then (-1 : Int) else IntKind.u32.max) = 4294967295 := by decide
      go_wp2_with fail
      refine (rot31 _ _ _ (by omega) (by omega)).mono ?_
      rintro e w' ⟨rfl, rfl⟩
      go_wp2_with fail
      refine (rot31 _ _ _ (by omega) (by omega)).mono ?_
      rintro e w' ⟨rfl, rfl⟩
      go_wp2_with fail
      refine (rot31 _ _ _ (by omega) (by omega)).mono ?_
      rintro e w' ⟨rfl, rfl⟩
      go_wp2_with fail
      refine (rot31 _ _ _ (by omega) (by omega)).mono ?_
      rintro e w' ⟨rfl, rfl⟩
      go_wp2_with fail
      refine (rot31 _ _ _ (by omega) (by omega)).mono ?_
      rintro e w' ⟨rfl, rfl⟩
      go_wp2_with fail
      refine (rot31 _ _ _ (by omega) (by omega)).mono ?_
      rintro e w' ⟨rfl, rfl⟩
      simp only []
      repeat (first | go_values | go_skip | go_guarded | go_step | go_upon)
      go_quiet (fail)
      clear c1 c2
      have ht2 := ht.drewN nq
      clear ht
      generalize wr.drewN nq = w4 at ht2
      clear nq wr
      repeat (first | go_values | go_skip | go_guarded | go_step | go_upon)
      go_roundw
      case rel => exact ⟨t + 1, x.step k y, by omega, by go_num, by rw [St.rounds, ← HXx.out, H1.out, H2.out], rfl, rfl, rfl, rfl, rfl, rfl, rfl, rfl, ht2⟩
      case measure => simp [intOf]; omega
    · obtain rfl : t = 64 := by omega
      clear hk hlt
      rw [show ((64 : Nat) : Int) = 64 from rfl]
      have hdf : decide ((64 : Int) < 64) = false := by decide
      have hu := Un.start ht HP.out
      clear ht
      go_wp2
      clear hdf
      go_loopw [139] (fun i wr => ∃ n : Nat, n ≤ 8 ∧ i = .int .i64 n ∧ Un w p ty r (mix s.list x.list n) wr) (fun i _ => 8 - (intOf i).toNat)
      case atStart => exact ⟨0, by omega, rfl, hu⟩
      case round =>
        clear hu
        obtain ⟨n, hn, rfl, hu⟩ := hrel
        by_cases hlt : n < 8
        · have hdt : decide ((n : Int) < 8) = true := by simp; omega
          have hml : (mix s.list x.list n).length = 8 := mix_length _ _ _
          have HM := Lib.hid hml
          have hsn : mix s.list x.list (n + 1) = (mix s.list x.list n).set n ((s.list.getD n 0 + x.list.getD n 0) % 4294967296) := rfl
          have HS := Lib.hid hsn
          clear hml hsn
          have c1 := hu.cell n (by rw [HM.out]; omega)
          rw [mix_get _ _ _ _ (Nat.le_refl n)] at c1
          have hxi : (#[.int .u32 x.a, .int .u32 x.b, .int .u32 x.c, .int .u32 x.d, .int .u32 x.e, .int .u32 x.f, .int .u32 x.g, .int .u32 x.h] : Array Value)[n]? = some (.int .u32 (x.list.getD n 0)) := rowSt_get x.list #[] n (by show _ < 8; omega)
          obtain ⟨y, h1⟩ : ∃ y, s.list.getD n 0 = y := ⟨_, rfl⟩
          obtain ⟨z, h2⟩ : ∃ y, x.list.getD n 0 = y := ⟨_, rfl⟩
          rw [h1] at c1
          rw [h2] at hxi
          have hix := run_index_row (P := Tryd.prog) 87 86 8 .u32 Tryd.underlying87 Tryd.underlying86 size43 _ n hlt _ hxi
          have f1 := hu.free n
          have H1 := Lib.hid h1
          have H2 := Lib.hid h2
          clear h1 h2 hxi
          go_wp2_with fail
          go_region
          repeat (first | go_values | go_skip | go_guarded | go_step | go_upon)
          clear c1 f1 hix
          go_roundw
          case rel =>
            refine ⟨n + 1, by omega, by go_num, ?_⟩
            rw [HS.out, H1.out, H2.out]
            exact (hu.put n (by rw [HM.out]; omega) _).drew
          case measure => simp [intOf]; omega
        · obtain rfl : n = 8 := by omega
          clear hlt hn
          rw [show ((8 : Nat) : Int) = 8 from rfl]
          have hdf : decide ((8 : Int) < 8) = false := by decide
          rw [mix_all] at hu
          have hX : s.plus x = s.turn l := by rw [HXx.out, ← HW.out]; rfl
          rw [hX] at hu
          go_wp2
          go_end0
          exact ⟨rfl, hu⟩
end Go.Proofs.YtmolkbmdfkeniaaDoor
-- from U
namespace Go.Proofs.YtmolkbmdfkeniaaDoor
open Go.RowKit
/-- the first m blocks of l turn the state -/
def blocks : Nat → St → List Int → St
  | 0, s, _ => s
  | m + 1, s, l => blocks m (s.turn (l.take 64)) (l.drop 64)
/-- all whole blocks of l turn the state -/
def absorb (s : St) (l : List Int) : St := blocks (l.length / 64) s l
/-- the bytes behind the whole blocks -/
def rest (l : List Int) : List Int := l.drop (64 * (l.length / 64))
theorem absorb_more (s : St) (l : List Int) (h : 64 ≤ l.length) : absorb s l = absorb (s.turn (l.take 64)) (l.drop 64) := by
  have e : l.length / 64 = (l.length - 64) / 64 + 1 := by omega
  simp only [absorb, List.length_drop, e, blocks]
theorem rest_more (l : List Int) (h : 64 ≤ l.length) : rest l = rest (l.drop 64) := by
  have e : l.length / 64 = (l.length - 64) / 64 + 1 := by omega
  simp only [rest, List.length_drop, List.drop_drop, e]
  congr 1
  omega
theorem absorb_few (s : St) (l : List Int) (h : l.length < 64) : absorb s l = s := by
  have e : l.length / 64 = 0 := by omega
  simp only [absorb, e, blocks]
theorem rest_few (l : List Int) (h : l.length < 64) : rest l = l := by
  have e : l.length / 64 = 0 := by omega
  simp [rest, e]
theorem rest_length (l : List Int) : (rest l).length = l.length % 64 := by
  simp only [rest, List.length_drop]; omega

theorem Un.trans {w w1 w2 : World} {p : Nat} {ty : TypeId} {r : Array Value} {l l' : List Int} (h : Un w p ty r l w1) (k : Un w1 p ty r l' w2) : Un w p ty r l' w2 :=
  ⟨⟨k.grown.os.trans h.grown.os, k.grown.tape.trans h.grown.tape, k.grown.output.trans h.grown.output, Nat.le_trans h.grown.size k.grown.size,
    fun i hi hne => (k.grown.block i (Nat.lt_of_lt_of_le hi h.grown.size) hne).trans (h.grown.block i hi hne)⟩, k.row⟩

/-- the bytes of l lie at c from o on -/
def Lies (w : World) (c o : Nat) (l : List Int) : Prop := ∀ i, i < l.length → w.cell? ⟨c, o + i, none⟩ = some (.int .u8 (l.getD i 0))
/-- the constants lie where they were laid -/
def Kc (w : World) : Prop := ∀ i, i < 64 → w.cell? ⟨1, i, none⟩ = some (.int .u32 (kc.getD i 0))
theorem Lies.drop {w : World} {c o : Nat} {l : List Int} (h : Lies w c o l) (k : Nat) : Lies w c (o + k) (l.drop k) := by
  intro i hi
  have := h (k + i) (by simp at hi; omega)
  rw [show o + k + i = o + (k + i) from by omega, this]
  simp [List.getElem?_drop]
theorem Lies.take {w : World} {c o : Nat} {l : List Int} (h : Lies w c o l) (k : Nat) : Lies w c o (l.take k) := by
  intro i hi
  have hi' : i < k ∧ i < l.length := by simp at hi; omega
  rw [h i hi'.2]
  simp [hi'.1]

/-- what a turn of the state leaves: bytes that do not lie over the state -/
theorem Un.kept {w w1 : World} {p : Nat} {ty : TypeId} {r : Array Value} {l0 l1 : List Int} (hl0 : l0.length = 8) (hl1 : l1.length = 8) (h0 : w.heap[p]? = some (.cells (rowSt l0 r) ty (0, 0))) (k : Un w p ty r l1 w1)
    {a : Addr} {v : Value} (ha : a.block ≠ p ∨ 8 ≤ a.off) (hs : a.spot = none) (h : w.cell? a = some v) : w1.cell? a = some v := by
  by_cases hb : a.block = p
  · have ho : 8 ≤ a.off := by omega
    obtain ⟨b, o, s⟩ := a
    simp only at hb ho hs
    subst hb hs
    rw [cell_of_row _ _ _ _ _ _ h0] at h
    rw [cell_of_row _ _ _ _ _ _ k.row]
    simp [rowSt, Array.getElem?_append, hl0, hl1, show ¬ o < 8 by omega] at h ⊢
    exact h
  · exact k.grown.cell h (by simpa using hb)
end Go.Proofs.YtmolkbmdfkeniaaDoor
-- from C
namespace Go.Proofs.YtmolkbmdfkeniaaDoor
open Go.ChangeShapes Go.WideShapes Go.ChangeAt Go.RowKit
theorem Un.lies {w w1 : World} {p : Nat} {ty : TypeId} {r : Array Value} {s0 s1 : St} (h0 : w.heap[p]? = some (.cells (rowSt s0.list r) ty (0, 0))) (k : Un w p ty r s1.list w1)
    {c o : Nat} {l : List Int} (ha : c ≠ p ∨ 8 ≤ o) (h : Lies w c o l) : Lies w1 c o l :=
  fun i hi => Un.kept rfl rfl h0 k (a := ⟨c, o + i, none⟩) (by simp only; omega) rfl (h i hi)
theorem Un.kc {w w1 : World} {p : Nat} {ty : TypeId} {r : Array Value} {l : List Int} (k : Un w p ty r l w1) (hp : p ≠ 1) (h : Kc w) : Kc w1 :=
  fun i hi => k.grown.cell (h i hi) (by simp only [ne_eq, Option.some.injEq]; omega)

/-- what takeBlocks answers: a slice of the rest -/
def Rest (w : World) (p : Nat) (ty : TypeId) (r : Array Value) (s : St) (c o : Nat) (l : List Int) (e : Ending) (w' : World) : Prop :=
  ∃ o' cap' : Nat, e = .returned (.slice (some ⟨c, o', none⟩) (rest l).length cap') ∧ o ≤ o' ∧ (rest l).length ≤ cap' ∧ cap' ≤ maxLen ∧ Lies w' c o' (rest l) ∧ Un w p ty r (absorb s l).list w'

def sliceLen : Value → Nat | .slice _ n _ => n | _ => 0
/-- how the loop of takeBlocks stands -/
def Rel (w : World) (p : Nat) (ty : TypeId) (r : Array Value) (s : St) (c o : Nat) (l : List Int) (v : Value) (wr : World) : Prop :=
  ∃ (s' : St) (l' : List Int) (o' cap' : Nat), v = .slice (some ⟨c, o', none⟩) l'.length cap' ∧ absorb s' l' = absorb s l ∧ rest l' = rest l ∧ o ≤ o' ∧ l'.length ≤ cap' ∧ cap' ≤ maxLen ∧ Lies wr c o' l' ∧ Un w p ty r s'.list wr

set_option maxRecDepth 100000 in
set_option maxHeartbeats 4000000 in
theorem take_some (p c o cap : Nat) (w : World) (s : St) (r : Array Value) (ty : TypeId) (l : List Int) (hlc : l.length ≤ cap) (hm : cap ≤ maxLen) (hd : Lies w c o l) (hdis : c ≠ p ∨ 8 ≤ o)
    (hp : w.heap[p]? = some (.cells (rowSt s.list r) ty (0, 0))) (hk : Kc w) (hp1 : p ≠ 1) :
    Calls Tryd.prog 51 #[.pointer (some ⟨p, 0, none⟩), .slice (some ⟨c, o, none⟩) l.length cap] w (Rest w p ty r s c o l) := by
  have hu0 : Un w p ty r s.list w := ⟨⟨rfl, rfl, rfl, Nat.le_refl _, fun _ _ _ => rfl⟩, hp⟩
  have hr0 : Rel w p ty r s c o l (.slice (some ⟨c, o, none⟩) l.length cap) w := ⟨s, l, o, cap, rfl, rfl, rfl, Nat.le_refl _, hlc, hm, hd, hu0⟩
  have HK : Hid (Kc w) := hk
  clear hu0 hd hp hk hlc hm
  generalize hn : l.length = n at hr0 ⊢
  clear hn
  go_enter Tryd.func51, Tryd.ntmps51
  go_wp2
  go_step3
  go_wp2
  go_step3
  go_wp2
  go_loopw [1] (fun v wr => Rel w p ty r s c o l v wr) (fun v _ => sliceLen v)
  case atStart => exact hr0
  case round =>
    clear hr0
    obtain ⟨s', l', o', cap', rfl, ha, hrs, ho, hc', hm', hd, hu⟩ := hrel
    have HA := Lib.hid ha
    have HR := Lib.hid hrs
    clear ha hrs
    obtain ⟨n', hn'⟩ : ∃ n', l'.length = n' := ⟨_, rfl⟩
    have HN := Lib.hid hn'
    rw [hn'] at hc' ⊢
    clear hn'
    unfold maxLen at hm'
    by_cases hlt : n' < 64
    · have hdt : decide ((n' : Int) < 64) = true := by simp; omega
      go_wp2
      try rw [Exit.noGoto_ret]
      go_ret
      rw [← HN.out]
      have e1 := rest_few l' (by rw [HN.out]; exact hlt)
      have e2 := absorb_few s' l' (by rw [HN.out]; exact hlt)
      rw [HR.out] at e1
      rw [HA.out] at e2
      subst e2
      rw [← e1] at hd ⊢
      refine ⟨o', cap', rfl, ho, ?_, hm', hd, hu⟩
      rw [e1, HN.out]; exact hc'
    · have hdt : decide ((n' : Int) < 64) = false := by simp; omega
      have h64 : 64 ≤ l'.length := by rw [HN.out]; omega
      have hd1 := hd.take 64
      have hd2 := hd.drop 64
      have hl1 : (l'.take 64).length = 64 := by simp; omega
      have hl2 : (l'.drop 64).length = n' - 64 := by rw [List.length_drop, HN.out]
      have ha2 := absorb_more s' l' h64
      have hr2 := rest_more l' h64
      rw [HA.out] at ha2
      rw [HR.out] at hr2
      have H1 := Lib.hid hl1
      have H2 := Lib.hid hl2
      have HA2 := Lib.hid ha2
      have HR2 := Lib.hid hr2
      clear HA HR ha2 hr2 hl1 hl2 hd
      have hk' : Kc wr := hu.kc hp1 HK.out
      have HK' : Hid (Kc wr) := hk'
      clear hk'
      by_cases hcap : cap' = 64
      · subst hcap
        obtain rfl : n' = 64 := by omega
        rw [show ((64 : Nat) : Int) = 64 from rfl] at hdt
        clear hlt hc'
        go_wp2_with fail
        refine (turn0 p c o' wr s' r ty (l'.take 64) H1.out (fun i hi => hd1 i (by rw [H1.out]; exact hi)) hu.row HK'.out).mono ?_
        rintro e w1 ⟨rfl, hu1⟩
        go_wp2
        go_roundw
        case rel =>
          have hnil : l'.drop 64 = [] := List.eq_nil_of_length_eq_zero H2.out
          exact ⟨s'.turn (l'.take 64), l'.drop 64, o', 0, by rw [hnil]; rfl, HA2.out.symm, HR2.out.symm, ho, by rw [hnil]; exact Nat.le_refl _, by unfold maxLen; omega, by rw [hnil]; intro i hi; simp at hi, hu.trans hu1⟩
        case measure => simp [sliceLen]
      · have hlc : 64 < cap' := by omega
        go_wp2_with fail
        refine (turn0 p c o' wr s' r ty (l'.take 64) H1.out (fun i hi => hd1 i (by rw [H1.out]; exact hi)) hu.row HK'.out).mono ?_
        rintro e w1 ⟨rfl, hu1⟩
        go_wp2
        go_roundw
        case rel =>
          exact ⟨s'.turn (l'.take 64), l'.drop 64, o' + 64, cap' - 64, by rw [H2.out], HA2.out.symm, HR2.out.symm, by omega, by rw [H2.out]; omega, by unfold maxLen; omega, hu1.lies hu.row (by rcases hdis with h | h <;> omega) hd2, hu.trans hu1⟩
        case measure => simp [sliceLen]; omega

end Go.Proofs.YtmolkbmdfkeniaaDoor
-- from V
namespace Go.Proofs.YtmolkbmdfkeniaaDoor
open Go.RowKit
/-- a row of bytes -/
def rowB (l : List Int) : Array Value := (l.map (Value.int .u8)).toArray
theorem rowB_size (l : List Int) : (rowB l).size = l.length := by simp [rowB]
theorem rowB_get (l : List Int) (i : Nat) (h : i < l.length) : (rowB l)[i]? = some (.int .u8 (l.getD i 0)) := by
  simp [rowB, h, List.getD]
theorem rowB_set (l : List Int) (i : Nat) (x : Int) : (rowB l).setIfInBounds i (.int .u8 x) = rowB (l.set i x) := by
  apply Array.ext'
  simp [rowB]
theorem rowB_one (l : List Int) : (rowB l).all (·.oneCell') = true := by
  simp [rowB, Value.oneCell']

/-- the digest's bytes, those of the first n words -/
def dig (s : List Int) : Nat → List Int
  | 0 => List.replicate 32 0
  | n + 1 => ((((dig s n).set (4 * n) (s.getD n 0 / 16777216 % 256)).set (4 * n + 1) (s.getD n 0 / 65536 % 256)).set (4 * n + 2) (s.getD n 0 / 256 % 256)).set (4 * n + 3) (s.getD n 0 % 256)
theorem dig_length (s : List Int) : ∀ n, (dig s n).length = 32
  | 0 => rfl
  | n + 1 => by simp [dig, dig_length s n]
def St.digest (s : St) : List Int := dig s.list 8

/-- the world while bytes are filled into a new block g: all below w's size is as it was -/
structure Fl (w : World) (g : Nat) (t : TypeId) (l : List Int) (wr : World) : Prop where
  below : Below w.heap.size w wr
  ge : w.heap.size ≤ g
  row : wr.heap[g]? = some (.cells (rowB l) t (0, 0))
theorem Fl.drew {w wr : World} {g : Nat} {t : TypeId} {l : List Int} (h : Fl w g t l wr) : Fl w g t l wr.drew := ⟨h.below.drew, h.ge, h.row⟩
theorem Fl.drewN {w wr : World} {g : Nat} {t : TypeId} {l : List Int} (h : Fl w g t l wr) (n : Nat) : Fl w g t l (wr.drewN n) :=
  ⟨⟨h.below.os, h.below.tape, h.below.output, h.below.size, h.below.block⟩, h.ge, h.row⟩
theorem Fl.put {w wr : World} {g : Nat} {t : TypeId} {l : List Int} (h : Fl w g t l wr) (i : Nat) (x : Int) : Fl w g t (l.set i x) (wr.setCell ⟨g, i, none⟩ (.int .u8 x)) := by
  refine ⟨h.below.setCell h.ge _, h.ge, ?_⟩
  rw [heap_setCell_same _ _ _ _ _ _ h.row, rowB_set]
theorem Fl.cell {w wr : World} {g : Nat} {t : TypeId} {l : List Int} (h : Fl w g t l wr) (i : Nat) (hi : i < l.length) : wr.cell? ⟨g, i, none⟩ = some (.int .u8 (l.getD i 0)) := by
  rw [cell_of_row _ _ _ _ _ _ h.row, rowB_get _ _ hi]
theorem Fl.free {w wr : World} {g : Nat} {t : TypeId} {l : List Int} (h : Fl w g t l wr) (i : Nat) : wr.frozen? ⟨g, i, none⟩ = false := frozen_of_row _ _ _ _ _ h.row

/-- two new blocks: the answer's (at w's size), and g behind it -/
structure Two (w : World) (t : TypeId) (z : List Int) (l : List Int) (t' : TypeId) (wr : World) : Prop where
  fl : Fl w (w.heap.size + 1) t' l wr
  res : wr.heap[w.heap.size]? = some (.cells (rowB z) t (0, 0))
theorem Two.start (w : World) (t t' : TypeId) (z l : List Int) (X Y : Array Value) (hX : X = rowB z) (hY : Y = rowB l) : Two w t z l t' ((w.alloc (.cells X t)).alloc (.cells Y t')) := by
  subst hX hY
  exact ⟨⟨((Below.refl _ _).alloc (Nat.le_refl _) _).alloc (by simp) _, by omega, heap_alloc2_new _ _ _⟩, heap_alloc2_old _ _ _⟩
theorem Two.drew {w wr : World} {t t' : TypeId} {z l : List Int} (h : Two w t z l t' wr) : Two w t z l t' wr.drew := ⟨h.fl.drew, h.res⟩
theorem Two.drewN {w wr : World} {t t' : TypeId} {z l : List Int} (h : Two w t z l t' wr) (n : Nat) : Two w t z l t' (wr.drewN n) := ⟨h.fl.drewN n, h.res⟩
theorem Two.put {w wr : World} {t t' : TypeId} {z l : List Int} (h : Two w t z l t' wr) (i : Nat) (x : Int) : Two w t z (l.set i x) t' (wr.setCell ⟨w.heap.size + 1, i, none⟩ (.int .u8 x)) :=
  ⟨h.fl.put i x, by rw [heap_setCell_other _ _ _ _ (by simp)]; exact h.res⟩
end Go.Proofs.YtmolkbmdfkeniaaDoor
-- from D
namespace Go.Proofs.YtmolkbmdfkeniaaDoor
open Go.ChangeShapes Go.WideShapes Go.ChangeAt Go.RowKit
theorem size25 : (Tryd.prog.info? 23).map (·.size) = some 32 := by kernel_rfl

set_option maxRecDepth 100000 in
set_option maxHeartbeats 4000000 in
theorem digest_any (p : Nat) (w : World) (s : St) (r : Array Value) (ty : TypeId) (hp : w.heap[p]? = some (.cells (rowSt s.list r) ty (0, 0))) :
    Calls Tryd.prog 67 #[.pointer (some ⟨p, 0, none⟩)] w fun e w' => e = .returned (.agg (rowB s.digest)) ∧ Below w.heap.size w w' := by
  have hpl : p < w.heap.size := (Array.getElem?_eq_some_iff.1 hp).1
  have HP := Lib.hid hp
  clear hp
  go_enter Tryd.func67, Tryd.ntmps67
  go_wp2
  go_loopw [7] (fun i wr => ∃ n : Nat, n ≤ 8 ∧ i = .int .i64 n ∧ Two w 23 (List.replicate 32 0) (dig s.list n) 23 wr) (fun i _ => 8 - (intOf i).toNat)
  case atStart => exact ⟨0, by omega, rfl, Two.start w 23 23 _ _ _ _ (by kernel_rfl) (by kernel_rfl)⟩
  case round =>
    obtain ⟨n, hn, rfl, ht⟩ := hrel
    by_cases hlt : n < 8
    · have hdt : decide ((n : Int) < 8) = true := by simp; omega
      have c1 := (ht.fl.below.cell (p := ⟨p, n, none⟩) hpl).trans ((cell_of_row _ _ _ _ _ _ HP.out).trans (rowSt_get s.list r n (by show _ < 8; omega)))
      have HL := Lib.hid (dig_length s.list n)
      have hs : dig s.list (n + 1) = ((((dig s.list n).set (4 * n) (s.list.getD n 0 / 16777216 % 256)).set (4 * n + 1) (s.list.getD n 0 / 65536 % 256)).set (4 * n + 2) (s.list.getD n 0 / 256 % 256)).set (4 * n + 3) (s.list.getD n 0 % 256) := rfl
      have HS := Lib.hid hs
      clear hs
      generalize dig s.list n = L at ht HL HS
      obtain ⟨x, hx⟩ : ∃ x, s.list.getD n 0 = x := ⟨_, rfl⟩
      rw [hx] at c1
      have HX := Lib.hid hx
      clear hx
      repeat (first | go_values | go_skip | go_guarded | go_step | go_upon)
      go_quiet (fail)
      clear c1
      have ht1 := ht.drewN nq
      clear ht
      generalize wr.drewN nq = w1 at ht1
      clear nq wr
      have c1 := ht1.fl.cell (4 * n) (by rw [HL.out]; omega)
      have f1 := ht1.fl.free (4 * n)
      have ht2 := ht1.put (4 * n) (x / 16777216 % 256)
      have c2 := ht2.fl.cell (4 * n + 1) (by rw [List.length_set, HL.out]; omega)
      have f2 := ht2.fl.free (4 * n + 1)
      have ht3 := ht2.put (4 * n + 1) (x / 65536 % 256)
      have c3 := ht3.fl.cell (4 * n + 2) (by rw [List.length_set, List.length_set, HL.out]; omega)
      have f3 := ht3.fl.free (4 * n + 2)
      have ht4 := ht3.put (4 * n + 2) (x / 256 % 256)
      have c4 := ht4.fl.cell (4 * n + 3) (by rw [List.length_set, List.length_set, List.length_set, HL.out]; omega)
      have f4 := ht4.fl.free (4 * n + 3)
      have ht5 := ht4.put (4 * n + 3) (x % 256)
      have HT := Lib.hid ht5
      clear ht1 ht2 ht3 ht4 ht5
      go_wp2
      clear c1 f1 c2 f2 c3 f3 c4 f4
      go_roundw
      case rel => exact ⟨n + 1, by omega, by go_num, by rw [HS.out, HX.out]; exact HT.out⟩
      case measure => simp [intOf]; omega
    · obtain rfl : n = 8 := by omega
      clear hn hlt
      rw [show ((8 : Nat) : Int) = 8 from rfl]
      have hdf : decide ((8 : Int) < 8) = false := by decide
      have HL := Lib.hid (dig_length s.list 8)
      have hD : dig s.list 8 = s.digest := rfl
      rw [hD] at ht HL
      clear hD
      have HZ := Lib.hid (show (Tryd.prog.info? 23).map (·.size) = some (rowB s.digest).size by rw [rowB_size, HL.out]; exact size25)
      have HY := Lib.hid (show (rowB (List.replicate 32 0)).size = (rowB s.digest).size by rw [rowB_size, rowB_size, HL.out]; rfl)
      have HX := Lib.hid (rowB_one s.digest)
      have HR := Lib.hid ht.fl.row
      have HQ := Lib.hid ht.res
      have HB := Lib.hid ht.fl.below
      clear ht
      go_wp2_with (first
        | (refine wpList_load_row rfl 23 (.tmp 3) rfl (w.heap.size + 1) rfl 23 (rowB s.digest) (0, 0) _ HR.out Tryd.underlying23 rfl HZ.out ?_)
        | (refine wpList_store_row rfl 23 (.tmp 2) (.tmp 40) rfl w.heap.size (rowB s.digest) rfl rfl 23 _ HQ.out HZ.out HY.out HX.out ?_))
      exact bodyPost_ret (v := .agg (rowB s.digest)) (results_cell_row Tryd.results67 _ _ w.heap.size 23 (rowB s.digest) (0, 0) _ rfl (setRow_heap _ _ _ _ _ _ HQ.out) Tryd.underlying23 rfl HZ.out) rfl ⟨rfl, below_setRow HB.out (Nat.le_refl _) _⟩
end Go.Proofs.YtmolkbmdfkeniaaDoor
-- from W
namespace Go.Proofs.YtmolkbmdfkeniaaDoor
open Go.RowKit
/-- n noughts -/
def zs (n : Nat) : List Int := List.replicate n 0
/-- 128 bytes that begin with l -/
def pad0 (l : List Int) : List Int := l ++ List.replicate (128 - l.length) 0
/-- a byte 128 behind it -/
def pad1 (l : List Int) : List Int := (pad0 l).set l.length 128
/-- k bytes of how many bits there are, from the end E backwards -/
def padn (f : List Int) (E n : Nat) : Nat → List Int
  | 0 => f
  | k + 1 => (padn f E n k).set (E - 1 - k) ((n : Int) * 8 / 2 ^ (8 * k) % 256)
theorem pad0_length (l : List Int) (h : l.length ≤ 128) : (pad0 l).length = 128 := by simp [pad0]; omega
theorem pad1_length (l : List Int) (h : l.length ≤ 128) : (pad1 l).length = 128 := by simp [pad1, pad0_length l h]
theorem padn_length (f : List Int) (E n : Nat) : ∀ k, (padn f E n k).length = f.length
  | 0 => rfl
  | k + 1 => by simp [padn, padn_length f E n k]
/-- where what is filled up ends -/
def padE (m : Nat) : Nat := if 64 < m + 9 then 128 else 64
/-- the last blocks -/
def padded (l : List Int) (n : Nat) : List Int := (padn (pad1 l) (padE l.length) n 8).take (padE l.length)
/-- the digest out of the state, what is left, and how many bytes there were -/
def fin (s : St) (l : List Int) (n : Nat) : List Int := (absorb s (padded l n)).digest
/-- the digest of bytes -/
def sum (l : List Int) : List Int := fin (absorb start l) (rest l) l.length
theorem fin_length (s : St) (l : List Int) (n : Nat) : (fin s l n).length = 32 := dig_length _ _
theorem sum_length (l : List Int) : (sum l).length = 32 := dig_length _ _

theorem splice_pad (l : List Int) : splice ((zs 128).map (Value.int .u8)) 0 (l.map (Value.int .u8)) = (pad0 l).map (Value.int .u8) := by
  simp only [splice, pad0, zs, List.map_append, List.map_replicate, List.take_zero, List.nil_append, Nat.zero_add, List.length_map, List.drop_replicate]
/-- a slice value that reads as the bytes l (nil: none) -/
structure Bytes (w : World) (sp : Option Addr) (cap : Nat) (l : List Int) : Prop where
  le : l.length ≤ cap
  max : cap ≤ maxLen
  lies : 0 < l.length → ∃ c o, sp = some ⟨c, o, none⟩ ∧ Lies w c o l
theorem Bytes.src {w : World} {sp : Option Addr} {cap : Nat} {l : List Int} (h : Bytes w sp cap l) {w' : World} (hk : ∀ a v, w.cell? a = some v → w'.cell? a = some v) (g : Nat) :
    0 < (l.map (Value.int .u8)).length → (some ⟨g, 0, none⟩ : Option Addr) = some ⟨g, 0, none⟩ ∧ ∃ ad, sp = some ad ∧ ∀ j v, (l.map (Value.int .u8))[j]? = some v → w'.cell? (ad.add j) = some v := by
  intro hp
  obtain ⟨c, o, rfl, hl⟩ := h.lies (by simpa using hp)
  refine ⟨rfl, _, rfl, fun j v hv => ?_⟩
  have hj : j < l.length := by
    by_cases hj : j < l.length
    · exact hj
    · simp [show l[j]? = none by simp; omega] at hv
  have hadd : (⟨c, o, none⟩ : Addr).add j = ⟨c, o + j, none⟩ := by unfold Addr.add; split <;> simp_all
  rw [hadd]
  refine hk _ _ ((hl j hj).trans ?_)
  simp [hj] at hv
  simp [hj, hv, List.getD]
theorem map_one (l : List Int) : ∀ v ∈ l.map (Value.int .u8), v.oneCell' = true := by
  intro v hv
  obtain ⟨x, _, rfl⟩ := List.mem_map.1 hv
  rfl
end Go.Proofs.YtmolkbmdfkeniaaDoor
-- from X
namespace Go.Proofs.YtmolkbmdfkeniaaDoor
open Go.RowKit
theorem cell_alloc2 {w : World} {X Y : Obj} {a : Addr} {v : Value} (h : w.cell? a = some v) : ((w.alloc X).alloc Y).cell? a = some v := by
  have hb : Below w.heap.size w ((w.alloc X).alloc Y) := ((Below.refl _ _).alloc (Nat.le_refl _) _).alloc (by simp) _
  exact (hb.cell (block_lt_of_cell h)).trans h
theorem Two.copied {w w1 : World} {X Y : Array Value} (hX : X = rowB (zs 32)) (l : List Int) (h1 : Hid (w1.heap[w.heap.size + 1]? = some (.cells (splice ((zs 128).map (Value.int .u8)) 0 (l.map (Value.int .u8))).toArray 107 (0, 0))))
    (hb : Below (w.heap.size + 1) ((w.alloc (.cells X 23)).alloc (.cells Y 107)) w1) : Two w 23 (zs 32) (pad0 l) 107 w1 := by
  subst hX
  have hb0 : Below w.heap.size w ((w.alloc (.cells (rowB (zs 32)) 23)).alloc (.cells Y 107)) := ((Below.refl _ _).alloc (Nat.le_refl _) _).alloc (by simp) _
  refine ⟨⟨hb0.trans (hb.mono (by omega)), by omega, ?_⟩, ?_⟩
  · have := h1.out
    rw [splice_pad] at this
    exact this
  · rw [hb.block _ (by omega)]
    exact heap_alloc2_old _ _ _
/-- behind the last blocks -/
theorem Un.fin {w wr w1 w2 : World} {p : Nat} {ty : TypeId} {r : Array Value} {l : List Int} (hpl : p < w.heap.size) (hb : Below w.heap.size w wr) (hu : Un wr p ty r l w1) (h2 : Below w1.heap.size w1 w2) (cs : Array Value) : Un w p ty r l (w2.setRow w.heap.size cs) := by
  have hp1 : p < w1.heap.size := Nat.lt_of_lt_of_le hpl (Nat.le_trans hb.size hu.grown.size)
  refine ⟨⟨?_, ?_, ?_, ?_, fun k hk hne => ?_⟩, ?_⟩
  · exact h2.os.trans (hu.grown.os.trans hb.os)
  · exact h2.tape.trans (hu.grown.tape.trans hb.tape)
  · exact h2.output.trans (hu.grown.output.trans hb.output)
  · rw [size_setRow]; exact Nat.le_trans hb.size (Nat.le_trans hu.grown.size h2.size)
  · have hk1 : k < wr.heap.size := Nat.lt_of_lt_of_le hk hb.size
    rw [setRow_other _ _ _ _ (by omega), h2.block k (Nat.lt_of_lt_of_le hk1 hu.grown.size), hu.grown.block k hk1 hne, hb.block k hk]
  · rw [setRow_other _ _ _ _ (by omega), h2.block p hp1]; exact hu.row
theorem Fl.lies {w wr : World} {g : Nat} {t : TypeId} {l : List Int} (h : Fl w g t l wr) (k : Nat) : Lies wr g 0 (l.take k) := by
  intro i hi
  have hi' : i < k ∧ i < l.length := by simp at hi; omega
  rw [Nat.zero_add, h.cell i hi'.2]
  simp [hi'.1]
theorem Fl.kc {w wr : World} (hb : Below w.heap.size w wr) (h : Kc w) : Kc wr := fun i hi => (hb.cell (block_lt_of_cell (h i hi))).trans (h i hi)
theorem padded_length (l : List Int) (n : Nat) (h : l.length ≤ 128) : (padded l n).length = padE l.length := by
  simp only [padded, List.length_take, padn_length, pad1_length l h]
  unfold padE
  split <;> omega
end Go.Proofs.YtmolkbmdfkeniaaDoor
-- from F
namespace Go.Proofs.YtmolkbmdfkeniaaDoor
open Go.ChangeShapes Go.WideShapes Go.ChangeAt Go.RowKit
theorem size5 : (Tryd.prog.info? 5).map (·.size) = some 1 := by kernel_rfl

theorem take_len (m p c o cap : Nat) (w : World) (s : St) (r : Array Value) (ty : TypeId) (l : List Int) (hm0 : l.length = m) (hlc : l.length ≤ cap) (hm : cap ≤ maxLen) (hd : Lies w c o l) (hdis : c ≠ p ∨ 8 ≤ o)
    (hp : w.heap[p]? = some (.cells (rowSt s.list r) ty (0, 0))) (hk : Kc w) (hp1 : p ≠ 1) :
    Calls Tryd.prog 51 #[.pointer (some ⟨p, 0, none⟩), .slice (some ⟨c, o, none⟩) m cap] w (Rest w p ty r s c o l) := by
  subst hm0
  exact take_some p c o cap w s r ty l hlc hm hd hdis hp hk hp1

set_option maxRecDepth 100000 in
set_option maxHeartbeats 2000000 in
theorem finish64 (p : Nat) (w : World) (s : St) (r : Array Value) (ty : TypeId) (sp : Option Addr) (cap : Nat) (l : List Int) (n : Nat) (hb : Bytes w sp cap l) (hE : ¬ 64 < l.length + 9) (hn : n ≤ 1152921504606846975)
    (hp : w.heap[p]? = some (.cells (rowSt s.list r) ty (0, 0))) (hk : Kc w) (hp1 : p ≠ 1) :
    Calls Tryd.prog 52 #[.pointer (some ⟨p, 0, none⟩), .slice sp l.length cap, .int .i64 n] w fun e w' => e = .returned (.agg (rowB (fin s l n))) ∧ ∃ s' : St, Un w p ty r s'.list w' := by
  have hpl : p < w.heap.size := (Array.getElem?_eq_some_iff.1 hp).1
  have HP := Lib.hid hp
  have HK : Hid (Kc w) := hk
  have HB := Lib.hid hb
  clear hp hk hb
  obtain ⟨m, hm⟩ : ∃ m, l.length = m := ⟨_, rfl⟩
  have HM := Lib.hid hm
  rw [hm] at hE ⊢
  clear hm
  have hd1 : decide ((64 : Int) < (m : Int) + 1 + 8) = false := by simp; omega
  have hz58 : ∀ w, (zeroValue 107).run Tryd.prog w = .ok (.agg (rowB (zs 128))) w := fun _ => by kernel_rfl
  go_enter Tryd.func52, Tryd.ntmps52
  have hc1 : (l.map (Value.int .u8)).length = Nat.min m 128 := by rw [List.length_map, HM.out]; exact (Nat.min_eq_left (by omega)).symm
  have HC := Lib.hid hc1
  have hc2 : 0 + (l.map (Value.int .u8)).length ≤ ((zs 128).map (Value.int .u8)).length := by rw [List.length_map, HM.out, List.length_map]; show 0 + m ≤ 128; omega
  have HC2 := Lib.hid hc2
  clear hc1 hc2
  go_wp2_with (refine wpList_copy_splice rfl (.tmp 16) (.tmp 17) 57 57 rfl 5 Tryd.underlying57 size5 _ _ 128 128 m cap rfl rfl (w.heap.size + 1) 0 ((zs 128).map (Value.int .u8)) 107 (heap_alloc2_new _ _ _) (l.map (Value.int .u8)) HC.out (HB.out.src (fun _ _ h => cell_alloc2 h) _) HC2.out (map_one l) (w.heap.size + 1) _ (Below.refl _ _) (Nat.le_refl _) ?_)
  intro w1 H1 hb1
  have ht := Two.copied (by kernel_rfl) l H1 hb1
  clear H1 hb1 hz58
  have HQ := Lib.hid (pad0_length l (by rw [HM.out]; omega))
  have c1 := ht.fl.cell m (by rw [HQ.out]; omega)
  have f1 := ht.fl.free m
  go_wp2
  clear c1 f1
  have ht1 := ht.put m 128
  rw [← HM.out] at ht1
  change Two w 23 (zs 32) (pad1 l) 107 _ at ht1
  rw [HM.out] at ht1
  have HQ1 := Lib.hid (pad1_length l (by rw [HM.out]; omega))
  clear ht HQ
  generalize w1.setCell _ _ = w2 at ht1 ⊢
  go_loopw [25] (fun i wr => ∃ k : Nat, k ≤ 8 ∧ i = .int .i64 k ∧ Two w 23 (zs 32) (padn (pad1 l) 64 n k) 107 wr) (fun i _ => 8 - (intOf i).toNat)
  case atStart => exact ⟨0, by omega, rfl, ht1⟩
  case round =>
    clear ht1
    obtain ⟨k, hk, rfl, ht⟩ := hrel
    by_cases hlt : k < 8
    · have hdt : decide ((k : Int) < 8) = true := by simp; omega
      have hs : padn (pad1 l) 64 n (k + 1) = (padn (pad1 l) 64 n k).set (64 - 1 - k) ((n : Int) * 8 / 2 ^ (8 * k) % 256) := rfl
      have HS := Lib.hid hs
      have hpl2 := padn_length (pad1 l) 64 n k
      rw [HQ1.out] at hpl2
      have HL := Lib.hid hpl2
      clear hs hpl2
      generalize padn (pad1 l) 64 n k = L at ht HS HL
      have c1 := ht.fl.cell (64 - 1 - k) (by rw [HL.out]; omega)
      have f1 := ht.fl.free (64 - 1 - k)
      go_wp2
      clear c1 f1
      go_roundw
      case rel => exact ⟨k + 1, by omega, by go_num, by rw [HS.out]; exact ht.put (64 - 1 - k) _⟩
      case measure => simp [intOf]; omega
    · obtain rfl : k = 8 := by omega
      clear hk hlt
      rw [show ((8 : Nat) : Int) = 8 from rfl]
      have hdf : decide ((8 : Int) < 8) = false := by decide
      have hE2 : padE l.length = 64 := by unfold padE; rw [HM.out, if_neg hE]
      have hpd : (padn (pad1 l) 64 n 8).take 64 = padded l n := by unfold padded; rw [hE2]
      have hd := ht.fl.lies 64
      rw [hpd] at hd
      have hpd2 := padded_length l n (by rw [HM.out]; omega)
      rw [hE2] at hpd2
      have HD : Hid (Lies wr (w.heap.size + 1) 0 (padded l n)) := hd
      have HL := Lib.hid hpd2
      have HPr := Lib.hid ((ht.fl.below.block p hpl).trans HP.out)
      have HKr : Hid (Kc wr) := Fl.kc ht.fl.below HK.out
      have HBr := Lib.hid ht.fl.below
      have HRr := Lib.hid ht.res
      have hgs : w.heap.size + 1 < wr.heap.size := (Array.getElem?_eq_some_iff.1 ht.fl.row).1
      clear ht hd hpd hpd2 hE2
      go_wp2_with fail
      refine (take_len 64 p (w.heap.size + 1) 0 64 wr s r ty (padded l n) HL.out (by rw [HL.out]; omega) (by unfold maxLen; omega) HD.out (by omega) HPr.out HKr.out hp1).mono ?_
      rintro e w3 ⟨o', cap', rfl, _, _, _, _, hu⟩
      go_wp2_with fail
      refine (digest_any p w3 _ r ty hu.row).mono ?_
      rintro e w4 ⟨rfl, hb4⟩
      have hF : (absorb s (padded l n)).digest = fin s l n := rfl
      rw [hF]
      have HZ := Lib.hid (show (Tryd.prog.info? 23).map (·.size) = some (rowB (fin s l n)).size by rw [rowB_size, fin_length]; exact size25)
      have HY := Lib.hid (show (rowB (zs 32)).size = (rowB (fin s l n)).size by rw [rowB_size, rowB_size, fin_length]; rfl)
      have HX := Lib.hid (rowB_one (fin s l n))
      have hq : w4.heap[w.heap.size]? = some (.cells (rowB (zs 32)) 23 (0, 0)) := by
        rw [hb4.block _ (by have := hu.grown.size; omega), hu.grown.block _ (by omega) (by simp only [ne_eq, Option.some.injEq]; omega)]; exact HRr.out
      have HQ := Lib.hid hq
      have HU := Lib.hid (Un.fin hpl HBr.out hu hb4 (rowB (fin s l n)))
      clear hq hF hb4 hu
      obtain ⟨F, hF⟩ : ∃ F, fin s l n = F := ⟨_, rfl⟩
      rw [hF] at HZ HY HX HU ⊢
      have HF := Lib.hid hF
      clear hF
      go_wp2_with (refine wpList_store_row rfl 23 (.tmp 6) (.tmp 45) rfl w.heap.size (rowB F) rfl rfl 23 _ HQ.out HZ.out HY.out HX.out ?_)
      exact bodyPost_ret (v := .agg (rowB F)) (results_cell_row Tryd.results52 _ _ w.heap.size 23 (rowB F) (0, 0) _ rfl (setRow_heap _ _ _ _ _ _ HQ.out) Tryd.underlying23 rfl HZ.out) rfl ⟨by rw [HF.out], _, HU.out⟩
set_option maxRecDepth 100000 in
set_option maxHeartbeats 2000000 in
theorem finish128 (p : Nat) (w : World) (s : St) (r : Array Value) (ty : TypeId) (sp : Option Addr) (cap : Nat) (l : List Int) (n : Nat) (hb : Bytes w sp cap l) (hl : l.length < 64) (hE : 64 < l.length + 9) (hn : n ≤ 1152921504606846975)
    (hp : w.heap[p]? = some (.cells (rowSt s.list r) ty (0, 0))) (hk : Kc w) (hp1 : p ≠ 1) :
    Calls Tryd.prog 52 #[.pointer (some ⟨p, 0, none⟩), .slice sp l.length cap, .int .i64 n] w fun e w' => e = .returned (.agg (rowB (fin s l n))) ∧ ∃ s' : St, Un w p ty r s'.list w' := by
  have hpl : p < w.heap.size := (Array.getElem?_eq_some_iff.1 hp).1
  have HP := Lib.hid hp
  have HK : Hid (Kc w) := hk
  have HB := Lib.hid hb
  clear hp hk hb
  obtain ⟨m, hm⟩ : ∃ m, l.length = m := ⟨_, rfl⟩
  have HM := Lib.hid hm
  rw [hm] at hl hE ⊢
  clear hm
  have hd1 : decide ((64 : Int) < (m : Int) + 1 + 8) = true := by simp; omega
  have hz58 : ∀ w, (zeroValue 107).run Tryd.prog w = .ok (.agg (rowB (zs 128))) w := fun _ => by kernel_rfl
  go_enter Tryd.func52, Tryd.ntmps52
  have hc1 : (l.map (Value.int .u8)).length = Nat.min m 128 := by rw [List.length_map, HM.out]; exact (Nat.min_eq_left (by omega)).symm
  have HC := Lib.hid hc1
  have hc2 : 0 + (l.map (Value.int .u8)).length ≤ ((zs 128).map (Value.int .u8)).length := by rw [List.length_map, HM.out, List.length_map]; show 0 + m ≤ 128; omega
  have HC2 := Lib.hid hc2
  clear hc1 hc2
  go_wp2_with (refine wpList_copy_splice rfl (.tmp 16) (.tmp 17) 57 57 rfl 5 Tryd.underlying57 size5 _ _ 128 128 m cap rfl rfl (w.heap.size + 1) 0 ((zs 128).map (Value.int .u8)) 107 (heap_alloc2_new _ _ _) (l.map (Value.int .u8)) HC.out (HB.out.src (fun _ _ h => cell_alloc2 h) _) HC2.out (map_one l) (w.heap.size + 1) _ (Below.refl _ _) (Nat.le_refl _) ?_)
  intro w1 H1 hb1
  have ht := Two.copied (by kernel_rfl) l H1 hb1
  clear H1 hb1 hz58
  have HQ := Lib.hid (pad0_length l (by rw [HM.out]; omega))
  have c1 := ht.fl.cell m (by rw [HQ.out]; omega)
  have f1 := ht.fl.free m
  go_wp2
  clear c1 f1
  have ht1 := ht.put m 128
  rw [← HM.out] at ht1
  change Two w 23 (zs 32) (pad1 l) 107 _ at ht1
  rw [HM.out] at ht1
  have HQ1 := Lib.hid (pad1_length l (by rw [HM.out]; omega))
  clear ht HQ
  generalize w1.setCell _ _ = w2 at ht1 ⊢
  go_loopw [25] (fun i wr => ∃ k : Nat, k ≤ 8 ∧ i = .int .i64 k ∧ Two w 23 (zs 32) (padn (pad1 l) 128 n k) 107 wr) (fun i _ => 8 - (intOf i).toNat)
  case atStart => exact ⟨0, by omega, rfl, ht1⟩
  case round =>
    clear ht1
    obtain ⟨k, hk, rfl, ht⟩ := hrel
    by_cases hlt : k < 8
    · have hdt : decide ((k : Int) < 8) = true := by simp; omega
      have hs : padn (pad1 l) 128 n (k + 1) = (padn (pad1 l) 128 n k).set (128 - 1 - k) ((n : Int) * 8 / 2 ^ (8 * k) % 256) := rfl
      have HS := Lib.hid hs
      have hpl2 := padn_length (pad1 l) 128 n k
      rw [HQ1.out] at hpl2
      have HL := Lib.hid hpl2
      clear hs hpl2
      generalize padn (pad1 l) 128 n k = L at ht HS HL
      have c1 := ht.fl.cell (128 - 1 - k) (by rw [HL.out]; omega)
      have f1 := ht.fl.free (128 - 1 - k)
      go_wp2
      clear c1 f1
      go_roundw
      case rel => exact ⟨k + 1, by omega, by go_num, by rw [HS.out]; exact ht.put (128 - 1 - k) _⟩
      case measure => simp [intOf]; omega
    · obtain rfl : k = 8 := by omega
      clear hk hlt
      rw [show ((8 : Nat) : Int) = 8 from rfl]
      have hdf : decide ((8 : Int) < 8) = false := by decide
      have hE2 : padE l.length = 128 := by unfold padE; rw [HM.out, if_pos hE]
      have hpd : (padn (pad1 l) 128 n 8).take 128 = padded l n := by unfold padded; rw [hE2]
      have hd := ht.fl.lies 128
      rw [hpd] at hd
      have hpd2 := padded_length l n (by rw [HM.out]; omega)
      rw [hE2] at hpd2
      have HD : Hid (Lies wr (w.heap.size + 1) 0 (padded l n)) := hd
      have HL := Lib.hid hpd2
      have HPr := Lib.hid ((ht.fl.below.block p hpl).trans HP.out)
      have HKr : Hid (Kc wr) := Fl.kc ht.fl.below HK.out
      have HBr := Lib.hid ht.fl.below
      have HRr := Lib.hid ht.res
      have hgs : w.heap.size + 1 < wr.heap.size := (Array.getElem?_eq_some_iff.1 ht.fl.row).1
      clear ht hd hpd hpd2 hE2
      go_wp2_with fail
      refine (take_len 128 p (w.heap.size + 1) 0 128 wr s r ty (padded l n) HL.out (by rw [HL.out]; omega) (by unfold maxLen; omega) HD.out (by omega) HPr.out HKr.out hp1).mono ?_
      rintro e w3 ⟨o', cap', rfl, _, _, _, _, hu⟩
      go_wp2_with fail
      refine (digest_any p w3 _ r ty hu.row).mono ?_
      rintro e w4 ⟨rfl, hb4⟩
      have hF : (absorb s (padded l n)).digest = fin s l n := rfl
      rw [hF]
      have HZ := Lib.hid (show (Tryd.prog.info? 23).map (·.size) = some (rowB (fin s l n)).size by rw [rowB_size, fin_length]; exact size25)
      have HY := Lib.hid (show (rowB (zs 32)).size = (rowB (fin s l n)).size by rw [rowB_size, rowB_size, fin_length]; rfl)
      have HX := Lib.hid (rowB_one (fin s l n))
      have hq : w4.heap[w.heap.size]? = some (.cells (rowB (zs 32)) 23 (0, 0)) := by
        rw [hb4.block _ (by have := hu.grown.size; omega), hu.grown.block _ (by omega) (by simp only [ne_eq, Option.some.injEq]; omega)]; exact HRr.out
      have HQ := Lib.hid hq
      have HU := Lib.hid (Un.fin hpl HBr.out hu hb4 (rowB (fin s l n)))
      clear hq hF hb4 hu
      obtain ⟨F, hF⟩ : ∃ F, fin s l n = F := ⟨_, rfl⟩
      rw [hF] at HZ HY HX HU ⊢
      have HF := Lib.hid hF
      clear hF
      go_wp2_with (refine wpList_store_row rfl 23 (.tmp 6) (.tmp 45) rfl w.heap.size (rowB F) rfl rfl 23 _ HQ.out HZ.out HY.out HX.out ?_)
      exact bodyPost_ret (v := .agg (rowB F)) (results_cell_row Tryd.results52 _ _ w.heap.size 23 (rowB F) (0, 0) _ rfl (setRow_heap _ _ _ _ _ _ HQ.out) Tryd.underlying23 rfl HZ.out) rfl ⟨by rw [HF.out], _, HU.out⟩

theorem finish_any (p : Nat) (w : World) (s : St) (r : Array Value) (ty : TypeId) (sp : Option Addr) (m cap : Nat) (l : List Int) (hm : l.length = m) (n : Nat) (hb : Bytes w sp cap l) (hl : l.length < 64) (hn : n ≤ 1152921504606846975)
    (hp : w.heap[p]? = some (.cells (rowSt s.list r) ty (0, 0))) (hk : Kc w) (hp1 : p ≠ 1) :
    Calls Tryd.prog 52 #[.pointer (some ⟨p, 0, none⟩), .slice sp m cap, .int .i64 n] w fun e w' => e = .returned (.agg (rowB (fin s l n))) ∧ ∃ s' : St, Un w p ty r s'.list w' := by
  subst hm
  by_cases hE : 64 < l.length + 9
  · exact finish128 p w s r ty sp cap l n hb hl hE hn hp hk hp1
  · exact finish64 p w s r ty sp cap l n hb hE hn hp hk hp1
end Go.Proofs.YtmolkbmdfkeniaaDoor
-- from G
namespace Go.Proofs.YtmolkbmdfkeniaaDoor
open Go.ChangeShapes Go.WideShapes Go.ChangeAt Go.RowKit
theorem take_few (p : Nat) (w : World) (sp : Option Addr) (n cap : Nat) (h : n < 64) : Calls Tryd.prog 51 #[.pointer (some ⟨p, 0, none⟩), .slice sp n cap] w fun e w' => e = .returned (.slice sp n cap) ∧ w = w' := by
  have hdt : decide ((n : Int) < 64) = true := by simp; omega
  go_enter Tryd.func51, Tryd.ntmps51
  go_wp2
  go_step3
  go_wp2
  go_step3
  go_wp2
  refine wp_loop_rounds 1 ?_
  rw [rounds_succ]
  go_wp2
  try rw [Exit.noGoto_ret]
  go_ret
  exact ⟨rfl, rfl⟩

/-- what takeBlocks answers, of whatever slice -/
def Took (w : World) (p : Nat) (ty : TypeId) (r : Array Value) (s : St) (l : List Int) (e : Ending) (w' : World) : Prop :=
  ∃ (sp' : Option Addr) (m' cap' : Nat), e = .returned (.slice sp' m' cap') ∧ m' = (rest l).length ∧ Bytes w' sp' cap' (rest l) ∧ Un w p ty r (absorb s l).list w'
theorem take_any (p : Nat) (w : World) (s : St) (r : Array Value) (ty : TypeId) (sp : Option Addr) (m cap : Nat) (l : List Int) (hm : l.length = m) (hb : Bytes w sp cap l) (hdis : ∀ c o, sp = some ⟨c, o, none⟩ → 0 < l.length → c ≠ p ∨ 8 ≤ o)
    (hp : w.heap[p]? = some (.cells (rowSt s.list r) ty (0, 0))) (hk : Kc w) (hp1 : p ≠ 1) :
    Calls Tryd.prog 51 #[.pointer (some ⟨p, 0, none⟩), .slice sp m cap] w (Took w p ty r s l) := by
  subst hm
  by_cases h : l.length < 64
  · refine (take_few p w sp l.length cap h).mono fun e w' ⟨he, hw⟩ => ?_
    subst hw
    refine ⟨sp, l.length, cap, he, ?_, ?_, ?_⟩
    · rw [rest_few l h]
    · rw [rest_few l h]; exact hb
    · rw [absorb_few s l h]; exact ⟨⟨rfl, rfl, rfl, Nat.le_refl _, fun _ _ _ => rfl⟩, hp⟩
  · obtain ⟨c, o, rfl, hl⟩ := hb.lies (by omega)
    refine (take_some p c o cap w s r ty l hb.le hb.max hl (hdis c o rfl (by omega)) hp hk hp1).mono fun e w' ⟨o', cap', he, ho, h1, h2, h3, h4⟩ => ?_
    exact ⟨_, _, _, he, rfl, ⟨h1, h2, fun _ => ⟨c, o', rfl, h3⟩⟩, h4⟩

/-- what is laid ahead of all: the constants, and the first state -/
structure Env (w : World) : Prop where
  kc : Kc w
  start : ∃ t fr, w.heap[0]? = some (.cells (rowSt start.list #[]) t fr)
theorem Env.below {w w' : World} (h : Env w) (hb : Below w.heap.size w w') : Env w' := by
  refine ⟨Fl.kc hb h.kc, ?_⟩
  obtain ⟨t, fr, hs⟩ := h.start
  exact ⟨t, fr, (hb.block 0 (Array.getElem?_eq_some_iff.1 hs).1).trans hs⟩
theorem Env.two {w : World} (h : Env w) : 1 < w.heap.size := block_lt_of_cell (h.kc 0 (by omega))
theorem Bytes.below {w w' : World} {sp : Option Addr} {cap : Nat} {l : List Int} (h : Bytes w sp cap l) (hb : Below w.heap.size w w') : Bytes w' sp cap l :=
  ⟨h.le, h.max, fun hp => by obtain ⟨c, o, e, hl⟩ := h.lies hp; exact ⟨c, o, e, fun i hi => (hb.cell (block_lt_of_cell (hl i hi))).trans (hl i hi)⟩⟩

theorem size45 : (Tryd.prog.info? 88).map (·.size) = some 8 := by kernel_rfl

/-- ahead of the first block: the answer's block, and the state's -/
structure Ss (w : World) (W : World) : Prop where
  below : Below w.heap.size w W
  res : W.heap[w.heap.size]? = some (.cells (rowB (zs 32)) 23 (0, 0))
  st : W.heap[w.heap.size + 1]? = some (.cells (rowSt start.list #[]) 88 (0, 0))
theorem Ss.made (w : World) (X Y : Array Value) (hX : X = rowB (zs 32)) : Ss w (((w.alloc (.cells X 23)).alloc (.cells Y 88)).setRow (w.heap.size + 1) (rowSt start.list #[])) := by
  subst hX
  refine ⟨below_setRow (((Below.refl _ _).alloc (Nat.le_refl _) _).alloc (by simp) _) (by omega) _, ?_, setRow_heap _ _ _ _ _ _ (heap_alloc2_new _ _ _)⟩
  rw [setRow_other _ _ _ _ (by omega)]
  exact heap_alloc2_old _ _ _

set_option maxRecDepth 100000 in
set_option maxHeartbeats 2000000 in
theorem sum_any (w : World) (sp : Option Addr) (m cap : Nat) (l : List Int) (hm : l.length = m) (hb : Bytes w sp cap l) (he : Env w) (hn : m ≤ 1152921504606846975) :
    Calls Tryd.prog 37 #[.slice sp m cap] w fun e w' => e = .returned (.agg (rowB (sum l))) ∧ Below w.heap.size w w' := by
  obtain ⟨t0, fr0, hst⟩ := he.start
  have HE := Lib.hid he
  have HS := Lib.hid hst
  have HB := Lib.hid hb
  have HM := Lib.hid hm
  have HZ0 := Lib.hid (show (Tryd.prog.info? 88).map (·.size) = some (rowSt start.list #[]).size from size45)
  have HY0 := Lib.hid (show 8 = (rowSt start.list #[]).size from by kernel_rfl)
  have HX0 := Lib.hid (show (rowSt start.list #[]).all (·.oneCell') = true from by kernel_rfl)
  clear he hst hb hm
  go_enter Tryd.func37, Tryd.ntmps37
  have hst1 : ∀ X : Obj, (w.alloc X).heap[0]? = some (.cells (rowSt start.list #[]) t0 fr0) := fun X => (Below.heap_alloc w X 0 (Array.getElem?_eq_some_iff.1 HS.out).1).trans HS.out
  have HS1 := Lib.hid hst1
  clear hst1
  go_wp2_with (first
    | (refine wpList_load_row rfl 88 (.global 0) rfl 0 rfl t0 (rowSt start.list #[]) fr0 _ (HS1.out _) Tryd.underlying88 rfl HZ0.out ?_)
    | (refine wpList_store_row rfl 88 (.tmp 3) (.tmp 5) rfl (w.heap.size + 1) (rowSt start.list #[]) rfl rfl 88 _ (heap_alloc2_new _ _ _) HZ0.out HY0.out HX0.out ?_))
  refine gen_world (Q := fun w => Calls _ _ _ w _) _ (Ss w) (Ss.made w _ _ (by kernel_rfl)) ?_
  intro w1 hs
  have hw := HE.out.two
  have hn2 : l.length ≤ 1152921504606846975 := by rw [HM.out]; exact hn
  have HE1 := Lib.hid (HE.out.below hs.below)
  have HB1 := Lib.hid (HB.out.below hs.below)
  have HSS := Lib.hid hs
  clear hs
  have HDis : Hid (∀ c o, sp = some ⟨c, o, none⟩ → 0 < l.length → c ≠ w.heap.size + 1) := by
    rintro c o rfl hp
    obtain ⟨c', o', h1, h2⟩ := HB.out.lies hp
    cases h1
    have := block_lt_of_cell (h2 0 hp)
    simp only at this
    omega
  refine (take_any (w.heap.size + 1) w1 start #[] 88 sp m cap l HM.out HB1.out (fun c o h1 h2 => Or.inl (HDis.out c o h1 h2)) HSS.out.st HE1.out.kc (by omega)).mono ?_
  rintro e w2 ⟨sp', m', cap', rfl, rfl, hb2, hu⟩
  have HB2 := Lib.hid hb2
  have HU := Lib.hid hu
  have HK2 : Hid (Kc w2) := hu.kc (by omega) HE1.out.kc
  clear hb2 hu
  obtain ⟨m', hm'⟩ : ∃ m', (rest l).length = m' := ⟨_, rfl⟩
  rw [hm']
  have HM' := Lib.hid hm'
  clear hm'
  go_wp2_with fail
  refine (finish_any (w.heap.size + 1) w2 (absorb start l) #[] 88 sp' m' cap' (rest l) HM'.out m HB2.out (by rw [rest_length]; omega) hn HU.out.row HK2.out (by omega)).mono ?_
  rintro e w3 ⟨rfl, s', hu3⟩
  have hF : fin (absorb start l) (rest l) m = sum l := by rw [← HM.out]; rfl
  rw [hF]
  clear hF
  have HZ := Lib.hid (show (Tryd.prog.info? 23).map (·.size) = some (rowB (sum l)).size by rw [rowB_size, sum_length]; exact size25)
  have HY := Lib.hid (show (rowB (zs 32)).size = (rowB (sum l)).size by rw [rowB_size, rowB_size, sum_length]; rfl)
  have HX := Lib.hid (rowB_one (sum l))
  have hq : w3.heap[w.heap.size]? = some (.cells (rowB (zs 32)) 23 (0, 0)) := by
    have h1 := (Array.getElem?_eq_some_iff.1 HSS.out.res).1
    rw [hu3.grown.block _ (by have := HU.out.grown.size; omega) (by simp), HU.out.grown.block _ h1 (by simp)]; exact HSS.out.res
  have HQ := Lib.hid hq
  have hbl : Below w.heap.size w (w3.setRow w.heap.size (rowB (sum l))) := by
    refine below_setRow (HSS.out.below.trans ?_) (Nat.le_refl _) _
    have g1 := HU.out.grown
    have g2 := hu3.grown
    refine ⟨g2.os.trans g1.os, g2.tape.trans g1.tape, g2.output.trans g1.output, Nat.le_trans g1.size g2.size, fun k hk => ?_⟩
    have hk1 : k < w1.heap.size := Nat.lt_of_lt_of_le hk HSS.out.below.size
    rw [g2.block k (Nat.lt_of_lt_of_le hk1 g1.size) (by simp; omega), g1.block k hk1 (by simp; omega)]
  have HBL := Lib.hid hbl
  clear hq hbl hu3
  obtain ⟨F, hF⟩ : ∃ F, sum l = F := ⟨_, rfl⟩
  rw [hF] at HZ HY HX HBL ⊢
  have HF := Lib.hid hF
  clear hF
  go_wp2_with (refine wpList_store_row rfl 23 (.tmp 2) (.tmp 11) rfl w.heap.size (rowB F) rfl rfl 23 _ HQ.out HZ.out HY.out HX.out ?_)
  exact bodyPost_ret (v := .agg (rowB F)) (results_cell_row Tryd.results37 _ _ w.heap.size 23 (rowB F) (0, 0) _ rfl (setRow_heap _ _ _ _ _ _ HQ.out) Tryd.underlying23 rfl HZ.out) rfl ⟨by rw [HF.out], HBL.out⟩
end Go.Proofs.YtmolkbmdfkeniaaDoor
