import Derived.Test.YtighmhoekbnagaaDoorKe
import Derived.RangeFuncNested
import Derived.RangeFuncBound
import Derived.RangeFuncCalls
import Derived.RangeFuncLeaves
import Derived.Shelf.Abstract
import Derived.Shelf.RegionOpen
import Derived.WalkKit
import Derived.OwnWalkIn
import Derived.TacticsInMore
import Derived.LoopNIn
import Derived.LoopIn
import Derived.Maps.AppendAt
namespace Go.Proofs.YtighmhoekbnagaaDoor
open Go.ChangeShapes Go.WideShapes Go.ChangeAt Go.RowKit Go.Shelf
attribute [local go_sem] Oper.semAt_some

theorem way_any (n i : Int) (w : World) : Calls Tryd.prog 38 #[.int .i64 n, .int .i64 i] w fun e w' => e = .returned (.func (.func 55) #[] #[.pointer (some ⟨w.heap.size, 0, none⟩), .pointer (some ⟨w.heap.size + 1, 0, none⟩)]) ∧ w' = (w.alloc (.cells #[.int .i64 n] 3)).alloc (.cells #[.int .i64 i] 3) := by
  go_enter Tryd.func38, Tryd.ntmps38
  go_wp2
  go_ret
  exact ⟨rfl, rfl⟩
/-- a part's value -/
def pv (x : Nat × Nat) : Array Value := #[.agg #[.int .i64 x.1, .int .i64 x.2]]
theorem nb_xor (j : Nat) : j ^^^ 1 = nb j := by
  have h1 : (j ^^^ 1) / 2 = j / 2 := by rw [Nat.xor_div_two]; simp
  have h2 : (j ^^^ 1) % 2 = 1 ↔ ¬ (j % 2 = 1 ↔ 1 % 2 = 1) := Nat.xor_mod_two_eq_one
  have h3 : (j ^^^ 1) % 2 = 1 ↔ j % 2 = 0 := by rw [h2]; omega
  unfold nb
  by_cases h : j % 2 = 0
  · have := h3.2 h
    rw [if_pos h]
    omega
  · have : ¬ (j ^^^ 1) % 2 = 1 := fun e => h (h3.1 e)
    rw [if_neg h]
    omega
theorem noGoto_normal {Q : Exit → Act → World → Prop} {a : Act} {w : World} (h : Q .normal a w) : Exit.noGoto Q .normal a w := h
theorem xor_one (j : Nat) (h : j < 9223372036854775807) : bits .xor .i64 (j : Int) 1 = (nb j : Int) := by
  have hb : nb j ≤ 9223372036854775807 := by unfold nb; split <;> omega
  show IntKind.i64.wrap ((BitVec.ofInt 64 (j : Int) ^^^ BitVec.ofInt 64 ((1 : Nat) : Int)).toNat : Int) = _
  rw [BitVec.toNat_xor, ofInt_u64 j (by omega), ofInt_u64 1 (by omega), nb_xor]
  exact IntWalk.i64_in _ (by omega)
theorem shr_nat (x h : Nat) : ((x : Int) / 2 ^ h) = ((x / 2 ^ h : Nat) : Int) := by
  rw [Int.natCast_ediv, Int.natCast_pow]; rfl
/-- the cells of a way's own two variables stay -/
def KeepAt (bn bi : Nat) (W W' : World) : Prop := ∀ b v, b = bn ∨ b = bi → W.cell? ⟨b, 0, none⟩ = some v → W'.cell? ⟨b, 0, none⟩ = some v
theorem wy_len (n i : Nat) : ∀ H, (wy n i H).length ≤ (wy n i (H + 1)).length
  | H => by
    rw [wy]
    split
    · rw [List.length_append]; omega
    · exact Nat.le_refl _
theorem wy_len_le (n i H : Nat) : ∀ k, (wy n i H).length ≤ (wy n i (H + k)).length
  | 0 => Nat.le_refl _
  | k + 1 => Nat.le_trans (wy_len_le n i H k) (wy_len n i (H + k))
theorem wy_sub (n i H : Nat) {x : Nat × Nat} (hx : x ∈ wy n i H) : ∀ k, x ∈ wy n i (H + k)
  | 0 => hx
  | k + 1 => by
    have := wy_sub n i H hx k
    rw [← Nat.add_assoc, wy]
    split
    · exact List.mem_append_left _ this
    · exact this
theorem abides_alloc {J : List (Nat × Nat) → World → Prop} {B : Nat} (h : AbidesFrom B J) {s : List (Nat × Nat)} {w : World} (o : Obj) (hs : J s w) : J s (w.alloc o) := h s w _ none hs (World.grownBy_alloc w o none) (fun r e => by cases e)
set_option maxRecDepth 100000 in
set_option maxHeartbeats 4000000 in
theorem way1_in (m : Nat) (hm : 1 ≤ m) (l bn bi n i N : Nat) (hi : i < n) (hn : n ≤ 9223372036854775807) (hN : N = (wy n i 63).length) (J Jx : List (Nat × Nat) → World → Prop)
    (hY : ∀ pre x W, x ∈ wy n i 63 → J pre W → pre.length < N → YieldAt Fence.wide (m - 1) Tryd.prog l (pv x) W fun e W' => (e = .returned (.bool true) ∧ J (pre ++ [x]) W' ∧ KeepAt bn bi W W') ∨ (e = .returned (.bool false) ∧ Jx (pre ++ [x]) W'))
    (W : World) (hJ : AbidesFrom W.heap.size J) (cn : W.cell? ⟨bn, 0, none⟩ = some (.int .i64 n)) (ci : W.cell? ⟨bi, 0, none⟩ = some (.int .i64 i)) (h0 : J [] W) :
    CallsIn Fence.wide m Tryd.prog 55 #[.func (.yield l) #[] #[], .pointer (some ⟨bn, 0, none⟩), .pointer (some ⟨bi, 0, none⟩)] W fun e W' => (∃ v, e = .returned v) ∧ ((∃ ys, ys = wy n i 63 ∧ J ys W') ∨ (∃ pre, True ∧ Jx pre W')) := by
  refine callsIn_of_wp Tryd.func55 rfl trivial ?_ rfl
  simp only [Tryd.ntmps55, List.size_toArray, List.length_cons, List.length_nil, Nat.reduceAdd, Nat.reduceSub, Array.replicate_succ, Array.replicate_zero, List.push_toArray, List.append_toArray, List.nil_append, List.cons_append]
  gi_wp2
  refine wpIn_scope_straight ?_
  gi_wp2
  refine wpIn_label ?_
  gi_wp2
  have HJ : Hid (AbidesFrom W.heap.size J) := hJ
  have HY := Lib.hid hY
  clear hJ hY
  gi_loopw [4] (fun t wr => ∃ h : Nat, h ≤ 63 ∧ t = .int .i64 h ∧ J (wy n i h) wr ∧ wr.cell? ⟨bn, 0, none⟩ = some (.int .i64 n) ∧ wr.cell? ⟨bi, 0, none⟩ = some (.int .i64 i)) (fun t _ => 64 - (intOf t).toNat)
  case atStart => exact ⟨0, by omega, rfl, h0, cn, ci⟩
  case round =>
    obtain ⟨h, hh, rfl, hJr, cnr, cir⟩ := hrel
    have hp := pow_pos2 h
    have eL : ((n : Int) - 1) / 2 ^ h = (((n - 1) / 2 ^ h : Nat) : Int) := by rw [show (n : Int) - 1 = ((n - 1 : Nat) : Int) by omega]; exact shr_nat _ _
    have hq : i / 2 ^ h ≤ i := Nat.div_le_self _ _
    have eP : bits .xor .i64 ((i : Int) / 2 ^ h) 1 = (nb (i / 2 ^ h) : Int) := by rw [shr_nat]; exact xor_one _ (by omega)
    have hs63 : h = 63 → (n - 1) / 2 ^ h = 0 := by
      rintro rfl
      exact Nat.div_eq_of_lt (by omega)
    have hstop := fun h0 => wy_stop n i hi h h0 (63 - h)
    rw [show h + (63 - h) = 63 by omega] at hstop
    have hlen := wy_len_le n i (h + 1) (63 - (h + 1))
    have hstep : wy n i (h + 1) = if nb (i / 2 ^ h) ≤ (n - 1) / 2 ^ h then wy n i h ++ [(h, nb (i / 2 ^ h))] else wy n i h := rfl
    obtain ⟨L, hL⟩ : ∃ L, (n - 1) / 2 ^ h = L := ⟨_, rfl⟩
    obtain ⟨p, hP⟩ : ∃ p, nb (i / 2 ^ h) = p := ⟨_, rfl⟩
    rw [hL] at eL hs63 hstop hstep
    rw [hP] at eP hstep
    clear hL hP hq hp
    by_cases hL0 : L = 0
    · have HS := Lib.hid (hstop hL0)
      clear hstop hstep hs63 hlen
      subst hL0
      rw [show ((0 : Nat) : Int) = 0 from rfl] at eL
      have d1 : decide ((0 : Int) ≤ 0) = true := by decide
      gi_wp2
      refine noGoto_normal ?_
      go_end0
      exact ⟨⟨_, rfl⟩, .inl ⟨_, HS.out.symm, abides_alloc HJ.out _ hJr⟩⟩
    · have h63 : h < 63 := by
        rcases Nat.lt_or_ge h 63 with hlt | hge
        · exact hlt
        · exact absurd (hs63 (by omega)) hL0
      rw [show h + 1 + (63 - (h + 1)) = 63 by omega] at hlen
      have d1 : decide ((L : Int) ≤ 0) = false := by simp; omega
      have cA : ∀ (X : Obj), (wr.alloc X).cell? ⟨bn, 0, none⟩ = some (.int .i64 n) ∧ (wr.alloc X).cell? ⟨bi, 0, none⟩ = some (.int .i64 i) := fun X =>
        ⟨((Below.refl wr.heap.size wr).alloc (Nat.le_refl _) X).cell (block_lt_of_cell cnr) |>.trans cnr, ((Below.refl wr.heap.size wr).alloc (Nat.le_refl _) X).cell (block_lt_of_cell cir) |>.trans cir⟩
      have CA := Lib.hid cA
      clear hs63 hstop cA
      by_cases hpL : p ≤ L
      · have d2 : decide (L < p) = false := by simp; omega
        rw [if_pos hpL] at hstep
        have HSt := Lib.hid hstep
        have hmem : (h, p) ∈ wy n i 63 := by
          have := wy_sub n i (h + 1) (x := (h, p)) (by rw [hstep]; simp) (63 - (h + 1))
          rwa [show h + 1 + (63 - (h + 1)) = 63 by omega] at this
        have hlt : (wy n i h).length < N := by
          rw [hN]
          rw [hstep, List.length_append] at hlen
          simp at hlen
          omega
        have HJA := Lib.hid (fun (X : Obj) => abides_alloc HJ.out X hJr)
        obtain ⟨fn, tmps, assign, body, hy, hR⟩ := HY.out (wy n i h) (h, p) (wr.alloc (.cells #[.int .i64 h, .int .i64 p] 71)) hmem (HJA.out _) hlt
        have HR := Lib.hid hR
        dsimp only [pv] at hy
        clear hstep hlen hR
        gi_wp2
        refine HR.out.mono ?_
        rintro e W3 (⟨rfl, hJ3, hk3⟩ | ⟨rfl, hJx3⟩)
        · have C3 := Lib.hid (And.intro (hk3 bn _ (.inl rfl) (CA.out _).1) (hk3 bi _ (.inr rfl) (CA.out _).2))
          rw [← HSt.out] at hJ3
          have HJ3 : Hid (J (wy n i (h + 1)) W3) := hJ3
          clear hJ3 hk3
          gi_wp2
          go_roundw
          case rel => exact ⟨h + 1, by omega, by go_num, HJ3.out, C3.out⟩
          case measure => simp [intOf]; omega
        · have HJx3 : Hid (Jx (wy n i h ++ [(h, p)]) W3) := hJx3
          clear hJx3
          gi_wp2
          refine noGoto_normal ?_
          go_end0
          exact ⟨⟨_, rfl⟩, .inr ⟨_, trivial, HJx3.out⟩⟩
      · have d2 : decide (L < p) = true := by simp; omega
        rw [if_neg hpL] at hstep
        have HSt := Lib.hid hstep
        have HJA := Lib.hid (fun (X : Obj) => abides_alloc HJ.out X hJr)
        clear hstep hlen
        gi_wp2
        go_roundw
        case rel => exact ⟨h + 1, by omega, by go_num, by rw [HSt.out]; exact HJA.out _, CA.out _⟩
        case measure => simp [intOf]; omega
/-- a part on the way -/
abbrev OnWay (n i : Nat) := { x : Nat × Nat // x ∈ wy n i 63 }
theorem way_stops (m : Nat) (hm : 1 ≤ m) (bn bi n i : Nat) (hi : i < n) (hn : n ≤ 9223372036854775807) (w : World) (cn : w.cell? ⟨bn, 0, none⟩ = some (.int .i64 n)) (ci : w.cell? ⟨bi, 0, none⟩ = some (.int .i64 i)) :
    SeqStopsK Fence.wide m Tryd.prog 55 #[.pointer (some ⟨bn, 0, none⟩), .pointer (some ⟨bi, 0, none⟩)] (fun x : OnWay n i => pv x.val) (KeepAt bn bi) (fun ys => ys.map Subtype.val = wy n i 63) (fun _ => True) (wy n i 63).length w := fun l J Jx W hW hJ hJx hY h0 => by
  have h := way1_in m hm l bn bi n i _ hi hn rfl (fun ys W => ∃ la : List (OnWay n i), la.map Subtype.val = ys ∧ J la W) (fun _ W => ∃ la : List (OnWay n i), Jx la W) (fun pre x W' hx ⟨la, e1, hj⟩ hlen => by
      refine (hY la ⟨x, hx⟩ W' hj (by rw [← e1, List.length_map] at hlen; exact hlen)).mono ?_
      rintro e w' (⟨h1, h2, h3⟩ | ⟨h1, h2⟩)
      · exact .inl ⟨h1, ⟨la ++ [⟨x, hx⟩], by simp [e1], h2⟩, h3⟩
      · exact .inr ⟨h1, _, h2⟩) W (fun s A B row ⟨la, e1, hj⟩ hg hr => ⟨la, e1, hJ la A B row hj hg hr⟩)
    ((hW.cell (block_lt_of_cell cn)).trans cn) ((hW.cell (block_lt_of_cell ci)).trans ci) ⟨[], rfl, h0⟩
  refine h.mono ?_
  rintro e w' ⟨h1, (⟨ys, rfl, la, e1, hj⟩ | ⟨_, _, la, hj⟩)⟩
  · exact ⟨h1, .inl ⟨la, e1, hj⟩⟩
  · exact ⟨h1, .inr ⟨la, trivial, hj⟩⟩
theorem wy_pow (n i H : Nat) : ∀ x ∈ wy n i H, i < n → 2 ^ x.1 ≤ n - 1 ∧ x.2 * 2 ^ x.1 ≤ n - 1
  | x, hx, hi => by
    induction H with
    | zero => simp [wy] at hx
    | succ H ih =>
      rw [wy] at hx
      split at hx
      · rcases List.mem_append.1 hx with h | h
        · exact ih h
        · obtain rfl := List.mem_singleton.1 h
          rename_i hle
          have hp := pow_pos2 H
          rw [Nat.le_div_iff_mul_le hp] at hle
          refine ⟨?_, hle⟩
          simp only
          by_cases h0 : i / 2 ^ H = 0
          · rw [h0, nb_zero, Nat.one_mul] at hle
            exact hle
          · have h1 : 1 ≤ i / 2 ^ H := Nat.one_le_iff_ne_zero.2 h0
            rw [Nat.le_div_iff_mul_le hp] at h1
            omega
      · exact ih hx
theorem keep_t {bn bi : Nat} {A B C : World} (h : KeepAt bn bi A B) (k : KeepAt bn bi B C) : KeepAt bn bi A C := fun b v hb hc => k b v hb (h b v hb hc)
theorem keep_b {bn bi : Nat} {w : World} (W : World) (l : Nat) (o o' : Obj) (_ : w.heap.size ≤ l) (h : W.heap[l]? = some o) (ho : o.isCells = false) (_ : o.isWalk = false) : KeepAt bn bi W (W.putObj l o') := fun b v _ hc =>
  cell_kept hc (grownBy_putObj' W l o') (fun r e => by cases e; exact ⟨o, h, ho⟩)
theorem keep_of {bn bi : Nat} {W W' : World} (hn : bn < W.heap.size) (hi : bi < W.heap.size) (hb : Below W.heap.size W W') : KeepAt bn bi W W' := fun b v hbb hc => by
  have : b < W.heap.size := by rcases hbb with rfl | rfl <;> assumption
  exact (hb.cell (p := ⟨b, 0, none⟩) this).trans hc
end Go.Proofs.YtighmhoekbnagaaDoor
