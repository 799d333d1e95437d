import Derived.Test.YtdffbjjiojheoaaTb
import Derived.Laws.CopyOwn
import Derived.Laws.AppendOwnNone
import Derived.Laws.MakeOwn
import Derived.Laws.OwnMore
import Derived.Deep.MidRow
import Derived.StillTail
import Derived.StillTailTactics
import Derived.Deep.Quiet
import Derived.OrdersHeld
import Derived.OrdersIn
import Derived.RangeFuncNested
import Derived.Scope
import Derived.Lib.SliceRun
-- from Ga
namespace Go.Proofs.Ytdffbjjiojheoaa.Tn
open Go.Proofs.Ytdffbjjiojheoaa.Fx
end Go.Proofs.Ytdffbjjiojheoaa.Tn
-- from Gb
namespace Go.Proofs.Ytdffbjjiojheoaa.Tn
open Go.Proofs.Ytdffbjjiojheoaa.Fx
end Go.Proofs.Ytdffbjjiojheoaa.Tn
-- from Gt
namespace Go.Proofs.Ytdffbjjiojheoaa.Tn
open Go.Proofs.Ytdffbjjiojheoaa.Fx
end Go.Proofs.Ytdffbjjiojheoaa.Tn
-- from Gm
namespace Go.Proofs.Ytdffbjjiojheoaa.Tn
open Go.ChangeShapes Go.WideShapes Go.ChangeAt Go.RowKit Go.Proofs.Ytdffbjjiojheoaa.Fx Go.Proofs.Ytdffbjjiojheoaa.Rf
section
variable {w w' : World} {sp : Option Addr} {cap : Nat} {xs : List Value}
/-- the address behind k cells -/
def cutA (sp : Option Addr) (cap k : Nat) : Option Addr := if cap = k then sp else sp.map (·.add k)
theorem Sl.cut (h : Sl w sp cap xs) (k : Nat) (hk : k ≤ xs.length) : Sl w (cutA sp cap k) (cap - k) (xs.drop k) := by
  have hle := h.le
  refine ⟨by simp; omega, by have := h.max; omega, fun e => ?_, fun h0 => ?_⟩
  · unfold cutA at e
    split at e
    · omega
    · rcases sp with _ | a
      · have := h.nul rfl; omega
      · cases e
  · simp at h0
    obtain ⟨c, o, rfl, hl⟩ := h.lies (by omega)
    refine ⟨c, o + k, ?_, hl.drop k⟩
    unfold cutA
    rw [if_neg (by omega), Option.map_some, add_plain]
theorem Sl.first (h : Sl w sp cap xs) (k : Nat) : Sl w sp cap (xs.take k) := by
  have hle := h.le
  refine ⟨by simp; omega, h.max, h.nul, fun h0 => ?_⟩
  simp at h0
  obtain ⟨c, o, rfl, hl⟩ := h.lies (by omega)
  exact ⟨c, o, rfl, hl.take k⟩
end
section
variable {w : World} {ops : Array Oper} {rest : List Oper} {o : Oper} {a : Act} {Q : Exit → Act → World → Prop}
end
section
variable {w : World} {ops : Array Oper} {rest : List Oper} {o : Oper} {a : Act} {Q : Exit → Act → World → Prop}
end
end Go.Proofs.Ytdffbjjiojheoaa.Tn
-- from Gc
namespace Go.Proofs.Ytdffbjjiojheoaa.Tn
open Go.ChangeShapes Go.WideShapes Go.ChangeAt Go.RowKit Go.Proofs.Ytdffbjjiojheoaa.Fx Go.Proofs.Ytdffbjjiojheoaa.Rf
end Go.Proofs.Ytdffbjjiojheoaa.Tn
-- from Gd
namespace Go.Proofs.Ytdffbjjiojheoaa.Tn
open Go.ChangeShapes Go.WideShapes Go.ChangeAt Go.RowKit Go.Proofs.Ytdffbjjiojheoaa.Fx Go.Proofs.Ytdffbjjiojheoaa.Rf
end Go.Proofs.Ytdffbjjiojheoaa.Tn
-- from Ge
namespace Go.Proofs.Ytdffbjjiojheoaa.Tn
open Go.ChangeShapes Go.WideShapes Go.ChangeAt Go.RowKit Go.Proofs.Ytdffbjjiojheoaa.Fx Go.Proofs.Ytdffbjjiojheoaa.Rf
section
variable {W : World} {ops : Array Oper} {rest : List Oper} {o : Oper} {a : Act} {Q : Exit → Act → World → Prop}
end
end Go.Proofs.Ytdffbjjiojheoaa.Tn
-- from Gf
namespace Go.Proofs.Ytdffbjjiojheoaa.Tn
open Go.ChangeShapes Go.WideShapes Go.ChangeAt Go.RowKit Go.Proofs.Ytdffbjjiojheoaa.Fx Go.Proofs.Ytdffbjjiojheoaa.Rf
end Go.Proofs.Ytdffbjjiojheoaa.Tn
-- from Gq
namespace Go.Proofs.Ytdffbjjiojheoaa.Tn
open Go.ChangeShapes Go.WideShapes Go.ChangeAt Go.RowKit Go.Proofs.Ytdffbjjiojheoaa.Fx Go.Proofs.Ytdffbjjiojheoaa.Rf
section
variable {P : Program} {ops : Array Oper} {C : World → Prop} {Q : Act → Prop} {a : Act} {o : Oper} {rest : List Oper}
end
section
variable {P : Program} {ops : Array Oper} {C : World → Prop}
end
section
variable {P : Program} {F : Fence} {n : Nat} {b : Frame} {a : Act} {k : List Item} {cs : List Frame} {w : World} {Q : Exit → Act → World → Prop}
end
section
variable {P : Program} {ops : Array Oper} {C : World → Prop} {Pre : Nat → World → Prop} {Le : Nat → World → World → Prop} {Φ : (Nat → Value) → Nat → World → Value → Prop}
end
end Go.Proofs.Ytdffbjjiojheoaa.Tn
-- from Gi
namespace Go.Proofs.Ytdffbjjiojheoaa.Tn
open Go.ChangeShapes Go.WideShapes Go.ChangeAt Go.RowKit Go.Proofs.Ytdffbjjiojheoaa.Fx Go.Proofs.Ytdffbjjiojheoaa.Rf
/-- numbers that are answered, and what is wrong -/
def AnsE (w : World) (l : List Int) (err : Int) (e : Ending) (w' : World) : Prop := ∃ sp cap, e = .returned (.tuple #[.slice sp l.length cap, .int .i64 err]) ∧ Nums w' sp cap l ∧ Below w.heap.size w w'
theorem AnsE.no {w w' : World} {err : Int} (hb : Below w.heap.size w w') : AnsE w [] err (.returned (.tuple #[.slice none 0 0, .int .i64 err])) w' := ⟨none, 0, rfl, Nums.nil _, hb⟩
end Go.Proofs.Ytdffbjjiojheoaa.Tn
-- from Gh
namespace Go.Proofs.Ytdffbjjiojheoaa.Tn
open Go.ChangeShapes Go.WideShapes Go.ChangeAt Go.RowKit Go.Proofs.Ytdffbjjiojheoaa.Fx Go.Proofs.Ytdffbjjiojheoaa.Rf
section
variable {W : World} {ops : Array Oper} {rest : List Oper} {o : Oper} {a : Act} {Q : Exit → Act → World → Prop}
end
end Go.Proofs.Ytdffbjjiojheoaa.Tn
-- from Gu
namespace Go.Proofs.Ytdffbjjiojheoaa.Tn
open Go.ChangeShapes Go.WideShapes Go.ChangeAt Go.RowKit Go.Proofs.Ytdffbjjiojheoaa.Fx Go.Proofs.Ytdffbjjiojheoaa.Rf
end Go.Proofs.Ytdffbjjiojheoaa.Tn
-- from Gv
namespace Go.Proofs.Ytdffbjjiojheoaa.Tn
open Go.ChangeShapes Go.WideShapes Go.ChangeAt Go.RowKit Go.Proofs.Ytdffbjjiojheoaa.Fx Go.Proofs.Ytdffbjjiojheoaa.Rf
/-! ### what package tensor answers -/
def rowL (l : List Int) (c i : Nat) : List Int := (l.drop (i * c)).take c
def rowE (r c : Int) (l : List Int) (i : Int) : Int := if chkM r c l ≠ 0 then chkM r c l else if i < 0 ∨ r ≤ i then 10 else 0
def rowV (r c : Int) (l : List Int) (i : Int) : List Int := if rowE r c l i = 0 then rowL l c.toNat i.toNat else []
end Go.Proofs.Ytdffbjjiojheoaa.Tn
-- from Gw
namespace Go.Proofs.Ytdffbjjiojheoaa.Tn
open Go.ChangeShapes Go.WideShapes Go.ChangeAt Go.RowKit Go.Proofs.Ytdffbjjiojheoaa.Fx Go.Proofs.Ytdffbjjiojheoaa.Rf
theorem size_mat : (Try.prog.info? 35).map (·.size) = some 3 := by kernel_rfl
theorem MatAt.later {w W W' : World} {r c : Int} {sp : Option Addr} {n cap : Nat} (h : MatAt w r c sp n cap W) (hb : Below W.heap.size W W') : MatAt w r c sp n cap W' :=
  ⟨h.below.trans (hb.mono h.below.size), (hb.block _ (Array.getElem?_eq_some_iff.1 h.row).1).trans h.row⟩
/-- s[k:h] of a slice of numbers -/
theorem run_mid (sp : Option Addr) (m cap k h : Nat) (hk : k ≤ h) (hh : h ≤ cap) (w : World) : (Instr.slice 23 (.slice sp m cap) (some (.int .i64 (k : Int))) (some (.int .i64 (h : Int))) none).run Try.prog w = .ok (.slice (cutA sp cap k) (h - k) (cap - k)) w := by
  cases hq : Try.prog.info? 3 with
  | none => have := size3; simp [hq] at this
  | some i =>
    have hi : i.size = 1 := by have := size3; simpa [hq] using this
    simp only [Instr.slice, run_underlying Try.underlying23, Instr.sliceBounds, Instr.sliceBound, asIntOf, sizeOf, typeInfo, Sem.run_bind, Result.andThen_ok, Sem.run_pure, Sem.run_ite]
    simp [hq, hi, hk, hh, cutA]
theorem rowL_length {l : List Int} {C i R : Nat} (hl : l.length = R * C) (hi : i < R) : (rowL l C i).length = C := by
  unfold rowL
  have h : i * C + C ≤ R * C := by
    have := Nat.mul_le_mul_right C (show i + 1 ≤ R from hi)
    rw [Nat.add_mul, Nat.one_mul] at this
    exact this
  simp
  omega
theorem row_nums {w : World} {sp : Option Addr} {cap : Nat} {l : List Int} (h : Nums w sp cap l) (C i : Nat) (hi : i * C ≤ l.length) : Nums w (cutA sp cap (i * C)) (cap - i * C) (rowL l C i) := by
  have h1 := (Sl.cut h (i * C) (by simpa using hi)).first C
  unfold Nums rowL
  rw [List.map_take, List.map_drop]
  exact h1
theorem row_in {R C i : Nat} (hi : i < R) : i * C + C ≤ R * C := by
  have := Nat.mul_le_mul_right C (show i + 1 ≤ R from hi)
  rw [Nat.add_mul, Nat.one_mul] at this
  exact this
theorem chkM_ok {r c : Int} {l : List Int} {N : Nat} (hN : l.length = N) (h : chkM r c l = 0) : ∃ R C : Nat, r = (R : Int) ∧ c = (C : Int) ∧ 1 ≤ R ∧ R ≤ 512 ∧ 1 ≤ C ∧ C ≤ 64 ∧ N = R * C ∧ ∀ x ∈ l, isW x := by
  unfold chkM at h
  rw [hN] at h
  by_cases hs : sizeM r c N
  · rw [if_neg (fun hh => hh hs)] at h
    by_cases hw : ∀ x ∈ l, isW x
    · obtain ⟨h1, h2, h3, h4, h5⟩ := hs
      refine ⟨r.toNat, c.toNat, by omega, by omega, by omega, by omega, by omega, by omega, ?_, hw⟩
      have e : ((r.toNat * c.toNat : Nat) : Int) = r * c := by rw [Int.natCast_mul, Int.toNat_of_nonneg (by omega), Int.toNat_of_nonneg (by omega)]
      omega
    · rw [if_neg hw] at h; omega
  · rw [if_pos hs] at h; omega
end Go.Proofs.Ytdffbjjiojheoaa.Tn
-- from Ja
namespace Go.Proofs.Ytdffbjjiojheoaa.Tn
open Go.ChangeShapes Go.WideShapes Go.ChangeAt Go.RowKit Go.Proofs.Ytdffbjjiojheoaa.Fx Go.Proofs.Ytdffbjjiojheoaa.Rf
end Go.Proofs.Ytdffbjjiojheoaa.Tn
-- from Jc
namespace Go.Proofs.Ytdffbjjiojheoaa.Tn
set_option maxRecDepth 100000
open Go.ChangeShapes Go.WideShapes Go.ChangeAt Go.RowKit Go.Proofs.Ytdffbjjiojheoaa.Fx Go.Proofs.Ytdffbjjiojheoaa.Rf
/-- a copy of numbers -/
theorem made_none (w : World) : (w.alloc (.cells #[] 3)).ownsRow w.heap.size 3 1 (.slice (some ⟨w.heap.size, 0, none⟩) 0 0) 0 [] := World.ownsRow_made w #[] 0 (Nat.le_refl _) (Nat.zero_le _) rfl
set_option maxHeartbeats 4000000 in
theorem clone_any (w : World) (a : Addr) (cap N : Nat) (l : List Int) (hN : l.length = N) (hl : Nums w (some a) cap l) (hm : N ≤ 100000) :
    Calls Try.prog 53 #[.slice (some a) N cap] w (AnsN w l) := by
  have HL := Lib.hid hl
  have HN := Lib.hid hN
  have q22 : ∀ w : World, (binOp .eql 23 (.slice (some a) N cap) (.slice none 0 0)).run Try.prog w = .ok (.bool false) w := fun w => Lib.run_eql_slice_nil w _ 3 (some a) N cap 0 0 Try.underlying23
  clear hl hN
  go_enter Try.func53, Try.ntmps53
  go_wp2_with (refine wpList_append_sl 23 3 8 (.int .i64 0) Try.underlying23 info3 rfl (by decide) rfl (.tmp 5) (.tmp 6) rfl w.heap.size (.slice (some ⟨w.heap.size, 0, none⟩) 0 0) 0 N [] (l.map (Value.int .i64)) rfl (made_none w) (some a) cap rfl (by rw [List.length_map]; exact HN.out) (HL.out.below ((Below.refl _ _).alloc (Nat.le_refl _) _)) (one_ints l) (by omega) (by simp) ?_; intro v' w' hown hgr; obtain ⟨sv, cv, rfl, _, hnm⟩ := own_nums (l := l) (by simpa using hown); have HNm := Lib.hid hnm; have HB := Lib.hid (((Below.refl w.heap.size w).alloc (Nat.le_refl _) (.cells #[] 3)).trans (Below.ofGrown hgr (by simp) (fun k hk => by simp [Value.ownBlock] at hk; omega))); clear hown hgr hnm)
  go_ret
  refine ⟨sv, cv, ?_, HNm.out, HB.out⟩
  rw [HN.out]
  simp
end Go.Proofs.Ytdffbjjiojheoaa.Tn
-- from Jd
namespace Go.Proofs.Ytdffbjjiojheoaa.Tn
set_option maxRecDepth 100000
open Go.ChangeShapes Go.WideShapes Go.ChangeAt Go.RowKit Go.Proofs.Ytdffbjjiojheoaa.Fx Go.Proofs.Ytdffbjjiojheoaa.Rf
/-! ### the landed code: a row of a matrix -/
theorem ne0 {e : Int} (h : e ≠ 0) : (e != 0) = true := by simpa using h
theorem nums_some {w : World} {sp : Option Addr} {cap : Nat} {l : List Int} (h : Nums w sp cap l) (h1 : 1 ≤ l.length) : ∃ a, sp = some a := by
  obtain ⟨c, o, e, _⟩ := h.lies (by simp; omega)
  exact ⟨_, e⟩
set_option maxHeartbeats 4000000 in
theorem trow_any (w : World) (r c i : Int) (sp : Option Addr) (cap N : Nat) (l : List Int) (hN : l.length = N) (hl : Nums w sp cap l) (i1 : -9223372036854775808 ≤ i) (i2 : i ≤ 9223372036854775807) :
    Calls Try.prog 29 #[matV r c sp N cap, .int .i64 i] w (AnsE w (rowV r c l i) (rowE r c l i)) := by
  have HCk := Lib.hid (fun W (hb : Below w.heap.size w W) => mcheck_any W r c sp cap N l hN (hl.below hb))
  unfold matV at *
  by_cases hk : chkM r c l = 0
  · obtain ⟨R, C, rfl, rfl, r1, r2, k1, k2, hRC, hw⟩ := chkM_ok hN hk
    rw [hk] at HCk
    by_cases hi : 0 ≤ i ∧ i < (R : Int)
    · obtain ⟨q, hq⟩ : ∃ q : Nat, i = (q : Int) := ⟨i.toNat, by omega⟩
      subst hq
      obtain ⟨_, q2⟩ := hi
      have hqR : q < R := by omega
      have hX : rowE (R : Int) (C : Int) l (q : Int) = 0 := by unfold rowE; rw [if_neg (fun h => h hk), if_neg (by omega)]
      have hY : rowV (R : Int) (C : Int) l (q : Int) = rowL l C q := by unfold rowV; rw [if_pos hX, Int.toNat_natCast, Int.toNat_natCast]
      rw [hX, hY]
      have hrl := rowL_length (l := l) (C := C) (i := q) (R := R) (by omega) hqR
      have HRl := Lib.hid hrl
      have hin := row_in (C := C) hqR
      have hq1 : (q + 1) * C = q * C + C := by rw [Nat.add_mul, Nat.one_mul]
      have hRn := row_nums hl C q (by omega)
      obtain ⟨a, ha⟩ := nums_some hRn (by omega)
      have HRn := Lib.hid (fun W (hb : Below w.heap.size w W) => row_nums (hl.below hb) C q (by omega))
      have hsz : R * C ≤ 32768 := Nat.le_trans (Nat.mul_le_mul r2 k2) (by decide)
      have hcap := hl.cap
      obtain ⟨z, hz⟩ : ∃ z, q * C = z := ⟨_, rfl⟩
      rw [hz] at hin HRn ha hq1
      rw [ha] at HRn
      have kC := run_mid sp N cap z (z + C) (by omega) (by omega)
      rw [show z + C - z = C by omega, ha] at kC
      have hqc : (q : Int) * (C : Int) = (z : Int) := by rw [← hz, Int.natCast_mul]
      have hqc2 : ((q : Int) + 1) * (C : Int) = (z : Int) + (C : Int) := by
        have : (((q + 1) * C : Nat) : Int) = ((z + C : Nat) : Int) := by rw [hq1]
        rw [Int.natCast_mul, show ((q + 1 : Nat) : Int) = (q : Int) + 1 from rfl] at this
        rw [this]
        rfl
      have hzc : ((z + C : Nat) : Int) = (z : Int) + (C : Int) := by omega
      rw [hzc] at kC
      have f1 : decide ((q : Int) < 0) = false := by simp
      have f2 : decide ((R : Int) ≤ (q : Int)) = false := by simp; omega
      have f3 : decide (R ≤ q) = false := by simp; omega
      obtain ⟨X, hXX⟩ : ∃ X, rowL l C q = X := ⟨_, rfl⟩
      rw [hXX] at HRl HRn ⊢
      have HCl := Lib.hid (fun W (hb : Below w.heap.size w W) => clone_any W a (cap - z) C X HRl.out (HRn.out W hb) (by omega))
      have hzN : z + C ≤ 32768 := by omega
      clear hX hY hk hw hN hRC hz hXX hzc i1 i2 hl hRn hrl hcap hq1
      go_enter Try.func29, Try.ntmps29
      go_upto_region 1 with fail
      refine gen_world (Q := fun w => Code.wp _ _ _ _ w) _ (MatAt w (R : Int) (C : Int) sp N cap) (MatAt.made w (R : Int) (C : Int) sp N cap _ rfl) ?_
      intro W hW
      have HW := Lib.hid hW
      have HB0 := Lib.hid hW.below
      clear hW
      go_wp2_with (refine wpList_load_row rfl 35 (.tmp 2) rfl w.heap.size rfl 35 (matC (R : Int) (C : Int) sp N cap) (0, 0) _ HW.out.row Try.underlying35 rfl size_mat ?_)
      refine (HCk.out _ HB0.out).mono ?_
      rintro e w1 ⟨rfl, hb1⟩
      have HW1 := Lib.hid (HW.out.later hb1)
      have HB1 := Lib.hid HW1.out.below
      have c0 := HW1.out.c0
      have c1 := HW1.out.c1
      have c2 := HW1.out.c2
      clear hb1
      go_wp2_with fail
      refine (HCl.out _ HB1.out).mono ?_
      rintro e w2 ⟨s2, d2, rfl, hn2, hb2⟩
      have HB2 := Lib.hid (HB1.out.trans (hb2.mono HB1.out.size))
      have HN2 := Lib.hid hn2
      clear hb2 hn2
      go_wp2
      go_ret2
      exact ⟨s2, d2, rfl, HN2.out, HB2.out⟩
    · have hX : rowE (R : Int) (C : Int) l i = 10 := by unfold rowE; rw [if_neg (fun h => h hk), if_pos (by omega)]
      have hY : rowV (R : Int) (C : Int) l i = [] := by unfold rowV; rw [if_neg (by omega)]
      rw [hX, hY]
      by_cases hi0 : i < 0
      · have f1 : decide (i < 0) = true := by simpa using hi0
        clear hX hY hk hw hN hRC i1 i2 hl hi
        go_enter Try.func29, Try.ntmps29
        go_upto_region 1 with fail
        refine gen_world (Q := fun w => Code.wp _ _ _ _ w) _ (MatAt w (R : Int) (C : Int) sp N cap) (MatAt.made w (R : Int) (C : Int) sp N cap _ rfl) ?_
        intro W hW
        have HW := Lib.hid hW
        have HB0 := Lib.hid hW.below
        clear hW
        go_wp2_with (refine wpList_load_row rfl 35 (.tmp 2) rfl w.heap.size rfl 35 (matC (R : Int) (C : Int) sp N cap) (0, 0) _ HW.out.row Try.underlying35 rfl size_mat ?_)
        refine (HCk.out _ HB0.out).mono ?_
        rintro e w1 ⟨rfl, hb1⟩
        have HB1 := Lib.hid (HB0.out.trans (hb1.mono HB0.out.size))
        clear hb1
        go_wp2
        go_ret2
        exact AnsE.no HB1.out
      · have f1 : decide (i < 0) = false := by simpa using hi0
        have f2 : decide ((R : Int) ≤ i) = true := by simp; omega
        clear hX hY hk hw hN hRC i1 i2 hl hi
        go_enter Try.func29, Try.ntmps29
        go_upto_region 1 with fail
        refine gen_world (Q := fun w => Code.wp _ _ _ _ w) _ (MatAt w (R : Int) (C : Int) sp N cap) (MatAt.made w (R : Int) (C : Int) sp N cap _ rfl) ?_
        intro W hW
        have HW := Lib.hid hW
        have HB0 := Lib.hid hW.below
        clear hW
        go_wp2_with (refine wpList_load_row rfl 35 (.tmp 2) rfl w.heap.size rfl 35 (matC (R : Int) (C : Int) sp N cap) (0, 0) _ HW.out.row Try.underlying35 rfl size_mat ?_)
        refine (HCk.out _ HB0.out).mono ?_
        rintro e w1 ⟨rfl, hb1⟩
        have HW1 := Lib.hid (HW.out.later hb1)
        have HB1 := Lib.hid HW1.out.below
        have c0 := HW1.out.c0
        clear hb1
        go_wp2
        go_ret2
        exact AnsE.no HB1.out
  · have hX : rowE r c l i = chkM r c l := by unfold rowE; rw [if_pos hk]
    have hY : rowV r c l i = [] := by unfold rowV; rw [if_neg (by rw [hX]; exact hk)]
    rw [hX, hY]
    obtain ⟨E, hE⟩ : ∃ E, chkM r c l = E := ⟨_, rfl⟩
    rw [hE] at hk HCk ⊢
    have hE0 := ne0 hk
    clear hX hY hk hN i1 i2 hl hE
    go_enter Try.func29, Try.ntmps29
    go_upto_region 1 with fail
    refine gen_world (Q := fun w => Code.wp _ _ _ _ w) _ (MatAt w r c sp N cap) (MatAt.made w r c sp N cap _ rfl) ?_
    intro W hW
    have HW := Lib.hid hW
    have HB0 := Lib.hid hW.below
    clear hW
    go_wp2_with (refine wpList_load_row rfl 35 (.tmp 2) rfl w.heap.size rfl 35 (matC r c sp N cap) (0, 0) _ HW.out.row Try.underlying35 rfl size_mat ?_)
    refine (HCk.out _ HB0.out).mono ?_
    rintro e w1 ⟨rfl, hb1⟩
    have HB1 := Lib.hid (HB0.out.trans (hb1.mono HB0.out.size))
    clear hb1
    go_wp2
    go_ret2
    exact AnsE.no HB1.out
end Go.Proofs.Ytdffbjjiojheoaa.Tn
