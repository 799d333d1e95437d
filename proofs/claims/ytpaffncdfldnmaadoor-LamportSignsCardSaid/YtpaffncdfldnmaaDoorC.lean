import Derived.Test.YtpaffncdfldnmaaDoorB
import Derived.Test.YtpaffncdfldnmaaDoorU
namespace Go.Proofs.YtpaffncdfldnmaaDoor
open Go.ChangeShapes Go.WideShapes Go.ChangeAt Go.RowKit

theorem Un.lies {w w1 : World} {p : Nat} {ty : TypeId} {r : Array Value} {s0 s1 : St} (h0 : w.heap[p]? = some (.cells (rowSt s0.list r) ty (0, 0))) (k : Un w p ty r s1.list w1)
    {c o : Nat} {l : List Int} (ha : c ≠ p ∨ 8 ≤ o) (h : Lies w c o l) : Lies w1 c o l :=
  fun i hi => Un.kept rfl rfl h0 k (a := ⟨c, o + i, none⟩) (by simp only; omega) rfl (h i hi)
theorem Un.kc {w w1 : World} {p : Nat} {ty : TypeId} {r : Array Value} {l : List Int} (k : Un w p ty r l w1) (hp : p ≠ 1) (h : Kc w) : Kc w1 :=
  fun i hi => k.grown.cell (h i hi) (by simp only [ne_eq, Option.some.injEq]; omega)

/-- what takeBlocks answers: a slice of the rest -/
def Rest (w : World) (p : Nat) (ty : TypeId) (r : Array Value) (s : St) (c o : Nat) (l : List Int) (e : Ending) (w' : World) : Prop :=
  ∃ o' cap' : Nat, e = .returned (.slice (some ⟨c, o', none⟩) (rest l).length cap') ∧ o ≤ o' ∧ (rest l).length ≤ cap' ∧ cap' ≤ maxLen ∧ Lies w' c o' (rest l) ∧ Un w p ty r (absorb s l).list w'

def sliceLen : Value → Nat | .slice _ n _ => n | _ => 0
/-- how the loop of takeBlocks stands -/
def Rel (w : World) (p : Nat) (ty : TypeId) (r : Array Value) (s : St) (c o : Nat) (l : List Int) (v : Value) (wr : World) : Prop :=
  ∃ (s' : St) (l' : List Int) (o' cap' : Nat), v = .slice (some ⟨c, o', none⟩) l'.length cap' ∧ absorb s' l' = absorb s l ∧ rest l' = rest l ∧ o ≤ o' ∧ l'.length ≤ cap' ∧ cap' ≤ maxLen ∧ Lies wr c o' l' ∧ Un w p ty r s'.list wr

set_option maxRecDepth 100000 in
set_option maxHeartbeats 4000000 in
theorem take_some (p c o cap : Nat) (w : World) (s : St) (r : Array Value) (ty : TypeId) (l : List Int) (hlc : l.length ≤ cap) (hm : cap ≤ maxLen) (hd : Lies w c o l) (hdis : c ≠ p ∨ 8 ≤ o)
    (hp : w.heap[p]? = some (.cells (rowSt s.list r) ty (0, 0))) (hk : Kc w) (hp1 : p ≠ 1) :
    Calls Tryd.prog 24 #[.pointer (some ⟨p, 0, none⟩), .slice (some ⟨c, o, none⟩) l.length cap] w (Rest w p ty r s c o l) := by
  have hu0 : Un w p ty r s.list w := ⟨⟨rfl, rfl, rfl, Nat.le_refl _, fun _ _ _ => rfl⟩, hp⟩
  have hr0 : Rel w p ty r s c o l (.slice (some ⟨c, o, none⟩) l.length cap) w := ⟨s, l, o, cap, rfl, rfl, rfl, Nat.le_refl _, hlc, hm, hd, hu0⟩
  have HK : Hid (Kc w) := hk
  clear hu0 hd hp hk hlc hm
  generalize hn : l.length = n at hr0 ⊢
  clear hn
  go_enter Tryd.func24, Tryd.ntmps24
  go_wp2
  go_step3
  go_wp2
  go_step3
  go_wp2
  go_loopw [1] (fun v wr => Rel w p ty r s c o l v wr) (fun v _ => sliceLen v)
  case atStart => exact hr0
  case round =>
    clear hr0
    obtain ⟨s', l', o', cap', rfl, ha, hrs, ho, hc', hm', hd, hu⟩ := hrel
    have HA := Lib.hid ha
    have HR := Lib.hid hrs
    clear ha hrs
    obtain ⟨n', hn'⟩ : ∃ n', l'.length = n' := ⟨_, rfl⟩
    have HN := Lib.hid hn'
    rw [hn'] at hc' ⊢
    clear hn'
    unfold maxLen at hm'
    by_cases hlt : n' < 64
    · have hdt : decide ((n' : Int) < 64) = true := by simp; omega
      go_wp2
      try rw [Exit.noGoto_ret]
      go_ret
      rw [← HN.out]
      have e1 := rest_few l' (by rw [HN.out]; exact hlt)
      have e2 := absorb_few s' l' (by rw [HN.out]; exact hlt)
      rw [HR.out] at e1
      rw [HA.out] at e2
      subst e2
      rw [← e1] at hd ⊢
      refine ⟨o', cap', rfl, ho, ?_, hm', hd, hu⟩
      rw [e1, HN.out]; exact hc'
    · have hdt : decide ((n' : Int) < 64) = false := by simp; omega
      have h64 : 64 ≤ l'.length := by rw [HN.out]; omega
      have hd1 := hd.take 64
      have hd2 := hd.drop 64
      have hl1 : (l'.take 64).length = 64 := by simp; omega
      have hl2 : (l'.drop 64).length = n' - 64 := by rw [List.length_drop, HN.out]
      have ha2 := absorb_more s' l' h64
      have hr2 := rest_more l' h64
      rw [HA.out] at ha2
      rw [HR.out] at hr2
      have H1 := Lib.hid hl1
      have H2 := Lib.hid hl2
      have HA2 := Lib.hid ha2
      have HR2 := Lib.hid hr2
      clear HA HR ha2 hr2 hl1 hl2 hd
      have hk' : Kc wr := hu.kc hp1 HK.out
      have HK' : Hid (Kc wr) := hk'
      clear hk'
      by_cases hcap : cap' = 64
      · subst hcap
        obtain rfl : n' = 64 := by omega
        rw [show ((64 : Nat) : Int) = 64 from rfl] at hdt
        clear hlt hc'
        go_wp2_with fail
        refine (turn0 p c o' wr s' r ty (l'.take 64) H1.out (fun i hi => hd1 i (by rw [H1.out]; exact hi)) hu.row HK'.out).mono ?_
        rintro e w1 ⟨rfl, hu1⟩
        go_wp2
        go_roundw
        case rel =>
          have hnil : l'.drop 64 = [] := List.eq_nil_of_length_eq_zero H2.out
          exact ⟨s'.turn (l'.take 64), l'.drop 64, o', 0, by rw [hnil]; rfl, HA2.out.symm, HR2.out.symm, ho, by rw [hnil]; exact Nat.le_refl _, by unfold maxLen; omega, by rw [hnil]; intro i hi; simp at hi, hu.trans hu1⟩
        case measure => simp [sliceLen]
      · have hlc : 64 < cap' := by omega
        go_wp2_with fail
        refine (turn0 p c o' wr s' r ty (l'.take 64) H1.out (fun i hi => hd1 i (by rw [H1.out]; exact hi)) hu.row HK'.out).mono ?_
        rintro e w1 ⟨rfl, hu1⟩
        go_wp2
        go_roundw
        case rel =>
          exact ⟨s'.turn (l'.take 64), l'.drop 64, o' + 64, cap' - 64, by rw [H2.out], HA2.out.symm, HR2.out.symm, by omega, by rw [H2.out]; omega, by unfold maxLen; omega, hu1.lies hu.row (by rcases hdis with h | h <;> omega) hd2, hu.trans hu1⟩
        case measure => simp [sliceLen]; omega

theorem take_nil (p : Nat) (w : World) : Calls Tryd.prog 24 #[.pointer (some ⟨p, 0, none⟩), .slice none 0 0] w fun e w' => e = .returned (.slice none 0 0) ∧ w = w' := by
  have hdt : decide ((0 : Int) < 64) = true := by decide
  go_enter Tryd.func24, Tryd.ntmps24
  go_wp2
  go_step3
  go_wp2
  go_step3
  go_wp2
  refine wp_loop_rounds 1 ?_
  rw [rounds_succ]
  go_wp2
  try rw [Exit.noGoto_ret]
  go_ret
  exact ⟨rfl, rfl⟩
end Go.Proofs.YtpaffncdfldnmaaDoor
