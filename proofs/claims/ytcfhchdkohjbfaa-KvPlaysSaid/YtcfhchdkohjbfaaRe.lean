/- Pools of rows in pages: the document's pool of the law's: the first free page, how many are free. -/
import Derived.Test.YtcfhchdkohjbfaaRd
import Derived.Test.YtcfhchdkohjbfaaLf
namespace Go.Proofs.Ytcfhchdkohjbfaa.Kv
set_option maxRecDepth 100000
open Go.ChangeShapes Go.WideShapes Go.ChangeAt Go.RowKit Go.Proofs.Ytcfhchdkohjbfaa.Tn
theorem freeAt_is {D : Doc Int} {i : Nat} (hi : i < D.pages) (h0 : cnt D.rows i = 0) (h : ∀ j, j < i → cnt D.rows j ≠ 0) : freeAt D = some i := by
  cases hf : freeAt D with
  | none => exact absurd h0 (freeAt_none hf i hi)
  | some a =>
    obtain ⟨j, c, h1, h2, h3, h4⟩ := free1_some _ _ _ hf
    rw [Nat.zero_add] at h1
    subst h1
    by_cases hlt : a < i
    · have h5 := cntPg_at (D := D) a (by omega)
      rw [h5] at h2
      cases h2
      exact absurd h3 (h a hlt)
    · by_cases hgt : i < a
      · exact absurd h0 (h4 i _ hgt (cntPg_at i hi))
      · rw [show a = i by omega]
def firstD (D : Doc Int) : Int := match freeAt D with
  | none => -1
  | some a => (a : Int)
set_option maxHeartbeats 4000000 in
theorem first_ref {w : World} {τ : Tags} {r : Nat} {D : Doc Int} (h : Ref w τ r D) (hl : Low D) (hp : D.pages ≤ 256) : Calls Try.prog 58 #[.pointer (some ⟨r, 0, none⟩)] w fun e w' => e = .returned (.int .i64 (firstD D)) ∧ w = w' := by
  have c1 : w.cell? ⟨r, 1, none⟩ = some (.int .i64 (D.pages : Int)) := by
    obtain ⟨ly, h⟩ := h
    exact h.cells.2.1
  have H := Lib.hid h
  have HL := Lib.hid hl
  obtain ⟨n, hn⟩ : ∃ n, D.pages = n := ⟨_, rfl⟩
  rw [hn] at c1 hp
  have HN := Lib.hid hn
  clear h hl hn
  go_enter Try.func58, Try.ntmps58
  go_wp2
  go_loopw [3] (fun iv wr => ∃ i : Nat, i ≤ n ∧ iv = .int .i64 i ∧ (∀ j, j < i → cnt D.rows j ≠ 0) ∧ w = wr) (fun iv _ => n - (intOf iv).toNat)
  case atStart => exact ⟨0, by omega, rfl, fun j hj => by omega, rfl⟩
  case round =>
    obtain ⟨i, hi, rfl, k1, rfl⟩ := hrel
    have HK := Lib.hid k1
    clear k1
    by_cases hlt : i < n
    · have e1 : decide (i < n) = true := by simpa using hlt
      have e2 : decide ((i : Int) < (n : Int)) = true := by simp; omega
      have hC := count_ref H.out HL.out (i : Int)
      rw [cntZ_nat] at hC
      obtain ⟨k, hk⟩ : ∃ k, cnt D.rows i = k := ⟨_, rfl⟩
      rw [hk] at hC
      have HC := Lib.hid hC
      have HKk := Lib.hid hk
      clear hC hk
      by_cases hz : k = 0
      · have e7 : ((k : Int) == 0) = true := by simp; omega
        have HA : Hid (firstD D = (i : Int)) := Lib.hid (by unfold firstD; rw [freeAt_is (by rw [HN.out]; exact hlt) (by rw [HKk.out]; exact hz) HK.out])
        clear hz
        go_wp2_with fail
        refine HC.out.mono ?_
        rintro e w9 ⟨rfl, rfl⟩
        go_wp2
        go_ret
        exact ⟨by rw [HA.out]; rfl, rfl⟩
      · have e7 : ((k : Int) == 0) = false := by simp; omega
        have HZ := Lib.hid hz
        clear hz
        go_wp2_with fail
        refine HC.out.mono ?_
        rintro e w9 ⟨rfl, rfl⟩
        go_wp2
        go_roundw
        case rel => exact ⟨i + 1, by omega, by go_num, fun j hj => by
          by_cases e : j = i
          · rw [e, HKk.out]; exact HZ.out
          · exact HK.out j (by omega), trivial⟩
        case measure => simp [intOf]; omega
    · obtain rfl : i = n := by omega
      have e1 : decide (i < i) = false := by simp
      have e2 : decide ((i : Int) < (i : Int)) = false := by simp
      have HA : Hid (firstD D = -1) := Lib.hid (by unfold firstD; rw [freeAt_of (fun k hk => HK.out k (by rw [← HN.out]; exact hk))])
      go_wp2
      go_ret
      exact ⟨by rw [HA.out]; rfl, rfl⟩
set_option maxHeartbeats 4000000 in
theorem free_ref {w : World} {τ : Tags} {r : Nat} {D : Doc Int} (h : Ref w τ r D) (hl : Low D) (hp : D.pages ≤ 256) : Calls Try.prog 40 #[.pointer (some ⟨r, 0, none⟩)] w fun e w' => e = .returned (.int .i64 (I.freeN D D.pages : Int)) ∧ w = w' := by
  have c1 : w.cell? ⟨r, 1, none⟩ = some (.int .i64 (D.pages : Int)) := by
    obtain ⟨ly, h⟩ := h
    exact h.cells.2.1
  have H := Lib.hid h
  have HL := Lib.hid hl
  obtain ⟨n, hn⟩ : ∃ n, D.pages = n := ⟨_, rfl⟩
  rw [hn] at c1 hp ⊢
  clear h hl hn
  go_enter Try.func40, Try.ntmps40
  go_wp2
  go_loopw [3, 4] (fun nv iv wr => ∃ i f : Nat, i ≤ n ∧ iv = .int .i64 i ∧ nv = .int .i64 f ∧ I.freeN D i = f ∧ w = wr) (fun _ iv _ => n - (intOf iv).toNat)
  case atStart => exact ⟨0, 0, by omega, rfl, rfl, rfl, rfl⟩
  case round =>
    obtain ⟨i, f, hi, rfl, rfl, k1, rfl⟩ := hrel
    have hf : f ≤ 256 := by
      have := I.freeN_le D i
      rw [k1] at this; omega
    have HF := Lib.hid k1
    clear k1
    by_cases hlt : i < n
    · have e1 : decide (i < n) = true := by simpa using hlt
      have e2 : decide ((i : Int) < (n : Int)) = true := by simp; omega
      have hC := count_ref H.out HL.out (i : Int)
      rw [cntZ_nat] at hC
      obtain ⟨k, hk⟩ : ∃ k, cnt D.rows i = k := ⟨_, rfl⟩
      rw [hk] at hC
      have HC := Lib.hid hC
      by_cases hz : k = 0
      · have e7 : ((k : Int) == 0) = true := by simp; omega
        have HF1 : Hid (I.freeN D (i + 1) = f + 1) := Lib.hid (by show I.freeN D i + _ = _; rw [HF.out, hk, if_pos hz])
        clear hC hk hz
        go_wp2_with fail
        refine HC.out.mono ?_
        rintro e w9 ⟨rfl, rfl⟩
        go_wp2
        go_roundw
        case rel => exact ⟨i + 1, f + 1, by omega, by go_num, by go_num, HF1.out, trivial⟩
        case measure => simp [intOf]; omega
      · have e7 : ((k : Int) == 0) = false := by simp; omega
        have HF1 : Hid (I.freeN D (i + 1) = f) := Lib.hid (by show I.freeN D i + _ = _; rw [HF.out, hk, if_neg hz]; rfl)
        clear hC hk hz
        go_wp2_with fail
        refine HC.out.mono ?_
        rintro e w9 ⟨rfl, rfl⟩
        go_wp2
        go_roundw
        case rel => exact ⟨i + 1, f, by omega, by go_num, rfl, HF1.out, trivial⟩
        case measure => simp [intOf]; omega
    · obtain rfl : i = n := by omega
      have e1 : decide (i < i) = false := by simp
      have e2 : decide ((i : Int) < (i : Int)) = false := by simp
      go_wp2
      go_ret
      exact ⟨by rw [HF.out]; rfl, rfl⟩
end Go.Proofs.Ytcfhchdkohjbfaa.Kv
