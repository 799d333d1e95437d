/- Pools of rows in pages: the document's pool of the law's: counts, the first free page, how many are free. -/
import Derived.Test.YtcfhchdkohjbfaaRc
namespace Go.Proofs.Ytcfhchdkohjbfaa.Kv
set_option maxRecDepth 100000
open Go.ChangeShapes Go.WideShapes Go.ChangeAt Go.RowKit Go.Proofs.Ytcfhchdkohjbfaa.Tn
/-- how often a row holds a page, whatever its number -/
def oneZ : Option (List Int × List Nat) → Int → Nat
  | none, _ => 0
  | some (_, P), z => P.countP fun q : Nat => (q : Int) == z
def cntZ : List (Option (List Int × List Nat)) → Int → Nat
  | [], _ => 0
  | r :: l, z => oneZ r z + cntZ l z
theorem oneZ_nat (r : Option (List Int × List Nat)) (k : Nat) : oneZ r (k : Int) = one r k := by
  rcases r with _ | ⟨L, P⟩
  · rfl
  · show P.countP _ = P.count k
    unfold List.count
    congr 1
    funext q
    have : ((q : Int) == (k : Int)) = (q == k) := by
      rw [Bool.eq_iff_iff]
      simp only [beq_iff_eq]
      omega
    exact this
theorem cntZ_nat (k : Nat) : ∀ rows : List (Option (List Int × List Nat)), cntZ rows (k : Int) = cnt rows k
  | [] => rfl
  | r :: l => by simp only [cntZ, cnt, oneZ_nat, cntZ_nat k l]
theorem cntZ_neg (z : Int) (hz : z < 0) : ∀ rows : List (Option (List Int × List Nat)), cntZ rows z = 0
  | [] => rfl
  | none :: l => by simp [cntZ, oneZ, cntZ_neg z hz l]
  | some (L, P) :: l => by
    have h0 : P.countP (fun q : Nat => (q : Int) == z) = 0 := by
      rw [List.countP_eq_zero]
      intro q _ hq
      simp at hq; omega
    simp [cntZ, oneZ, cntZ_neg z hz l, h0]
theorem cntZ_append (z : Int) (a b : List (Option (List Int × List Nat))) : cntZ (a ++ b) z = cntZ a z + cntZ b z := by
  induction a with
  | nil => simp [cntZ]
  | cons r l ih => simp [cntZ, ih]; omega
theorem cntZ_take (z : Int) (rows : List (Option (List Int × List Nat))) (i : Nat) (q : Option (List Int × List Nat)) (h : rows[i]? = some q) : cntZ (rows.take (i + 1)) z = cntZ (rows.take i) z + oneZ q z := by
  rw [List.take_add_one, cntZ_append, h]
  show _ + (oneZ q z + 0) = _
  omega
theorem countP_take (p : Nat → Bool) (P : List Nat) (k x : Nat) (h : P[k]? = some x) : (P.take (k + 1)).countP p = (P.take k).countP p + if p x = true then 1 else 0 := by
  rw [List.take_add_one, List.countP_append, h]
  simp [List.countP_cons]
/-- rows hold few pages, and are few -/
def Low (D : Doc Int) : Prop := D.rows.length ≤ 1024 ∧ ∀ (id : Nat) (L : List Int) (P : List Nat), D.rows[id]? = some (some (L, P)) → P.length ≤ 256 ∧ L.length ≤ 16384
theorem cntZ_low {D : Doc Int} (h : Low D) (z : Int) : ∀ i, cntZ (D.rows.take i) z ≤ i * 256
  | 0 => by simp [cntZ]
  | i + 1 => by
    have ih := cntZ_low h z i
    cases hq : D.rows[i]? with
    | none => rw [List.take_of_length_le (by have := List.getElem?_eq_none_iff.1 hq; omega)]; rw [List.take_of_length_le (by have := List.getElem?_eq_none_iff.1 hq; omega)] at ih; omega
    | some q =>
      rw [cntZ_take z _ i q hq]
      have h1 : oneZ q z ≤ 256 := by
        rcases q with _ | ⟨L, P⟩
        · simp [oneZ]
        · exact Nat.le_trans List.countP_le_length (h.2 i L P hq).1
      omega
theorem nat_at {w : World} {v : Value} {b : Option Nat} {P : List Nat} (h : Row w 3 v b (P.map natV)) : ∃ sp cap, v = .slice sp P.length cap ∧ P.length ≤ cap ∧ cap ≤ maxLen ∧ ∀ (k x : Nat), P[k]? = some x → ∃ c, sp = some ⟨c, 0, none⟩ ∧ w.cell? ⟨c, k, none⟩ = some (.int .i64 (x : Int)) := by
  obtain ⟨sp, cap, e, h1, h2, hc⟩ := h.slice
  rw [List.length_map] at e h1
  exact ⟨sp, cap, e, h1, h2, fun k x hx => by
    obtain ⟨c, e1, _, e2⟩ := hc k (natV x) (by rw [List.getElem?_map, hx]; rfl)
    exact ⟨c, e1, e2⟩⟩
set_option maxHeartbeats 4000000 in
theorem count_ref {w : World} {τ : Tags} {r : Nat} {D : Doc Int} (h : Ref w τ r D) (hl : Low D) (z : Int) : Calls Try.prog 39 #[.pointer (some ⟨r, 0, none⟩), .int .i64 z] w fun e w' => e = .returned (.int .i64 (cntZ D.rows z : Int)) ∧ w = w' := by
  obtain ⟨ly, h⟩ := h
  obtain ⟨c0, _, _⟩ := h.cells
  obtain ⟨sp, cap, hv, hcap, hmax, hrow⟩ := h.slice
  rw [hv] at c0
  obtain ⟨N, hN⟩ : ∃ N, D.rows.length = N := ⟨_, rfl⟩
  have hN2 : N ≤ 1024 := by rw [← hN]; exact hl.1
  rw [hN] at c0 hcap
  have HN := Lib.hid hN
  have HR := Lib.hid hrow
  have HL := Lib.hid hl
  have HP := Lib.hid h.row
  clear h hv hrow hN hl
  go_enter Try.func39, Try.ntmps39
  go_wp2
  go_loopw [5, 6] (fun nv iv wr => ∃ (i c : Nat), i ≤ N ∧ iv = .int .i64 i ∧ nv = .int .i64 c ∧ cntZ (D.rows.take i) z = c ∧ w = wr) (fun _ iv _ => N - (intOf iv).toNat)
  case atStart => exact ⟨0, 0, by omega, rfl, rfl, rfl, rfl⟩
  case round =>
    obtain ⟨i, c, hi, rfl, rfl, k1, rfl⟩ := hrel
    have HC := Lib.hid k1
    have hc : c ≤ 262144 := by
      have := cntZ_low HL.out z i
      rw [k1] at this; omega
    clear k1
    by_cases hlt : i < N
    · have e1 : decide (i < N) = true := by simpa using hlt
      have e2 : decide ((i : Int) < (N : Int)) = true := by simp; omega
      have b1 : (0 : Int) ≤ (i : Int) := by omega
      have b2 : (i : Int) < (N : Int) := by omega
      obtain ⟨q, hq⟩ : ∃ q, D.rows[i]? = some q := ⟨_, List.getElem?_eq_getElem (by rw [HN.out]; exact hlt)⟩
      obtain ⟨rfl, _, u1, u2⟩ := HR.out i q hq
      have HS := Lib.hid (cntZ_take z _ i q hq)
      rcases q with _ | ⟨L, P⟩
      · have HC' : Hid (cntZ (D.rows.take (i + 1)) z = c) := Lib.hid (by rw [HS.out, HC.out]; rfl)
        simp only [Option.isSome_none, Bool.false_eq_true, if_false] at u1 u2
        clear hq
        go_wp2
        go_loopw [5, 7] (fun nv kv wr => nv = .int .i64 c ∧ kv = .int .i64 0 ∧ w = wr) (fun _ _ _ => 0)
        case atStart => exact ⟨rfl, rfl, rfl⟩
        case round =>
          obtain ⟨rfl, rfl, rfl⟩ := hrel
          go_wp2
          go_roundw
          case rel => exact ⟨i + 1, c, by omega, by go_num, rfl, HC'.out, trivial⟩
          case measure => simp [intOf]; omega
      · obtain ⟨_, _, hp, _⟩ := HP.out i L P hq
        obtain ⟨sq, cq, hpe, hpc, hpm, hat⟩ := nat_at hp
        obtain ⟨M, hM⟩ : ∃ M, P.length = M := ⟨_, rfl⟩
        have hM2 : M ≤ 256 := by rw [← hM]; exact (HL.out.2 i L P hq).1
        simp only [Option.isSome_some, if_true] at u1 u2
        rw [hpe] at u1
        rw [hM] at u1 hpc
        have HM := Lib.hid hM
        have HAt := Lib.hid hat
        clear hq hp hpe hM hat
        go_wp2
        go_loopw [5, 7] (fun nv kv wr => ∃ (k m : Nat), k ≤ M ∧ kv = .int .i64 k ∧ m ≤ k ∧ nv = .int .i64 ((c + m : Nat) : Int) ∧ (P.take k).countP (fun q : Nat => (q : Int) == z) = m ∧ w = wr) (fun _ kv _ => M - (intOf kv).toNat)
        case atStart => exact ⟨0, 0, by omega, rfl, by omega, by go_num, rfl, rfl⟩
        case round =>
          obtain ⟨k, m, hk, rfl, hmk, rfl, k1, rfl⟩ := hrel
          have HK := Lib.hid k1
          clear k1
          by_cases hkM : k < M
          · have e3 : decide (k < M) = true := by simpa using hkM
            have e4 : decide ((k : Int) < (M : Int)) = true := by simp; omega
            have b3 : (0 : Int) ≤ (k : Int) := by omega
            have b4 : (k : Int) < (M : Int) := by omega
            obtain ⟨x, hx⟩ : ∃ x, P[k]? = some x := ⟨_, List.getElem?_eq_getElem (by rw [HM.out]; exact hkM)⟩
            obtain ⟨cb, rfl, hcell⟩ := HAt.out k x hx
            have hstep := countP_take (fun q : Nat => (q : Int) == z) P k x hx
            rw [HK.out] at hstep
            obtain ⟨bb, hbb⟩ : ∃ bb, ((x : Int) == z) = bb := ⟨_, rfl⟩
            rw [hbb] at hstep
            clear hx
            cases bb with
            | true =>
              have HS2 : Hid ((P.take (k + 1)).countP (fun q : Nat => (q : Int) == z) = m + 1) := Lib.hid (by rw [hstep]; rfl)
              clear hstep
              go_wp2
              go_roundw
              case rel => exact ⟨k + 1, m + 1, by omega, by go_num, by omega, by go_num, HS2.out, trivial⟩
              case measure => simp [intOf]; omega
            | false =>
              have HS2 : Hid ((P.take (k + 1)).countP (fun q : Nat => (q : Int) == z) = m) := Lib.hid (by rw [hstep]; rfl)
              clear hstep
              go_wp2
              go_roundw
              case rel => exact ⟨k + 1, m, by omega, by go_num, by omega, by go_num, HS2.out, trivial⟩
              case measure => simp [intOf]; omega
          · obtain rfl : k = M := by omega
            have e3 : decide (k < k) = false := by simp
            have e4 : decide ((k : Int) < (k : Int)) = false := by simp
            have hone : oneZ (some (L, P)) z = m := by
              rw [← HK.out, List.take_of_length_le (by rw [HM.out]; exact Nat.le_refl _)]
              rfl
            have HC' : Hid (cntZ (D.rows.take (i + 1)) z = c + m) := Lib.hid (by rw [HS.out, HC.out, hone])
            clear hone
            go_wp2
            go_roundw
            case rel => exact ⟨i + 1, c + m, by omega, by go_num, by go_num, HC'.out, trivial⟩
            case measure => simp [intOf]; omega
    · obtain rfl : i = N := by omega
      have e1 : decide (i < i) = false := by simp
      have e2 : decide ((i : Int) < (i : Int)) = false := by simp
      have HC' : Hid (cntZ D.rows z = c) := Lib.hid (by rw [← HC.out, List.take_of_length_le (by rw [HN.out]; exact Nat.le_refl _)])
      go_wp2
      go_ret
      exact ⟨by rw [HC'.out]; rfl, rfl⟩
end Go.Proofs.Ytcfhchdkohjbfaa.Kv
