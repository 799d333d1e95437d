import Derived.Test.YthjcjjppjjpjfaaIn
namespace Go.Proofs.Ythjcjjppjjpjfaa
open Go.ChangeShapes Go.WideShapes Go.ChangeAt Go.RowKit

/-- the first k of eight bytes as the document's answer adds them up -/
def acc (l : List Int) (k : Nat) : Int := val (l.take k) - (if 128 ≤ l.getD 0 0 then 256 ^ k else 0)
theorem acc_one (l : List Int) (h : 0 < l.length) : acc l 1 = l.getD 0 0 - (if 128 ≤ l.getD 0 0 then 256 else 0) := by
  unfold acc
  rw [val_take l 0 h]
  simp [val]
theorem acc_succ (l : List Int) (k : Nat) (h : k < l.length) : acc l (k + 1) = 256 * acc l k + l.getD k 0 := by
  unfold acc
  rw [val_take l k h, Int.pow_succ]
  split <;> omega
theorem acc_num (l : List Int) (h : l.length = 8) (hr : rng l) : acc l 8 = num l := by
  have hv := val_bound 8 l h hr
  have h7 : val l = 256 ^ 7 * l.getD 0 0 + val (l.drop 1) := by
    match l, h with
    | [a, b, c, d, e, f, g, i], _ => simp [val]; omega
  have hd := val_bound 7 (l.drop 1) (by simp [h]) (rng_drop hr 1)
  have h0 := hr (l.getD 0 0) (by simp [h])
  unfold acc num
  rw [List.take_of_length_le (by omega)]
  simp [IntKind.wrap, IntKind.bits, IntKind.signed]
  simp at hv h7 hd h0
  split <;> omega
theorem acc_in (l : List Int) (hr : rng l) : ∀ k, k < l.length → -(128 * 256 ^ k) ≤ acc l (k + 1) ∧ acc l (k + 1) < 128 * 256 ^ k
  | 0, h => by
    have h0 := hr (l.getD 0 0) (by simp [h])
    rw [acc_one l h]
    split <;> omega
  | k + 1, h => by
    have ih := acc_in l hr k (by omega)
    have h0 := hr (l.getD (k + 1) 0) (by simp [h])
    rw [acc_succ l (k + 1) h, Int.pow_succ]
    omega
theorem pow_le7 : ∀ k, k < 8 → (256 : Int) ^ k ≤ 72057594037927936
  | 0, _ => by decide
  | 1, _ => by decide
  | 2, _ => by decide
  | 3, _ => by decide
  | 4, _ => by decide
  | 5, _ => by decide
  | 6, _ => by decide
  | 7, _ => by decide
  | k + 8, h => absurd h (by omega)
theorem acc_small (l : List Int) (hr : rng l) (k : Nat) (h1 : 1 ≤ k) (h7 : k ≤ 7) (hl : l.length = 8) : -36028797018963968 ≤ acc l k ∧ acc l k < 36028797018963968 := by
  obtain ⟨j, rfl⟩ : ∃ j, k = j + 1 := ⟨k - 1, by omega⟩
  have h := acc_in l hr j (by omega)
  have h2 : (256 : Int) ^ (j + 1) ≤ 72057594037927936 := pow_le7 (j + 1) (by omega)
  rw [Int.pow_succ] at h2
  omega
set_option maxRecDepth 100000 in
set_option maxHeartbeats 4000000 in
theorem ref_int (w : World) (sp : Option Addr) (cap : Nat) (l : List Int) (hl : l.length = 8) (hb : Bytes w sp cap l) :
    Calls Try.prog 19 #[.slice sp 8 cap] w fun e w' => e = .returned (.int .i64 (num l)) ∧ w = w' := by
  obtain ⟨c, o, rfl, hc0⟩ := hb.at_ 0 (by omega)
  rw [Nat.add_zero] at hc0
  have h0 := hb.rng (l.getD 0 0) (by simp [hl])
  have ha := acc_one l (by omega)
  have hfst : ∃ k : Nat, 1 ≤ k ∧ k ≤ 8 ∧ Value.int .i64 1 = .int .i64 k ∧ Value.int .i64 (acc l 1) = .int .i64 (acc l k) := ⟨1, by omega, by omega, rfl, rfl⟩
  obtain ⟨x, hx⟩ : ∃ x, l.getD 0 0 = x := ⟨_, rfl⟩
  rw [hx] at hc0 h0 ha
  obtain ⟨h01, h02⟩ := h0
  have HL := Lib.hid hl
  have HB := Lib.hid hb
  clear hx hl hb
  by_cases h128 : 128 ≤ x
  · rw [if_pos h128] at ha
    have hd : decide (128 ≤ x) = true := by simpa using h128
    rw [ha] at hfst
    clear ha
    go_enter Try.func19, Try.ntmps19
    go_wp2
    go_loop [3, 4] (fun n i => ∃ k : Nat, 1 ≤ k ∧ k ≤ 8 ∧ i = .int .i64 k ∧ n = .int .i64 (acc l k)) (fun _ i => 8 - (intOf i).toNat)
    case atStart => exact hfst
    case round =>
      clear hfst hc0
      obtain ⟨k, hk1, hk, rfl, rfl⟩ := hrel
      by_cases hlt : k < 8
      · have hdt : decide ((k : Int) < 8) = true := by simp; omega
        obtain ⟨c', o', he, hck⟩ := HB.out.at_ k (by rw [HL.out]; exact hlt)
        cases he
        have hb := acc_small l HB.out.rng k hk1 (by omega) HL.out
        have hxr := HB.out.rng (l.getD k 0) (by simp [HL.out, hlt])
        have HS := Lib.hid (acc_succ l k (by rw [HL.out]; exact hlt))
        obtain ⟨y, hy⟩ : ∃ y, l.getD k 0 = y := ⟨_, rfl⟩
        obtain ⟨a, ha⟩ : ∃ a, acc l k = a := ⟨_, rfl⟩
        rw [hy] at hck hxr HS
        rw [ha] at hb HS ⊢
        obtain ⟨hb1, hb2⟩ := hb
        obtain ⟨hy1, hy2⟩ := hxr
        clear hy ha
        go_wp2
        go_round
        case rel => exact ⟨k + 1, by omega, by omega, by go_num, by rw [HS.out]⟩
        case measure => simp [intOf]; omega
      · obtain rfl : k = 8 := by omega
        clear hk hk1 hlt
        rw [show ((8 : Nat) : Int) = 8 from rfl]
        have hdf : decide ((8 : Int) < 8) = false := by decide
        have HA := Lib.hid (acc_num l HL.out HB.out.rng)
        obtain ⟨a, ha⟩ : ∃ a, acc l 8 = a := ⟨_, rfl⟩
        rw [ha] at HA ⊢
        clear ha
        go_wp2
        go_ret
        exact ⟨by rw [← HA.out]; rfl, rfl⟩
  · rw [if_neg h128, Int.sub_zero] at ha
    have hd : decide (128 ≤ x) = false := by simpa using h128
    rw [ha] at hfst
    clear ha
    go_enter Try.func19, Try.ntmps19
    go_wp2
    go_loop [3, 4] (fun n i => ∃ k : Nat, 1 ≤ k ∧ k ≤ 8 ∧ i = .int .i64 k ∧ n = .int .i64 (acc l k)) (fun _ i => 8 - (intOf i).toNat)
    case atStart => exact hfst
    case round =>
      clear hfst hc0
      obtain ⟨k, hk1, hk, rfl, rfl⟩ := hrel
      by_cases hlt : k < 8
      · have hdt : decide ((k : Int) < 8) = true := by simp; omega
        obtain ⟨c', o', he, hck⟩ := HB.out.at_ k (by rw [HL.out]; exact hlt)
        cases he
        have hb := acc_small l HB.out.rng k hk1 (by omega) HL.out
        have hxr := HB.out.rng (l.getD k 0) (by simp [HL.out, hlt])
        have HS := Lib.hid (acc_succ l k (by rw [HL.out]; exact hlt))
        obtain ⟨y, hy⟩ : ∃ y, l.getD k 0 = y := ⟨_, rfl⟩
        obtain ⟨a, ha⟩ : ∃ a, acc l k = a := ⟨_, rfl⟩
        rw [hy] at hck hxr HS
        rw [ha] at hb HS ⊢
        obtain ⟨hb1, hb2⟩ := hb
        obtain ⟨hy1, hy2⟩ := hxr
        clear hy ha
        go_wp2
        go_round
        case rel => exact ⟨k + 1, by omega, by omega, by go_num, by rw [HS.out]⟩
        case measure => simp [intOf]; omega
      · obtain rfl : k = 8 := by omega
        clear hk hk1 hlt
        rw [show ((8 : Nat) : Int) = 8 from rfl]
        have hdf : decide ((8 : Int) < 8) = false := by decide
        have HA := Lib.hid (acc_num l HL.out HB.out.rng)
        obtain ⟨a, ha⟩ : ∃ a, acc l 8 = a := ⟨_, rfl⟩
        rw [ha] at HA ⊢
        clear ha
        go_wp2
        go_ret
        exact ⟨by rw [← HA.out]; rfl, rfl⟩
end Go.Proofs.Ythjcjjppjjpjfaa
