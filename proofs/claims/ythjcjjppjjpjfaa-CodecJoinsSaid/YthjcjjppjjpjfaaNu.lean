import Derived.Test.YthjcjjppjjpjfaaKb
namespace Go.Proofs.Ythjcjjppjjpjfaa
open Go.ChangeShapes Go.WideShapes Go.ChangeAt Go.RowKit

/-- the number of eight bytes, read as int64 -/
def num (l : List Int) : Int := IntKind.i64.wrap (val l)
theorem or_byte (v x : Int) (h1 : 0 ≤ v) (h2 : v < 72057594037927936) (h3 : 0 ≤ x) (h4 : x < 256) : bits .or .u64 (IntKind.u64.wrap (v * 256)) x = 256 * v + x := by
  obtain ⟨a, rfl⟩ := Int.eq_ofNat_of_zero_le h1
  obtain ⟨b, rfl⟩ := Int.eq_ofNat_of_zero_le h3
  have e : IntKind.u64.wrap ((a : Int) * 256) = ((a * 256 : Nat) : Int) := by
    simp [IntKind.wrap, IntKind.bits, IntKind.signed]; omega
  rw [e, u64_or_nat _ _ (by omega) (by omega), nat_join 8 _ _ (by omega) (by omega)]
  omega
theorem pow_small : ∀ (k : Nat) (v : Int), k < 8 → v < 256 ^ k → v < 72057594037927936
  | 0, v, _, h => by simp at h; omega
  | 1, v, _, h => by simp at h; omega
  | 2, v, _, h => by simp at h; omega
  | 3, v, _, h => by simp at h; omega
  | 4, v, _, h => by simp at h; omega
  | 5, v, _, h => by simp at h; omega
  | 6, v, _, h => by simp at h; omega
  | 7, v, _, h => by simp at h; omega
  | k + 8, _, hk, _ => absurd hk (by omega)
theorem val_take (l : List Int) (k : Nat) (h : k < l.length) : val (l.take (k + 1)) = 256 * val (l.take k) + l.getD k 0 := by
  rw [List.take_succ_eq_append_getElem h, val_snoc]
  simp [h]
set_option maxRecDepth 100000 in
set_option maxHeartbeats 2000000 in
theorem number_any (l : List Int) (w : World) (hl : l.length = 8) (hr : rng l) : Calls Try.prog 24 #[.agg (rowB l)] w fun e w' => e = .returned (.int .i64 (num l)) ∧ Below w.heap.size w w' := by
  go_enter Try.func24, Try.ntmps24
  go_wp2
  have hcell : ∀ i, i < 8 → (w.alloc (.cells (rowB l) 47)).cell? ⟨w.heap.size, i, none⟩ = some (.int .u8 (l.getD i 0)) := by
    intro i hi
    rw [cell_of_row _ _ _ _ _ _ (heap_alloc_new _ _), rowB_get _ _ (by omega)]
  have HC := Lib.hid hcell
  have HL := Lib.hid hl
  have HR : Hid (rng l) := hr
  clear hcell hl hr
  go_loop [3, 5] (fun b i => ∃ k : Nat, k ≤ 8 ∧ i = .int .i64 k ∧ b = .int .u64 (val (l.take k))) (fun _ i => 8 - (intOf i).toNat)
  case atStart => exact ⟨0, by omega, rfl, rfl⟩
  case round =>
    obtain ⟨k, hk, rfl, rfl⟩ := hrel
    by_cases hlt : k < 8
    · have hdt : decide ((k : Int) < 8) = true := by simp; omega
      have c1 := HC.out k hlt
      have hx : 0 ≤ l.getD k 0 ∧ l.getD k 0 < 256 := HR.out _ (by simp [HL.out, hlt])
      obtain ⟨h1, h2⟩ := val_bound k (l.take k) (by simp [HL.out]; omega) (rng_take HR.out k)
      obtain ⟨x, hX⟩ : ∃ x, l.getD k 0 = x := ⟨_, rfl⟩
      obtain ⟨v, hV⟩ : ∃ v, val (l.take k) = v := ⟨_, rfl⟩
      rw [hX] at c1 hx
      rw [hV] at h1 h2 ⊢
      have HX := Lib.hid hX
      have HV := Lib.hid hV
      clear hX hV
      have h3 : v < 72057594037927936 := pow_small k v hlt h2
      obtain ⟨hx1, hx2⟩ := hx
      have ho := or_byte v x h1 h3 hx1 hx2
      have HT := Lib.hid (val_take l k (by rw [HL.out]; exact hlt))
      rw [HX.out, HV.out] at HT
      clear h1 h2 h3
      go_wp2
      go_round
      case rel => exact ⟨k + 1, by omega, by go_num, by rw [HT.out]⟩
      case measure => simp [intOf]; omega
    · obtain rfl : k = 8 := by omega
      clear hk hlt
      rw [show ((8 : Nat) : Int) = 8 from rfl, List.take_of_length_le (by rw [HL.out]; omega)]
      have hdf : decide ((8 : Int) < 8) = false := by decide
      have hn : IntKind.i64.wrap (val l) = num l := rfl
      go_wp2
      go_ret
      exact ⟨rfl, (Below.refl _ _).alloc (Nat.le_refl _) _⟩
end Go.Proofs.Ythjcjjppjjpjfaa
