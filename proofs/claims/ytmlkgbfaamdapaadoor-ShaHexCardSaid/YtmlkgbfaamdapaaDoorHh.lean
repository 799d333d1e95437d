import Derived.Test.YtmlkgbfaamdapaaDoorHg
import Derived.Test.YtmlkgbfaamdapaaDoorHf
namespace Go.Proofs.YtmlkgbfaamdapaaDoor
open Go.ChangeShapes Go.WideShapes Go.ChangeAt Go.RowKit

theorem set_pad (l : List Int) (m : Nat) (x : Int) : (l ++ zs (m + 1)).set l.length x = l ++ [x] ++ zs m := by
  simp [zs, List.replicate_succ]
theorem hx_hl (d : List Int) : ∀ n, n ≤ 32 → hx d n = hl d n ++ zs (64 - 2 * n)
  | 0, _ => by simp [hx, hl]
  | n + 1, h => by
    have hl1 := hl_length d n
    have ih := hx_hl d n (by omega)
    rw [hx, ih, show 64 - 2 * n = (62 - 2 * n + 1) + 1 from by omega, ← hl1, set_pad]
    have e1 : (hl d n ++ [digI (d.getD n 0 / 16)]).length = (hl d n).length + 1 := by simp
    rw [← e1, set_pad, hl, hl1]
    congr 2
    omega
theorem hx_all (d : List Int) : hx d 32 = hl d 32 := by rw [hx_hl d 32 (by omega)]; simp [zs]
theorem app_get (a b : List Int) (n k : Nat) (h : a.length = n) : (a ++ b).getD (n + k) 0 = b.getD k 0 := by
  subst h
  simp [List.getElem?_append, show ¬ a.length + k < a.length by omega]
theorem hl_get (d : List Int) : ∀ n i, i < n → (hl d n).getD (2 * i) 0 = digI (d.getD i 0 / 16) ∧ (hl d n).getD (2 * i + 1) 0 = digI (d.getD i 0 % 16)
  | 0, i, h => absurd h (by omega)
  | n + 1, i, h => by
    have hl1 := hl_length d n
    by_cases hin : i < n
    · obtain ⟨h1, h2⟩ := hl_get d n i hin
      rw [hl, List.append_assoc]
      rw [List.getD_eq_getElem?_getD, List.getElem?_append_left (by omega), ← List.getD_eq_getElem?_getD, List.getD_eq_getElem?_getD (l := hl d n ++ _), List.getElem?_append_left (by omega), ← List.getD_eq_getElem?_getD]
      exact ⟨h1, h2⟩
    · obtain rfl : i = n := by omega
      rw [hl, List.append_assoc]
      exact ⟨app_get _ _ (2 * i) 0 hl1, app_get _ _ (2 * i) 1 hl1⟩
theorem digI_byte (y : Int) (h0 : 0 ≤ y) (h1 : y < 16) : 0 ≤ digI y ∧ digI y < 256 := by unfold digI; split <;> omega
theorem hexV_digI' (y : Int) (h0 : 0 ≤ y) (h1 : y < 16) : hexV (digI y) = y := by
  obtain ⟨n, rfl⟩ := Int.eq_ofNat_of_zero_le h0
  exact hexV_digI n (by omega)
theorem digI_hexV (c : Int) (h : 0 ≤ hexV c) : digI (hexV c) = c := by
  unfold hexV at *
  split at h <;> rename_i h1
  · rw [if_pos h1]; unfold digI; rw [if_pos (by omega)]; omega
  · rw [if_neg h1]
    split at h <;> rename_i h2
    · rw [if_pos h2]; unfold digI; rw [if_neg (by omega)]; omega
    · omega
theorem sv_str (l : List Int) (i : Nat) (hi : i < l.length) (h0 : 0 ≤ l.getD i 0) (h1 : l.getD i 0 < 256) : sv (strOfNums l) i = l.getD i 0 := by
  unfold sv
  rw [strOfNums_data]
  have e : (l.map fun n => UInt8.ofNat n.toNat).getD i 0 = UInt8.ofNat (l.getD i 0).toNat := by simp [hi]
  rw [e]
  simp only [UInt8.toNat_ofNat']
  omega
theorem set_pad' (l : List Int) (n m : Nat) (x : Int) (h : l.length = n) : (l ++ zs (m + 1)).set n x = l ++ [x] ++ zs m := by
  subst h; exact set_pad l m x
/-- the pairs of digits, one by one -/
def pr (s : ByteArray) : Nat → List Int
  | 0 => []
  | n + 1 => pr s n ++ [16 * hexV (sv s (2 * n)) + hexV (sv s (2 * n + 1))]
theorem pr_length (s : ByteArray) : ∀ n, (pr s n).length = n
  | 0 => rfl
  | n + 1 => by simp [pr, pr_length s n]
theorem un_pr (s : ByteArray) : ∀ n, n ≤ 32 → un s n = pr s n ++ zs (32 - n)
  | 0, _ => by simp [un, pr]
  | n + 1, h => by
    rw [un, un_pr s n (by omega), show 32 - n = (31 - n) + 1 from by omega, set_pad' _ _ _ _ (pr_length s n), pr]
    congr 2
    omega
theorem un_all (s : ByteArray) : un s 32 = pr s 32 := by rw [un_pr s 32 (by omega)]; simp [zs]
theorem pr_get (s : ByteArray) : ∀ n i, i < n → (pr s n).getD i 0 = 16 * hexV (sv s (2 * i)) + hexV (sv s (2 * i + 1))
  | 0, i, h => absurd h (by omega)
  | n + 1, i, h => by
    have hl1 := pr_length s n
    by_cases hin : i < n
    · have h1 := pr_get s n i hin
      rw [pr, List.getD_eq_getElem?_getD, List.getElem?_append_left (by omega), ← List.getD_eq_getElem?_getD]
      exact h1
    · obtain rfl : i = n := by omega
      rw [pr, List.getD_eq_getElem?_getD, List.getElem?_append_right (by omega), hl1]
      simp
theorem ext_getD {a b : List Int} (h : a.length = b.length) (hg : ∀ i, i < a.length → a.getD i 0 = b.getD i 0) : a = b := by
  apply List.ext_getElem h
  intro i h1 h2
  have := hg i h1
  simpa [h1, h2] using this
/-- Unhex of Hex -/
theorem un_hex (d : List Int) (hd : d.length = 32) (hb : Byt d) : un (strOfNums (hx d 32)) 32 = d ∧ good (strOfNums (hx d 32)) 32 ∧ (strOfNums (hx d 32)).size = 64 := by
  have hlen := hl_length d 32
  have key : ∀ i, i < 32 → hexV (sv (strOfNums (hx d 32)) (2 * i)) = d.getD i 0 / 16 ∧ hexV (sv (strOfNums (hx d 32)) (2 * i + 1)) = d.getD i 0 % 16 := by
    intro i hi
    obtain ⟨h1, h2⟩ := hl_get d 32 i hi
    obtain ⟨b0, b1⟩ := hb i
    have q1 := digI_byte (d.getD i 0 / 16) (by omega) (by omega)
    have q2 := digI_byte (d.getD i 0 % 16) (by omega) (by omega)
    rw [hx_all, sv_str _ _ (by omega) (by rw [h1]; exact q1.1) (by rw [h1]; exact q1.2), sv_str _ _ (by omega) (by rw [h2]; exact q2.1) (by rw [h2]; exact q2.2), h1, h2]
    exact ⟨hexV_digI' _ (by omega) (by omega), hexV_digI' _ (by omega) (by omega)⟩
  refine ⟨?_, ?_, by rw [strOfNums_size, hx_length]⟩
  · rw [un_all]
    refine ext_getD (by rw [pr_length, hd]) fun i hi => ?_
    rw [pr_length] at hi
    obtain ⟨k1, k2⟩ := key i hi
    rw [pr_get _ _ _ hi, k1, k2]
    omega
  · intro i hi
    obtain ⟨k1, k2⟩ := key i hi
    obtain ⟨b0, b1⟩ := hb i
    rw [k1, k2]
    omega
/-- Hex of Unhex -/
theorem hex_un (s : ByteArray) (hs : s.size = 64) (hg : good s 32) : strOfNums (hx (un s 32) 32) = s ∧ Byt (un s 32) ∧ (un s 32).length = 32 := by
  have hget : ∀ i, i < 32 → (un s 32).getD i 0 = 16 * hexV (sv s (2 * i)) + hexV (sv s (2 * i + 1)) := fun i hi => by rw [un_all]; exact pr_get s 32 i hi
  have hl1 := hl_length (un s 32) 32
  refine ⟨?_, ?_, by rw [un_all, pr_length]⟩
  · apply ByteArray.ext
    apply Array.ext'
    rw [strOfNums_data, hx_all]
    apply List.ext_getElem
    · have : s.data.toList.length = 64 := hs
      rw [List.length_map, this]; omega
    · intro i h1 h2
      have hi : i < 64 := by simpa [hl1] using h1
      have e : (hl (un s 32) 32).getD i 0 = sv s i := by
        obtain ⟨g1, g2⟩ := hg (i / 2) (by omega)
        have l1 := hexV_lt _ g1
        have l2 := hexV_lt _ g2
        obtain ⟨k1, k2⟩ := hl_get (un s 32) 32 (i / 2) (by omega)
        rw [hget (i / 2) (by omega)] at k1 k2
        rcases Nat.mod_two_eq_zero_or_one i with hm | hm
        · have ei : 2 * (i / 2) = i := by omega
          rw [ei] at k1 g1 l1
          rw [k1, show (16 * hexV (sv s i) + hexV (sv s (i + 1))) / 16 = hexV (sv s i) from by rw [show i + 1 = 2 * (i / 2) + 1 from by omega]; omega]
          exact digI_hexV _ g1
        · have ei : 2 * (i / 2) + 1 = i := by omega
          rw [ei] at k2 g2 l2
          rw [k2, show (16 * hexV (sv s (2 * (i / 2))) + hexV (sv s i)) % 16 = hexV (sv s i) from by omega]
          exact digI_hexV _ g2
      have hlt : i < (hl (un s 32) 32).length := by omega
      have e2 : (hl (un s 32) 32)[i] = sv s i := by rw [← e]; simp [hlt]
      rw [List.getElem_map, e2]
      unfold sv
      have h2' : i < s.data.size := h2
      simp
      rw [Array.getElem?_eq_getElem h2']
      rfl
  · intro i
    by_cases hi : i < 32
    · obtain ⟨g1, g2⟩ := hg i hi
      have l1 := hexV_lt _ g1
      have l2 := hexV_lt _ g2
      rw [hget i hi]
      omega
    · have : (un s 32).getD i 0 = 0 := by
        rw [List.getD_eq_getElem?_getD, List.getElem?_eq_none (by rw [un_all, pr_length]; omega)]
        rfl
      rw [this]
      omega
end Go.Proofs.YtmlkgbfaamdapaaDoor
