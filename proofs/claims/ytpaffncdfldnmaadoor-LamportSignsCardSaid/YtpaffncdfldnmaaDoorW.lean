import Derived.Test.YtpaffncdfldnmaaDoorV
import Derived.Laws.CopyOwn
namespace Go.Proofs.YtpaffncdfldnmaaDoor
open Go.RowKit

/-- n noughts -/
def zs (n : Nat) : List Int := List.replicate n 0
/-- 128 bytes that begin with l -/
def pad0 (l : List Int) : List Int := l ++ List.replicate (128 - l.length) 0
/-- a byte 128 behind it -/
def pad1 (l : List Int) : List Int := (pad0 l).set l.length 128
/-- k bytes of how many bits there are, from the end E backwards -/
def padn (f : List Int) (E n : Nat) : Nat → List Int
  | 0 => f
  | k + 1 => (padn f E n k).set (E - 1 - k) ((n : Int) * 8 / 2 ^ (8 * k) % 256)
theorem pad0_length (l : List Int) (h : l.length ≤ 128) : (pad0 l).length = 128 := by simp [pad0]; omega
theorem pad1_length (l : List Int) (h : l.length ≤ 128) : (pad1 l).length = 128 := by simp [pad1, pad0_length l h]
theorem padn_length (f : List Int) (E n : Nat) : ∀ k, (padn f E n k).length = f.length
  | 0 => rfl
  | k + 1 => by simp [padn, padn_length f E n k]
/-- where what is filled up ends -/
def padE (m : Nat) : Nat := if 64 < m + 9 then 128 else 64
/-- the last blocks -/
def padded (l : List Int) (n : Nat) : List Int := (padn (pad1 l) (padE l.length) n 8).take (padE l.length)
/-- the digest out of the state, what is left, and how many bytes there were -/
def fin (s : St) (l : List Int) (n : Nat) : List Int := (absorb s (padded l n)).digest
/-- the digest of bytes -/
def sum (l : List Int) : List Int := fin (absorb start l) (rest l) l.length
theorem fin_length (s : St) (l : List Int) (n : Nat) : (fin s l n).length = 32 := dig_length _ _
theorem sum_length (l : List Int) : (sum l).length = 32 := dig_length _ _

theorem splice_pad (l : List Int) : splice ((zs 128).map (Value.int .u8)) 0 (l.map (Value.int .u8)) = (pad0 l).map (Value.int .u8) := by
  simp only [splice, pad0, zs, List.map_append, List.map_replicate, List.take_zero, List.nil_append, Nat.zero_add, List.length_map, List.drop_replicate]
theorem sum_nil4 : (sum []).take 4 = [227, 176, 196, 66] := by decide +kernel
theorem sum_abc4 : (sum [97, 98, 99]).take 4 = [186, 120, 22, 191] := by decide +kernel

/-- a slice value that reads as the bytes l (nil: none) -/
structure Bytes (w : World) (sp : Option Addr) (cap : Nat) (l : List Int) : Prop where
  le : l.length ≤ cap
  max : cap ≤ maxLen
  lies : 0 < l.length → ∃ c o, sp = some ⟨c, o, none⟩ ∧ Lies w c o l
theorem Bytes.src {w : World} {sp : Option Addr} {cap : Nat} {l : List Int} (h : Bytes w sp cap l) {w' : World} (hk : ∀ a v, w.cell? a = some v → w'.cell? a = some v) (g : Nat) :
    0 < (l.map (Value.int .u8)).length → (some ⟨g, 0, none⟩ : Option Addr) = some ⟨g, 0, none⟩ ∧ ∃ ad, sp = some ad ∧ ∀ j v, (l.map (Value.int .u8))[j]? = some v → w'.cell? (ad.add j) = some v := by
  intro hp
  obtain ⟨c, o, rfl, hl⟩ := h.lies (by simpa using hp)
  refine ⟨rfl, _, rfl, fun j v hv => ?_⟩
  have hj : j < l.length := by
    by_cases hj : j < l.length
    · exact hj
    · simp [show l[j]? = none by simp; omega] at hv
  have hadd : (⟨c, o, none⟩ : Addr).add j = ⟨c, o + j, none⟩ := by unfold Addr.add; split <;> simp_all
  rw [hadd]
  refine hk _ _ ((hl j hj).trans ?_)
  simp [hj] at hv
  simp [hj, hv, List.getD]
theorem map_one (l : List Int) : ∀ v ∈ l.map (Value.int .u8), v.oneCell' = true := by
  intro v hv
  obtain ⟨x, _, rfl⟩ := List.mem_map.1 hv
  rfl
end Go.Proofs.YtpaffncdfldnmaaDoor
