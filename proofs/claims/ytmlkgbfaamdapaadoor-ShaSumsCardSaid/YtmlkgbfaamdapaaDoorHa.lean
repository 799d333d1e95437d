import Derived.Test.YtmlkgbfaamdapaaDoorH
import Derived.Laws.BytesArg
import Derived.Laws.Externs
namespace Go.Proofs.YtmlkgbfaamdapaaDoor
open Go.ChangeShapes Go.WideShapes Go.ChangeAt Go.RowKit

/-- the digits -/
def hexD : ByteArray := ⟨#[48, 49, 50, 51, 52, 53, 54, 55, 56, 57, 97, 98, 99, 100, 101, 102]⟩
def digI (n : Int) : Int := if n < 10 then 48 + n else 87 + n
/-- the digits of the first n bytes of d, then noughts -/
def hx (d : List Int) : Nat → List Int
  | 0 => zs 64
  | n + 1 => ((hx d n).set (2 * n) (digI (d.getD n 0 / 16))).set (2 * n + 1) (digI (d.getD n 0 % 16))
theorem hx_length (d : List Int) : ∀ n, (hx d n).length = 64
  | 0 => rfl
  | n + 1 => by simp [hx, hx_length d n]
theorem digit_at : ∀ n : Nat, n < 16 → hexD.data.toList.getD n 0 = UInt8.ofNat (digI n).toNat ∧ (digI n).toNat < 256 ∧ 0 ≤ digI n := by decide +kernel
theorem run_digit (k : IntKind) (y : Int) (h0 : 0 ≤ y) (h1 : y < 16) (w : World) : (Instr.index 9 (.string hexD) (.int k y)).run Tryd.prog w = .ok (.int .u8 (digI y)) w := by
  obtain ⟨n, rfl⟩ := Int.eq_ofNat_of_zero_le h0
  have hn : n < 16 := by omega
  have hs : hexD.size = 16 := rfl
  rw [run_index_string (h := Tryd.underlying9), dif_pos ⟨by omega, by rw [hs]; omega⟩]
  obtain ⟨h2, h3, h4⟩ := digit_at n hn
  have h5 : hexD[(n : Int).toNat]'(by rw [hs]; omega) = UInt8.ofNat (digI n).toNat := by
    rw [← h2]
    simp [ByteArray.getElem_eq_getElem_data]
    rw [Array.getElem?_eq_getElem (show n < hexD.data.size from hn)]
    rfl
  rw [h5]
  congr 2
  simp only [UInt8.toNat_ofNat']
  omega
theorem and15 : ∀ n : Nat, n < 256 → bits .and .u8 (n : Int) 15 = (n : Int) % 16 := by decide +kernel
theorem and15' (x : Int) (h0 : 0 ≤ x) (h1 : x < 256) : bits .and .u8 x 15 = x % 16 := by
  obtain ⟨n, rfl⟩ := Int.eq_ofNat_of_zero_le h0
  exact and15 n (by omega)
/-- every number of d is a byte's -/
def Byt (d : List Int) : Prop := ∀ i, 0 ≤ d.getD i 0 ∧ d.getD i 0 < 256

theorem Two.box (w : World) (t t' : TypeId) (z l : List Int) (Y : Array Value) (hY : Y = rowB l) : Two w t z l t' ((w.alloc (.cells (rowB z) t)).alloc (.cells Y t')) := Two.start w t t' z l _ _ rfl hY

set_option maxRecDepth 100000 in
set_option maxHeartbeats 2000000 in
theorem hex_any (w : World) (d : List Int) (hd : d.length = 32) (hb : Byt d) :
    Calls Tryd.prog 15 #[.agg (rowB d)] w fun e w' => e = .returned (.string (strOfNums (hx d 32))) ∧ Below w.heap.size w w' := by
  have HD := Lib.hid hd
  have HB : Hid (Byt d) := hb
  have HZ := Lib.hid (show (Tryd.prog.info? 25).map (·.size) = some (rowB d).size by rw [rowB_size, hd]; exact size25)
  clear hd hb
  go_enter Tryd.func15, Tryd.ntmps15
  go_wp2_with (refine wpList_load_row rfl 25 (.tmp 1) rfl w.heap.size rfl 25 (rowB d) (0, 0) _ (heap_alloc2_old _ _ _) Tryd.underlying25 rfl HZ.out ?_)
  go_loopw [7] (fun i wr => ∃ n : Nat, n ≤ 32 ∧ i = .int .i64 n ∧ Two w 25 d (hx d n) 51 wr) (fun i _ => 32 - (intOf i).toNat)
  case atStart => exact ⟨0, by omega, rfl, Two.box w 25 51 d (zs 64) _ (by kernel_rfl)⟩
  case round =>
    obtain ⟨n, hn, rfl, ht⟩ := hrel
    by_cases hlt : n < 32
    · have hdt : decide ((n : Int) < 32) = true := by simp; omega
      have hix := run_index_row (P := Tryd.prog) 25 5 32 .u8 Tryd.underlying25 Tryd.underlying5 size5 (rowB d) n hlt _ (rowB_get d n (by rw [HD.out]; exact hlt))
      obtain ⟨b0, b1⟩ := HB.out n
      have hs : hx d (n + 1) = ((hx d n).set (2 * n) (digI (d.getD n 0 / 16))).set (2 * n + 1) (digI (d.getD n 0 % 16)) := rfl
      obtain ⟨x, hxx⟩ : ∃ x, d.getD n 0 = x := ⟨_, rfl⟩
      rw [hxx] at hix b0 b1 hs
      have HS := Lib.hid hs
      have HL := Lib.hid (hx_length d n)
      clear hs hxx
      have i1 : ∀ w, (Instr.index 9 (.string ⟨#[48, 49, 50, 51, 52, 53, 54, 55, 56, 57, 97, 98, 99, 100, 101, 102]⟩) (.int .u8 (x / 16))).run Tryd.prog w = .ok (.int .u8 (digI (x / 16))) w := run_digit .u8 (x / 16) (by omega) (by omega)
      have i2 : ∀ w, (Instr.index 9 (.string ⟨#[48, 49, 50, 51, 52, 53, 54, 55, 56, 57, 97, 98, 99, 100, 101, 102]⟩) (.int .u8 (x % 16))).run Tryd.prog w = .ok (.int .u8 (digI (x % 16))) w := run_digit .u8 (x % 16) (by omega) (by omega)
      have i3 := and15' x b0 b1
      generalize hx d n = L at ht HL HS
      have c1 := ht.fl.cell (2 * n) (by rw [HL.out]; omega)
      have f1 := ht.fl.free (2 * n)
      have ht2 := ht.put (2 * n) (digI (x / 16))
      have c2 := ht2.fl.cell (2 * n + 1) (by rw [List.length_set, HL.out]; omega)
      have f2 := ht2.fl.free (2 * n + 1)
      have HT := Lib.hid (ht2.put (2 * n + 1) (digI (x % 16)))
      clear ht ht2 b0 b1
      go_wp2
      clear c1 f1 c2 f2 i1 i2 i3 hix
      go_roundw
      case rel => exact ⟨n + 1, by omega, by go_num, by rw [HS.out]; exact HT.out⟩
      case measure => simp [intOf]; omega
    · obtain rfl : n = 32 := by omega
      clear hn hlt
      rw [show ((32 : Nat) : Int) = 32 from rfl]
      have hdf : decide ((32 : Int) < 32) = false := by decide
      have hcv := run_convert_bytes_arg (P := Tryd.prog) wr 22 5 Tryd.underlying22 Tryd.underlying5 (w.heap.size + 1) 0 64 64 (hx d 32) (hx_length d 32) (fun i hi => by rw [Nat.zero_add]; exact ht.fl.cell i (by rw [hx_length]; exact hi)) 9 Tryd.underlying9
      have HBl := Lib.hid ht.fl.below
      clear ht
      obtain ⟨S, hS⟩ : ∃ S, strOfNums (hx d 32) = S := ⟨_, rfl⟩
      rw [hS] at hcv
      have HS := Lib.hid hS
      clear hS
      go_wp2
      go_ret
      exact ⟨by rw [HS.out]; rfl, HBl.out⟩
end Go.Proofs.YtmlkgbfaamdapaaDoor
