import Derived.Test.YthjcjjppjjpjfaaAw
namespace Go.Proofs.Ythjcjjppjjpjfaa
open Go.ChangeShapes Go.WideShapes Go.ChangeAt Go.RowKit

theorem be4_list (n : Int) : be 4 n = [n / 16777216 % 256, n / 65536 % 256, n / 256 % 256, n % 256] := by
  rw [be_cons, be_cons, be_cons, be_cons]
  simp [be]
set_option maxRecDepth 100000 in
set_option maxHeartbeats 4000000 in
theorem ref_join (w : World) (sp : Option Addr) (cap N : Nat) (ls : List (List Int)) (hN : ls.length = N) (hP : Pieces w sp cap ls) (hs : (join ls).length ≤ 100000) :
    Calls Try.prog 12 #[.slice sp N cap] w fun e w' => ∃ sp' cap', e = .returned (.slice sp' (join ls).length cap') ∧ Bytes w' sp' cap' (join ls) ∧ Below w.heap.size w w' := by
  have hNm : N ≤ 9223372036854775807 := by rw [← hN]; exact hP.len
  have HP := Lib.hid hP
  have HN := Lib.hid hN
  obtain ⟨J, hJ2⟩ : ∃ J, (join ls).length = J := ⟨_, rfl⟩
  rw [hJ2] at hs
  have HJ2 := Lib.hid hJ2
  clear hP hN hJ2
  go_enter Try.func12, Try.ntmps12
  go_wp2
  have hst : Jn w ls 0 (.slice none 0 0) w := ⟨World.ownsRow_nil _ _ _ _, Below.refl _ _⟩
  go_loopw [3, 4] (fun v i wr => ∃ j : Nat, j ≤ N ∧ i = .int .i64 j ∧ Jn w ls j v wr) (fun _ i _ => N - (intOf i).toNat)
  case atStart => exact ⟨0, by omega, rfl, hst⟩
  case round =>
    clear hst
    obtain ⟨j, hjk, rfl, hj⟩ := hrel
    obtain ⟨sv, cv, rfl, hxl, hsl, hbase⟩ := Sl.all1 hj.own
    have HJn := Lib.hid hj
    have HSl := Lib.hid hsl
    have hle := jl_le ls j
    rw [HJ2.out] at hle
    clear hj hsl hxl
    by_cases hlt : j < N
    · have hdt : decide (j < N) = true := by simp; omega
      obtain ⟨c, o, s2, c2, rfl, hcell, hb⟩ := HP.out.at_ j (by rw [HN.out]; exact hlt)
      have hsu := jl_succ ls j (by rw [HN.out]; exact hlt)
      have hle2 := jl_le ls (j + 1)
      rw [HJ2.out] at hle2
      have hbl := hb.len
      have hts := take_snoc ls j (by rw [HN.out]; exact hlt)
      have hjs : join (ls.take (j + 1)) = join (ls.take j) ++ be 4 ((ls.getD j []).length : Int) ++ ls.getD j [] := by rw [hts, join_snoc]
      clear hts
      obtain ⟨P, hP⟩ : ∃ P, ls.getD j [] = P := ⟨_, rfl⟩
      rw [hP] at hcell hsu hbl hjs hb
      obtain ⟨m, hm⟩ : ∃ m, P.length = m := ⟨_, rfl⟩
      rw [hm] at hcell hsu hbl hjs
      have HSu := Lib.hid hsu
      have HM := Lib.hid hm
      have HJs := Lib.hid hjs
      have HBp := Lib.hid hb
      have hjm : jl ls j + 4 + m ≤ 100000 := by omega
      have hcl : c < w.heap.size := block_lt_of_cell hcell
      have HCell := Lib.hid hcell
      have hcr : wr.cell? ⟨c, o + j, none⟩ = some (.slice s2 m c2) := (HJn.out.below.cell hcl).trans hcell
      have hsz := HJn.out.below.size
      clear hm hsu hb hle2 hP hjs hcell
      obtain ⟨n, hn⟩ : ∃ n, jl ls j = n := ⟨_, rfl⟩
      rw [hn] at hjm HSu hle ⊢
      have HNn := Lib.hid hn
      have HO0 := Lib.hid HJn.out.own
      rw [hn] at HO0
      clear hn
      have HS4 := Lib.hid (Sl.new wr [.int .u8 ((m : Int) / 16777216 % 256), .int .u8 ((m : Int) / 65536 % 256), .int .u8 ((m : Int) / 256 % 256), .int .u8 ((m : Int) % 256)] #[.int .u8 ((m : Int) / 16777216 % 256), .int .u8 ((m : Int) / 65536 % 256), .int .u8 ((m : Int) / 256 % 256), .int .u8 ((m : Int) % 256)] 5 (0, 0) rfl (by simp))
      have HBa := Lib.hid ((Below.refl wr.heap.size wr).alloc (Nat.le_refl _) (.cells #[.int .u8 ((m : Int) / 16777216 % 256), .int .u8 ((m : Int) / 65536 % 256), .int .u8 ((m : Int) / 256 % 256), .int .u8 ((m : Int) % 256)] 5))
      have HO := Lib.hid (owns_below HO0.out HBa.out)
      have hszW : w.heap.size ≤ (wr.alloc (.cells #[.int .u8 ((m : Int) / 16777216 % 256), .int .u8 ((m : Int) / 65536 % 256), .int .u8 ((m : Int) / 256 % 256), .int .u8 ((m : Int) % 256)] 5)).heap.size := by rw [size_alloc']; omega
      go_upto_region 7 with (refine wpList_append_sl 23 5 1 (.int .u8 0) Try.underlying23 info5 rfl (by decide) rfl (.tmp 17) (.tmp 33) rfl w.heap.size (.slice sv n cv) n 4 _ [.int .u8 ((m : Int) / 16777216 % 256), .int .u8 ((m : Int) / 65536 % 256), .int .u8 ((m : Int) / 256 % 256), .int .u8 ((m : Int) % 256)] rfl HO.out (some ⟨wr.heap.size, 0, none⟩) 4 rfl rfl HS4.out (by simp [Value.oneCell']) (by omega) hszW ?_; intro v2 w2 hown2 hg2)
      have hb2 : Below w.heap.size wr w2 := (HBa.out.mono hsz).trans (Below.ofGrown hg2 hszW (fun g e => (HO.out.lt g e).1))
      have HBW2 := Lib.hid (HJn.out.below.trans hb2)
      obtain ⟨s3, c3, rfl, hl3, hsl3, hbs3⟩ := Sl.all1 hown2
      rw [show ([.int .u8 ((m : Int) / 16777216 % 256), .int .u8 ((m : Int) / 65536 % 256), .int .u8 ((m : Int) / 256 % 256), .int .u8 ((m : Int) % 256)] : List Value) = (be 4 (m : Int)).map (Value.int .u8) by rw [be4_list]; rfl] at hown2
      have HO2 := Lib.hid hown2
      have hsz2 : w.heap.size ≤ w2.heap.size := HBW2.out.size
      have HPb := Lib.hid (HBp.out.below HBW2.out)
      have HMm := Lib.hid (show (P.map (Value.int .u8)).length = m by rw [List.length_map, HM.out])
      clear hcr hg2 hb2 hown2 hsl3 hl3 hszW HS4 HBa HO
      have hcr2 : w2.cell? ⟨c, o + j, none⟩ = some (.slice s2 m c2) := (HBW2.out.cell hcl).trans HCell.out
      go_wp2_with (refine wpList_append_sl 23 5 1 (.int .u8 0) Try.underlying23 info5 rfl (by decide) rfl (.tmp 35) (.tmp 39) rfl w.heap.size (.slice s3 (n + 4) c3) (n + 4) m _ _ rfl HO2.out s2 c2 rfl HMm.out HPb.out.sl (map_one _) (by omega) hsz2 ?_; intro v4 w4 hown4 hg4)
      have HB4' := Lib.hid (HBW2.out.trans (Below.ofGrown hg4 hsz2 (fun g e => (HO2.out.lt g e).1)))
      have HO4 := Lib.hid hown4
      clear hg4 hown4 hcr2
      go_roundw
      case rel =>
        refine ⟨j + 1, by omega, by go_num, ?_, HB4'.out⟩
        have := HO4.out
        rw [← List.map_append, ← List.map_append, ← HJs.out] at this
        rw [HSu.out, ← Nat.add_assoc]
        exact this
      case measure => simp [intOf]; omega
    · obtain rfl : j = N := by omega
      have hdf2 : decide (j < j) = false := by simp
      have hJ : jl ls j = J := by unfold jl; rw [List.take_of_length_le (by rw [HN.out]; omega), HJ2.out]
      rw [hJ]
      have HSl2 := HSl
      rw [List.take_of_length_le (by rw [HN.out]; omega)] at HSl2
      have HR := Lib.hid (rng_join (ls := ls) (fun l hl => by
        obtain ⟨i, hi, rfl⟩ := List.getElem_of_mem hl
        obtain ⟨_, _, _, _, _, _, h⟩ := HP.out.at_ i hi
        have := h.rng
        simpa [hi] using this))
      clear hlt hle hJ
      go_wp2
      go_ret
      exact ⟨sv, cv, by rw [HJ2.out]; rfl, ⟨HSl2.out, HR.out⟩, HJn.out.below⟩
end Go.Proofs.Ythjcjjppjjpjfaa
