import Derived.Test.YtpaffncdfldnmaaDoorA
import Derived.Test.YtpaffncdfldnmaaDoorT
namespace Go.Proofs.YtpaffncdfldnmaaDoor
open Go.ChangeShapes Go.WideShapes Go.ChangeAt Go.RowKit

theorem size43 : (Tryd.prog.info? 46).map (·.size) = some 1 := by kernel_rfl

set_option maxRecDepth 100000 in
set_option maxHeartbeats 4000000 in
theorem turn0 (p c o : Nat) (w : World) (s : St) (r : Array Value) (ty : TypeId) (l : List Int) (hl : l.length = 64) (hd : ∀ i, i < 64 → w.cell? ⟨c, o + i, none⟩ = some (.int .u8 (l.getD i 0)))
    (hp : w.heap[p]? = some (.cells (rowSt s.list r) ty (0, 0))) (hk : ∀ i, i < 64 → w.cell? ⟨1, i, none⟩ = some (.int .u32 (kc.getD i 0))) :
    Calls Tryd.prog 36 #[.pointer (some ⟨p, 0, none⟩), .slice (some ⟨c, o, none⟩) 64 64] w fun e w' => e = .returned (.tuple #[]) ∧ Un w p ty r (s.turn l).list w' := by
  have hc : c < w.heap.size := block_lt_of_cell (hd 0 (by omega))
  have hpl : p < w.heap.size := (Array.getElem?_eq_some_iff.1 hp).1
  have h1l : 1 < w.heap.size := block_lt_of_cell (hk 0 (by omega))
  have HD := Lib.hid hd
  have HL := Lib.hid hl
  have HP := Lib.hid hp
  have HK := Lib.hid hk
  clear hd hl hp hk
  go_enter Tryd.func36, Tryd.ntmps36
  go_wp2_with fail
  refine (spread0 c o _ l HL.out HD.out hc).mono ?_
  rintro e w1 ⟨rfl, hb1⟩
  have hwl := Lib.hid (words_length l)
  obtain ⟨ws, hW⟩ : ∃ ws, words l = ws := ⟨_, rfl⟩
  rw [hW] at hwl
  rw [hW]
  have HW := Lib.hid hW
  clear hW
  have HZ := Lib.hid (show (Tryd.prog.info? 84).map (·.size) = some (rowOf 64 ws).size by rw [rowOf_size _ _ (by rw [hwl.out]; omega)]; exact size66)
  have HX := Lib.hid (rowOf_one 64 ws)
  go_wp2_with (refine wpList_store_row rfl 84 (.tmp 5) (.tmp 24) rfl w1.heap.size (rowOf 64 ws) rfl rfl 84 _ (heap_alloc_new _ _) HZ.out ?_ HX.out ?_)
  case refine_1 => rw [rowOf_size 64 ws (by rw [hwl.out]; omega)]; rfl
  simp only [Act.put]
  refine gen_world (Q := fun w => Code.wp _ _ _ _ w) _ (Tn w w1.heap.size ws) (Tn.made hb1 _ ws) ?_
  intro w2 ht
  generalize w1.heap.size = g at ht ⊢
  clear hb1 HX HZ
  have hbl := ht.below
  have q0 : w2.cell? ⟨p, 0, none⟩ = some (.int .u32 s.a) := (hbl.cell hpl).trans ((cell_of_row _ _ _ _ _ _ HP.out).trans (rowSt_get s.list r 0 (by show _ < 8; omega)))
  have q1 : w2.cell? ⟨p, 1, none⟩ = some (.int .u32 s.b) := (hbl.cell hpl).trans ((cell_of_row _ _ _ _ _ _ HP.out).trans (rowSt_get s.list r 1 (by show _ < 8; omega)))
  have q2 : w2.cell? ⟨p, 2, none⟩ = some (.int .u32 s.c) := (hbl.cell hpl).trans ((cell_of_row _ _ _ _ _ _ HP.out).trans (rowSt_get s.list r 2 (by show _ < 8; omega)))
  have q3 : w2.cell? ⟨p, 3, none⟩ = some (.int .u32 s.d) := (hbl.cell hpl).trans ((cell_of_row _ _ _ _ _ _ HP.out).trans (rowSt_get s.list r 3 (by show _ < 8; omega)))
  have q4 : w2.cell? ⟨p, 4, none⟩ = some (.int .u32 s.e) := (hbl.cell hpl).trans ((cell_of_row _ _ _ _ _ _ HP.out).trans (rowSt_get s.list r 4 (by show _ < 8; omega)))
  have q5 : w2.cell? ⟨p, 5, none⟩ = some (.int .u32 s.f) := (hbl.cell hpl).trans ((cell_of_row _ _ _ _ _ _ HP.out).trans (rowSt_get s.list r 5 (by show _ < 8; omega)))
  have q6 : w2.cell? ⟨p, 6, none⟩ = some (.int .u32 s.g) := (hbl.cell hpl).trans ((cell_of_row _ _ _ _ _ _ HP.out).trans (rowSt_get s.list r 6 (by show _ < 8; omega)))
  have q7 : w2.cell? ⟨p, 7, none⟩ = some (.int .u32 s.h) := (hbl.cell hpl).trans ((cell_of_row _ _ _ _ _ _ HP.out).trans (rowSt_get s.list r 7 (by show _ < 8; omega)))
  clear hbl
  go_quiet (fail)
  clear q0 q1 q2 q3 q4 q5 q6 q7
  have ht3 := ht.drewN nq
  clear ht
  generalize w2.drewN nq = w3 at ht3
  clear nq w2
  go_wp2
  go_loopw [57, 6, 7, 8, 9, 10, 11, 12, 13] (fun i va vb vc vd ve vf vg vh wr => ∃ (t : Nat) (x : St), t ≤ 64 ∧ i = .int .i64 t ∧ x = s.rounds ws t ∧ va = .int .u32 x.a ∧ vb = .int .u32 x.b ∧ vc = .int .u32 x.c ∧ vd = .int .u32 x.d ∧ ve = .int .u32 x.e ∧ vf = .int .u32 x.f ∧ vg = .int .u32 x.g ∧ vh = .int .u32 x.h ∧ Tn w g ws wr) (fun i _ _ _ _ _ _ _ _ _ => 64 - (intOf i).toNat)
  case atStart => exact ⟨0, s, by omega, rfl, rfl, rfl, rfl, rfl, rfl, rfl, rfl, rfl, rfl, ht3⟩
  case round =>
    clear ht3
    obtain ⟨t, x, hk, rfl, hx, rfl, rfl, rfl, rfl, rfl, rfl, rfl, rfl, ht⟩ := hrel
    have HXx := Lib.hid hx
    clear hx
    by_cases hlt : t < 64
    · obtain ⟨y, h1⟩ : ∃ y, ws.getD t 0 = y := ⟨_, rfl⟩
      obtain ⟨k, h2⟩ : ∃ y, kc.getD t 0 = y := ⟨_, rfl⟩
      have c1 := ht.word t (by rw [hwl.out]; omega)
      rw [h1] at c1
      have c2 := (ht.below.cell (p := ⟨1, t, none⟩) h1l).trans (HK.out t hlt)
      rw [h2] at c2
      have H1 := Lib.hid h1
      have H2 := Lib.hid h2
      clear h1 h2
      have hdt : decide ((t : Int) < 64) = true := by simp; omega
      have hif : (if IntKind.u32.signed = true then (-1 : Int) else IntKind.u32.max) = 4294967295 := by decide
      go_wp2_with fail
      refine (rot31 _ _ _ (by omega) (by omega)).mono ?_
      rintro e w' ⟨rfl, rfl⟩
      go_wp2_with fail
      refine (rot31 _ _ _ (by omega) (by omega)).mono ?_
      rintro e w' ⟨rfl, rfl⟩
      go_wp2_with fail
      refine (rot31 _ _ _ (by omega) (by omega)).mono ?_
      rintro e w' ⟨rfl, rfl⟩
      go_wp2_with fail
      refine (rot31 _ _ _ (by omega) (by omega)).mono ?_
      rintro e w' ⟨rfl, rfl⟩
      go_wp2_with fail
      refine (rot31 _ _ _ (by omega) (by omega)).mono ?_
      rintro e w' ⟨rfl, rfl⟩
      go_wp2_with fail
      refine (rot31 _ _ _ (by omega) (by omega)).mono ?_
      rintro e w' ⟨rfl, rfl⟩
      simp only []
      repeat (first | go_values | go_skip | go_guarded | go_step | go_upon)
      go_quiet (fail)
      clear c1 c2
      have ht2 := ht.drewN nq
      clear ht
      generalize wr.drewN nq = w4 at ht2
      clear nq wr
      repeat (first | go_values | go_skip | go_guarded | go_step | go_upon)
      go_roundw
      case rel => exact ⟨t + 1, x.step k y, by omega, by go_num, by rw [St.rounds, ← HXx.out, H1.out, H2.out], rfl, rfl, rfl, rfl, rfl, rfl, rfl, rfl, ht2⟩
      case measure => simp [intOf]; omega
    · obtain rfl : t = 64 := by omega
      clear hk hlt
      rw [show ((64 : Nat) : Int) = 64 from rfl]
      have hdf : decide ((64 : Int) < 64) = false := by decide
      have hu := Un.start ht HP.out
      clear ht
      go_wp2
      clear hdf
      go_loopw [139] (fun i wr => ∃ n : Nat, n ≤ 8 ∧ i = .int .i64 n ∧ Un w p ty r (mix s.list x.list n) wr) (fun i _ => 8 - (intOf i).toNat)
      case atStart => exact ⟨0, by omega, rfl, hu⟩
      case round =>
        clear hu
        obtain ⟨n, hn, rfl, hu⟩ := hrel
        by_cases hlt : n < 8
        · have hdt : decide ((n : Int) < 8) = true := by simp; omega
          have hml : (mix s.list x.list n).length = 8 := mix_length _ _ _
          have HM := Lib.hid hml
          have hsn : mix s.list x.list (n + 1) = (mix s.list x.list n).set n ((s.list.getD n 0 + x.list.getD n 0) % 4294967296) := rfl
          have HS := Lib.hid hsn
          clear hml hsn
          have c1 := hu.cell n (by rw [HM.out]; omega)
          rw [mix_get _ _ _ _ (Nat.le_refl n)] at c1
          have hxi : (#[.int .u32 x.a, .int .u32 x.b, .int .u32 x.c, .int .u32 x.d, .int .u32 x.e, .int .u32 x.f, .int .u32 x.g, .int .u32 x.h] : Array Value)[n]? = some (.int .u32 (x.list.getD n 0)) := rowSt_get x.list #[] n (by show _ < 8; omega)
          obtain ⟨y, h1⟩ : ∃ y, s.list.getD n 0 = y := ⟨_, rfl⟩
          obtain ⟨z, h2⟩ : ∃ y, x.list.getD n 0 = y := ⟨_, rfl⟩
          rw [h1] at c1
          rw [h2] at hxi
          have hix := run_index_row (P := Tryd.prog) 47 46 8 .u32 Tryd.underlying47 Tryd.underlying46 size43 _ n hlt _ hxi
          have f1 := hu.free n
          have H1 := Lib.hid h1
          have H2 := Lib.hid h2
          clear h1 h2 hxi
          go_wp2_with fail
          go_region
          repeat (first | go_values | go_skip | go_guarded | go_step | go_upon)
          clear c1 f1 hix
          go_roundw
          case rel =>
            refine ⟨n + 1, by omega, by go_num, ?_⟩
            rw [HS.out, H1.out, H2.out]
            exact (hu.put n (by rw [HM.out]; omega) _).drew
          case measure => simp [intOf]; omega
        · obtain rfl : n = 8 := by omega
          clear hlt hn
          rw [show ((8 : Nat) : Int) = 8 from rfl]
          have hdf : decide ((8 : Int) < 8) = false := by decide
          rw [mix_all] at hu
          have hX : s.plus x = s.turn l := by rw [HXx.out, ← HW.out]; rfl
          rw [hX] at hu
          go_wp2
          go_end0
          exact ⟨rfl, hu⟩
end Go.Proofs.YtpaffncdfldnmaaDoor
