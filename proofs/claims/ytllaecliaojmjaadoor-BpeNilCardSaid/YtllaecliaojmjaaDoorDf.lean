import Derived.Test.YtllaecliaojmjaaDoorDe
import Derived.Test.YtllaecliaojmjaaDoorSh
namespace Go.Proofs.YtllaecliaojmjaaDoor.Bp
set_option maxRecDepth 100000
open Go.ChangeShapes Go.WideShapes Go.ChangeAt Go.RowKit Go.Proofs.YtllaecliaojmjaaDoor.Tn Go.Shelf

/-! ### Decode (over the shelf's contracts on bytes.Buffer) -/
theorem buf_write (B b : Nat) (bs : List Value) (s : ByteArray) (w : World) (h : Lib.IsBuffer 64 5 B b bs w) (hBw : B ≤ w.heap.size) (h1 : ∀ v ∈ bs, v.oneCell' = true) (hlim : bs.length + s.size ≤ 140737488355328) :
    Calls Tryd.prog 21 #[.pointer (some ⟨b, 0, none⟩), .string s] w fun e w' => e = .returned (.tuple #[.int .i64 s.size, .nilIface]) ∧ Lib.IsBuffer 64 5 B b (bs ++ Lib.byteCells s.data.toList) w' ∧ Below B w w' := Any.Buffer_WriteString Tryd.lays178 B b bs s w h hBw h1 hlim
theorem buf_bytes (B b : Nat) (bs : List Value) (w : World) (h : Lib.IsBuffer 64 5 B b bs w) :
    Calls Tryd.prog 22 #[.pointer (some ⟨b, 0, none⟩)] w fun e w' => ∃ v, e = .returned v ∧ w'.ownsRow B 5 1 v bs.length bs ∧ ∃ n, w' = w.drewN n := Any.Buffer_Bytes Tryd.lays183 B b bs w h
theorem cells_of_text {t : List Int} (h : ∀ x ∈ t, 0 ≤ x ∧ x < 256) : Lib.byteCells (strOfNums t).data.toList = t.map (Value.int .u8) := by
  unfold Lib.byteCells
  rw [strOfNums_data, List.map_map]
  apply List.map_congr_left
  intro x hx
  have := h x hx
  simp
  omega
theorem dec_snoc (T : List (List Int)) (l : List Int) (x : Int) : dec T (l ++ [x]) = dec T l ++ T.getD x.toNat [] := by simp [dec]
theorem dec_short {T : List (List Int)} (h : Good T) : ∀ l : List Int, (dec T l).length ≤ 16 * l.length
  | [] => by simp [dec]
  | x :: r => by
    have h1 := dec_short h r
    have h2 := (h.at_ x.toNat).2
    simp only [dec, List.flatMap_cons, List.length_append, List.length_cons] at h1 ⊢
    omega
theorem dec_rng {T : List (List Int)} (h : Good T) (l : List Int) : ∀ x ∈ dec T l, 0 ≤ x ∧ x < 256 := fun x hx => by
  unfold dec at hx
  obtain ⟨y, _, hy⟩ := List.mem_flatMap.1 hx
  exact (h.at_ _).1 x hy
/-- what Decode answers -/
def DecA (w : World) (r : List Int × Int) (e : Ending) (w' : World) : Prop :=
  Below w.heap.size w w' ∧ ∃ sp cap, e = .returned (.tuple #[.slice sp r.1.length cap, .int .i64 r.2]) ∧ Byts w' sp cap r.1
set_option maxHeartbeats 4000000 in
theorem nilDecode_any (w : World) (v : Value) : Calls Tryd.prog 10 #[.pointer none, v] w fun e w' => e = .returned (.tuple #[.slice none 0 0, .int .i64 2]) ∧ w' = w := by
  go_enter Tryd.func10, Tryd.ntmps10
  go_wp2
  go_ret2
  exact ⟨rfl, rfl⟩
set_option maxHeartbeats 8000000 in
theorem decode_any (w : World) (g : Nat) (sp : Option Addr) (cap N : Nat) (al : List Int) (ps : List (Int × Int)) (T : List (List Int)) (l : List Int) (hC : Cd g al ps T w) (hG : Good T) (hM : T.length ≤ 512) (hl : Nums w sp cap l) (hN : l.length = N) (hN5 : N ≤ 100000) :
    Calls Tryd.prog 10 #[.pointer (some ⟨g, 0, none⟩), .slice sp N cap] w (DecA w (decD T l)) := by
  have HC := Lib.hid hC
  have HG := Lib.hid hG
  have HL := Lib.hid hl
  have HN := Lib.hid hN
  have HN5 := Lib.hid hN5
  have HMx : Hid (T.length ≤ maxLen) := Lib.hid (by unfold maxLen; omega)
  have HI0 := Lib.hid (Lib.fresh_isBuffer 64 5 w)
  clear hC hG hM hl hN hN5
  go_enter Tryd.func10, Tryd.ntmps10
  go_upto_region 4 with fail
  have HB0 : Hid (Below w.heap.size w (w.alloc (.cells #[.slice none 0 0, .int .i64 0, .int .i8 0] 64))) := Lib.hid ((Below.refl _ _).alloc (Nat.le_refl _) _)
  refine gen_w (Q := fun w => Code.wp _ _ _ _ w) _ (fun W => Lib.IsBuffer 64 5 w.heap.size w.heap.size [] W ∧ Below w.heap.size w W) ⟨HI0.out, HB0.out⟩ ?_
  clear HI0 HB0
  rintro W1 ⟨hi1, hb1⟩
  have HI1 := Lib.hid hi1
  have HB1 := Lib.hid hb1
  clear hi1 hb1
  have hNm : N ≤ 100000 := HN5.out
  go_wp2
  go_loopw [13] (fun iv wr => ∃ i : Nat, i ≤ N ∧ iv = .int .i64 i ∧ Lib.IsBuffer 64 5 w.heap.size w.heap.size ((dec T (l.take i)).map (Value.int .u8)) wr ∧ (∀ x ∈ l.take i, 0 ≤ x ∧ x < (T.length : Int)) ∧ Below w.heap.size w wr) (fun iv _ => N - (intOf iv).toNat)
  case atStart => exact ⟨0, by omega, rfl, by simpa [dec] using HI1.out, by simp, HB1.out⟩
  case round =>
    clear HI1 HB1
    obtain ⟨i, hi, rfl, hib, hall, hbw⟩ := hrel
    have HI := Lib.hid hib
    have HAll := Lib.hid hall
    have HB := Lib.hid hbw
    clear hib hall hbw
    by_cases hil : i < N
    · have hd1 : decide (i < N) = true := by simpa using hil
      have hd2 : decide ((i : Int) < (N : Int)) = true := by simp; omega
      obtain ⟨d, p, e, h8⟩ := HL.out.at_ i (by rw [HN.out]; exact hil)
      have h9 := (HB.out.cell (block_lt_of_cell h8)).trans h8
      obtain ⟨x, hx⟩ : ∃ x, l.getD i 0 = x := ⟨_, rfl⟩
      rw [hx] at h9
      have HXx := Lib.hid hx
      have HTk : Hid (l.take (i + 1) = l.take i ++ [x]) := Lib.hid (by rw [take_at (by rw [HN.out]; exact hil), hx])
      clear h8 hx
      subst e
      obtain ⟨m, st, ct, hcr, hst⟩ := HC.out.later HB.out
      have HCr := Lib.hid hcr
      have HSt := Lib.hid hst
      clear hcr hst
      go_wp2_with fail
      refine (isToken_any wr g m al ps st T.length ct x HCr.out HMx.out).mono ?_
      rintro e w2 ⟨rfl, rfl⟩
      by_cases hx0 : 0 ≤ x ∧ x < (T.length : Int)
      · rw [decide_eq_true hx0]
        obtain ⟨k, rfl⟩ := Int.eq_ofNat_of_zero_le hx0.1
        have HK : Hid (k < T.length) := Lib.hid (by omega)
        have HX0 := Lib.hid hx0
        clear hx0
        obtain ⟨d2, o2, e, t1⟩ := HSt.out.at_ k HK.out
        have hk : k < T.length := HK.out
        have c0 := HCr.out.c0
        subst e
        obtain ⟨u, hu⟩ : ∃ u, T.getD k [] = u := ⟨_, rfl⟩
        rw [hu] at t1
        have HU := Lib.hid hu
        unfold strV at t1
        clear hu
        go_wp2_with fail
        refine (buf_write w.heap.size w.heap.size _ (strOfNums u) w2 HI.out HB.out.size (fun v hv => by
          obtain ⟨y, _, rfl⟩ := List.mem_map.1 hv
          rfl) (by
          have h1 := dec_short HG.out (l.take i)
          have h2 := (HG.out.at_ k).2
          rw [HU.out] at h2
          rw [List.length_map, str_size]
          rw [List.length_take] at h1
          have := HN.out
          omega)).mono ?_
        rintro e w3 ⟨rfl, hi3, hb3⟩
        have HI3 : Hid (Lib.IsBuffer 64 5 w.heap.size w.heap.size ((dec T (l.take (i + 1))).map (Value.int .u8)) w3) := Lib.hid (by
          rw [cells_of_text (by have := (HG.out.at_ k).1; rwa [HU.out] at this)] at hi3
          rw [HTk.out, dec_snoc, Int.toNat_natCast, HU.out, List.map_append]
          exact hi3)
        have HB3 := Lib.hid (HB.out.trans hb3)
        clear hi3 hb3 t1 c0 h9
        go_wp2
        go_roundw
        case rel => exact ⟨i + 1, by omega, by go_num, HI3.out, fun y hy => by
          rw [HTk.out] at hy
          rcases List.mem_append.1 hy with h1 | h1
          · exact HAll.out y h1
          · obtain rfl : y = (k : Int) := by simpa using h1
            exact HX0.out, HB3.out⟩
        case measure => simp [intOf]; omega
      · rw [decide_eq_false hx0]
        have HD : Hid (decD T l = ([], 10)) := Lib.hid (by
          unfold decD
          rw [if_neg (fun h => hx0 (h x (by rw [← HXx.out]; exact getD_mem (by rw [HN.out]; exact hil))))])
        clear hx0
        go_wp2
        go_ret2
        exact ⟨HB.out, none, 0, by rw [HD.out]; rfl, by rw [HD.out]; exact ⟨Tn.Sl.nil _, by simp⟩⟩
    · obtain rfl : i = N := by omega
      have hdf : decide (i < i) = false := by simp
      have hdf2 : decide ((i : Int) < (i : Int)) = false := by simp
      have e9 : l.take i = l := List.take_of_length_le (by rw [HN.out]; exact Nat.le_refl _)
      have HD : Hid (decD T l = (dec T l, 0)) := Lib.hid (by
        unfold decD
        rw [if_pos (fun x hx => HAll.out x (by rw [e9]; exact hx))])
      have HI2 : Hid (Lib.IsBuffer 64 5 w.heap.size w.heap.size ((dec T l).map (Value.int .u8)) wr) := Lib.hid (by have := HI.out; rwa [e9] at this)
      clear e9 hil HI HAll
      go_wp2_with fail
      refine (buf_bytes w.heap.size w.heap.size _ wr HI2.out).mono ?_
      rintro e w2 ⟨v, rfl, how, n, rfl⟩
      obtain ⟨s, c, rfl, _, hs, _⟩ := Tn.Sl.all1 how
      rw [List.length_map]
      have HBy : Hid (Byts (wr.drewN n) s c (dec T l)) := Lib.hid ⟨hs, dec_rng HG.out l⟩
      have HB2 := Lib.hid (HB.out.trans ((drawn_below n).mono HB.out.size))
      clear how hs
      go_wp2
      go_ret2
      exact ⟨HB2.out, s, c, by rw [HD.out]; rfl, by rw [HD.out]; exact HBy.out⟩
end Go.Proofs.YtllaecliaojmjaaDoor.Bp
