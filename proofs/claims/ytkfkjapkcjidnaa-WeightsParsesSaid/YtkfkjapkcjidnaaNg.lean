import Derived.Test.YtkfkjapkcjidnaaNf
namespace Go.Proofs.Ytkfkjapkcjidnaa.Wg
set_option maxRecDepth 100000
open Go.ChangeShapes Go.WideShapes Go.ChangeAt Go.RowKit Go.Shelf Go.Proofs.Ytkfkjapkcjidnaa.Tn
attribute [local go_sem] Oper.semAt_some

/-! ### Leaves, Encode -/
theorem owns_mono {W : World} {a b e n k : Nat} {v : Value} {xs : List Value} (h : W.ownsRow b e k v n xs) (hab : a ≤ b) : W.ownsRow a e k v n xs := by
  obtain ⟨h0, h1⟩ := h
  refine ⟨h0, ?_⟩
  rcases h1 with h1 | ⟨g, c, cur, h2, h3, h4⟩
  · exact Or.inl h1
  · exact Or.inr ⟨g, c, cur, h2, Nat.le_trans hab h3, h4⟩
/-- a row of leaves reads as pieces -/
theorem LvR.pieces {base : Nat} {v : Value} {ls : List (List Int)} {W : World} (h : LvR base v ls W) : ∃ sp cap, v = .slice sp ls.length cap ∧ Cd.Pieces W sp cap ls := by
  obtain ⟨vs, h1, h2, h3, _⟩ := h
  obtain ⟨sp, cap, e, _, hs, _⟩ := Cd.Sl.all1 h1
  refine ⟨sp, cap, e, ⟨vs, h2, hs, fun i y hy => ?_⟩⟩
  obtain ⟨sp2, cap2, e2, hb, _⟩ := h3 i y hy
  exact ⟨sp2, cap2, e2, hb⟩
theorem leaves_any (w : World) (v : Wv) (m : Md) (hv : WvOK w v m) (ha : m.al.length ≤ 1000) (hp : m.ps.length ≤ 400) (hE : m.chk = 0) :
    Calls Try.prog 18 #[.agg v.cells] w fun e w' => ∃ val base, e = .returned (.tuple #[val, .int .i64 0]) ∧ LvR base val (leavesD m) w' ∧ w.heap.size < base ∧ Below w.heap.size w w' :=
  callsIn_wide.1 (leaves_in w v m hv ha hp hE)
set_option maxHeartbeats 8000000 in
theorem encode_no (w : World) (v : Wv) (m : Md) (hv : WvOK w v m) (ha : m.al.length ≤ 1000) (hp : m.ps.length ≤ 1000) (hE : m.chk ≠ 0) :
    Calls Try.prog 13 #[.agg v.cells] w fun e w' => e = .returned (.tuple #[.slice none 0 0, .int .i64 m.chk]) ∧ Below w.heap.size w w' := by
  have HB := Lib.hid (Hw.made hv)
  have HC := Lib.hid (fun W (h : Hw w v m W) => leaves_no W v m (hv.later h.below) ha hp hE)
  obtain ⟨E, hEE⟩ : ∃ E, m.chk = E := ⟨_, rfl⟩
  rw [hEE] at HC hE ⊢
  have n1 : (E == 0) = false := by simpa using hE
  have n2 : (E != 0) = true := by simpa using hE
  clear hv ha hp hE hEE
  unfold Wv.cells at HB HC ⊢
  go_enter Try.func13, Try.ntmps13
  go_upto_region 1 with fail
  refine gen_w (Q := fun w => Code.wp _ _ _ _ w) _ (Hw w v m) HB.out ?_
  clear HB
  intro w1 hx
  have HX := Lib.hid hx
  have HR := Lib.hid hx.md.row
  clear hx
  unfold Wv.cells at HR
  go_wp2_with (first
    | (refine wpList_load_row rfl 31 (.tmp 1) rfl w.heap.size rfl 31 _ (0, 0) _ HR.out Try.underlying31 rfl size_wts ?_)
    | (refine (HC.out w1 HX.out).mono ?_; rintro e w2 ⟨rfl, hb2⟩; have HX2 := Lib.hid (HX.out.later hb2); clear hb2))
  exact bodyPost_ret (v := .tuple #[.slice none 0 0, .int .i64 E]) (by simp [results, Try.results13, go_sem]) rfl ⟨rfl, HX2.out.below⟩
set_option maxHeartbeats 8000000 in
theorem encode_anyB (w : World) (v : Wv) (m : Md) (hv : WvOK w v m) (ha : m.al.length ≤ 1000) (hp : m.ps.length ≤ 400) (hE : m.chk = 0) (hj : (Cd.join (leavesD m)).length ≤ 1000000) :
    Calls Try.prog 13 #[.agg v.cells] w fun e w' => ∃ sp cap, e = .returned (.tuple #[.slice sp (Cd.join (leavesD m)).length cap, .int .i64 0]) ∧ Cd.Bytes w' sp cap (Cd.join (leavesD m)) ∧ Below w.heap.size w w' ∧ w'.ownsRow w.heap.size 5 1 (.slice sp (Cd.join (leavesD m)).length cap) (Cd.join (leavesD m)).length ((Cd.join (leavesD m)).map (Value.int .u8)) := by
  have HB := Lib.hid (Hw.made hv)
  have HC := Lib.hid (fun W (h : Hw w v m W) => leaves_any W v m (hv.later h.below) ha hp hE)
  obtain ⟨ls, hls⟩ : ∃ ls, leavesD m = ls := ⟨_, rfl⟩
  rw [hls] at HC hj ⊢
  have HJ := Lib.hid hj
  clear hv ha hp hE hls hj
  unfold Wv.cells at HB HC ⊢
  go_enter Try.func13, Try.ntmps13
  go_upto_region 1 with fail
  refine gen_w (Q := fun w => Code.wp _ _ _ _ w) _ (Hw w v m) HB.out ?_
  clear HB
  intro w1 hx
  have HX := Lib.hid hx
  have HR := Lib.hid hx.md.row
  clear hx
  unfold Wv.cells at HR
  go_wp2_with (first
    | (refine wpList_load_row rfl 31 (.tmp 1) rfl w.heap.size rfl 31 _ (0, 0) _ HR.out Try.underlying31 rfl size_wts ?_)
    | (go_at_call 18; refine (HC.out w1 HX.out).mono ?_; rintro e w2 ⟨val, base, rfl, hlv, _, hb2⟩; obtain ⟨sp, cap, rfl, hpc⟩ := hlv.pieces; have HX2 := Lib.hid (HX.out.later hb2); have HP := Lib.hid hpc; clear hb2 hlv hpc)
    | (go_at_call 35; refine (Cd.join_anyB _ sp cap _ ls rfl HP.out HJ.out).mono ?_; rintro e w3 ⟨sp3, cap3, rfl, hb3, hbl3, ho3⟩; have HX3 := Lib.hid (HX2.out.later hbl3); have HB3 := Lib.hid hb3; have HO3 := Lib.hid (owns_mono ho3 HX2.out.below.size); clear hb3 hbl3 ho3))
  exact bodyPost_ret (v := .tuple #[.slice sp3 (Cd.join ls).length cap3, .int .i64 0]) (by simp [results, Try.results13, go_sem]) rfl ⟨_, _, rfl, HB3.out, HX3.out.below, HO3.out⟩
theorem encode_any (w : World) (v : Wv) (m : Md) (hv : WvOK w v m) (ha : m.al.length ≤ 1000) (hp : m.ps.length ≤ 400) (hE : m.chk = 0) (hj : (Cd.join (leavesD m)).length ≤ 1000000) :
    Calls Try.prog 13 #[.agg v.cells] w fun e w' => ∃ sp cap, e = .returned (.tuple #[.slice sp (Cd.join (leavesD m)).length cap, .int .i64 0]) ∧ Cd.Bytes w' sp cap (Cd.join (leavesD m)) ∧ Below w.heap.size w w' :=
  (encode_anyB w v m hv ha hp hE hj).mono fun _ _ ⟨a, b, h1, h2, h3, _⟩ => ⟨a, b, h1, h2, h3⟩
end Go.Proofs.Ytkfkjapkcjidnaa.Wg
