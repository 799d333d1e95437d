import Derived.Test.YtllaecliaojmjaaDoorDg
namespace Go.Proofs.YtllaecliaojmjaaDoor.Bp
set_option maxRecDepth 100000
open Go.ChangeShapes Go.WideShapes Go.ChangeAt Go.RowKit Go.Proofs.YtllaecliaojmjaaDoor.Tn

/-! ### Few, Ints, awake -/
set_option maxHeartbeats 4000000 in
theorem ints_same (w : World) (sp sq : Option Addr) (cap caq N : Nat) (l : List Int) (hN : l.length = N) (hl : Nums w sp cap l) (hm : Nums w sq caq l) :
    Calls Tryd.prog 16 #[.slice sp N cap, .slice sq N caq] w fun e w' => e = .returned (.bool true) ∧ Below w.heap.size w w' := by
  have hNm : N ≤ 9223372036854775807 := by rw [← hN]; exact hl.len
  have HL := Lib.hid hl
  have HM := Lib.hid hm
  have HN := Lib.hid hN
  clear hl hm hN
  go_enter Tryd.func16, Tryd.ntmps16
  go_wp2
  go_loopw [5] (fun i wr => ∃ k m : Nat, k ≤ N ∧ i = .int .i64 k ∧ wr = w.drewN m) (fun i _ => N - (intOf i).toNat)
  case atStart => exact ⟨0, 0, by omega, rfl, rfl⟩
  case round =>
    obtain ⟨k, m, hk, rfl, rfl⟩ := hrel
    by_cases hlt : k < N
    · have hdt : decide (k < N) = true := by simp; omega
      obtain ⟨g, o, rfl, hc⟩ := HL.out.at_ k (by rw [HN.out]; exact hlt)
      obtain ⟨g2, o2, rfl, hc2⟩ := HM.out.at_ k (by rw [HN.out]; exact hlt)
      obtain ⟨x, hx⟩ : ∃ x, l.getD k 0 = x := ⟨_, rfl⟩
      rw [hx] at hc hc2
      have hxx : (x != x) = false := by simp
      clear hx
      go_wp2
      go_quiet (fail)
      go_wp2
      go_roundw
      case rel => exact ⟨k + 1, _, by omega, by go_num, rfl⟩
      case measure => simp [intOf]; omega
    · have hdf : decide (k < N) = false := by simp; omega
      go_wp2
      go_ret
      exact ⟨rfl, below_drewN (Below.refl _ _) _⟩
set_option maxHeartbeats 4000000 in
theorem few_any (w : World) (s1 s2 : Option Addr) (n P c1 c2 : Nat) (hn : n ≤ maxLen) (hP : P ≤ maxLen) :
    Calls Tryd.prog 6 #[.agg #[.slice s1 n c1, .slice s2 P c2]] w fun e w' => e = .returned (.bool (decide (n ≤ 600) && decide (P ≤ 60))) ∧ Below w.heap.size w w' := by
  have HB : Hid (Below w.heap.size w (w.alloc (.cells #[.slice s1 n c1, .slice s2 P c2] 25))) := Lib.hid ((Below.refl _ _).alloc (Nat.le_refl _) _)
  unfold maxLen at hn hP
  by_cases h1 : n ≤ 600
  · have d1 : decide (n ≤ 600) = true := by simpa using h1
    have d2 : decide ((n : Int) ≤ 600) = true := by simp; omega
    rw [d1]
    by_cases h2 : P ≤ 60
    · have d3 : decide (P ≤ 60) = true := by simpa using h2
      have d4 : decide ((P : Int) ≤ 60) = true := by simp; omega
      rw [d3]
      clear h1 h2
      go_enter Tryd.func6, Tryd.ntmps6
      go_wp2
      go_ret
      exact ⟨rfl, HB.out⟩
    · have d3 : decide (P ≤ 60) = false := by simpa using h2
      have d4 : decide ((P : Int) ≤ 60) = false := by simp; omega
      rw [d3]
      clear h1 h2
      go_enter Tryd.func6, Tryd.ntmps6
      go_wp2
      go_ret
      exact ⟨rfl, HB.out⟩
  · have d1 : decide (n ≤ 600) = false := by simpa using h1
    have d2 : decide ((n : Int) ≤ 600) = false := by simp; omega
    rw [d1]
    clear h1
    go_enter Tryd.func6, Tryd.ntmps6
    go_wp2
    go_ret
    exact ⟨rfl, HB.out⟩
theorem byts_new (w : World) (l : List Int) (n : Nat) (hn : l.length = n) (hr : ∀ x ∈ l, 0 ≤ x ∧ x < 256) (hl : n ≤ 1000000) (cs : Array Value) (fr : Nat × Nat) (hc : cs = (l.map (Value.int .u8)).toArray) : Byts (w.alloc (.cells cs 5 fr)) (some ⟨w.heap.size, 0, none⟩) n l := by
  subst hn
  have h := Sl.new w (l.map (Value.int .u8)) cs 5 fr hc (by simpa using hl)
  rw [List.length_map] at h
  exact ⟨h, hr⟩
theorem prs_new2 (w : World) (a b c d : Int) : Prs (w.alloc (.cells #[.int .i64 a, .int .i64 b, .int .i64 c, .int .i64 d] 46)) (some ⟨w.heap.size, 0, none⟩) 2 [(a, b), (c, d)] := by
  have hc := heap_alloc_new w (.cells #[.int .i64 a, .int .i64 b, .int .i64 c, .int .i64 d] 46)
  refine ⟨by simp, by unfold maxLen; omega, (fun e => by cases e), fun _ => ⟨w.heap.size, 0, rfl, fun k hk => ?_⟩⟩
  intro j v hv
  rw [cell_of_row _ _ _ _ _ _ hc]
  rcases k with _ | _ | k
  · rcases j with _ | _ | j
    · simpa using hv
    · simpa using hv
    · simp at hv
  · rcases j with _ | _ | j
    · simpa using hv
    · simpa using hv
    · simp at hv
  · simp at hk
    omega
theorem ex_new : newD [97, 98] [(0, 1), (2, 2)] = (0, [[97], [98], [97, 98], [97, 98, 97, 98]]) := by decide
theorem ex_enc : encD [97, 98] [(0, 1), (2, 2)] [97, 98, 97, 98, 98] = ([3, 1], 0, 0) := by decide
set_option maxHeartbeats 8000000 in
theorem awake_any (w : World) : Calls Tryd.prog 7 #[] w fun e w' => e = .returned (.bool true) ∧ Below w.heap.size w w' := by
  have kb := fun (w : World) (C : Array Value) (n c : Nat) => Lib.run_convert_bytes_const (P := Tryd.prog) w 22 5 C n c Tryd.underlying22 Tryd.underlying5
  go_enter Tryd.func7, Tryd.ntmps7
  go_wp2_with fail
  have hb0 : Below w.heap.size w (w.alloc (.cells #[.int .u8 97, .int .u8 98] 5 (2, 3))) := (Below.refl _ _).alloc (Nat.le_refl _) _
  have hb1 : Below (w.alloc (.cells #[.int .u8 97, .int .u8 98] 5 (2, 3))).heap.size (w.alloc (.cells #[.int .u8 97, .int .u8 98] 5 (2, 3))) ((w.alloc (.cells #[.int .u8 97, .int .u8 98] 5 (2, 3))).alloc (.cells #[.int .i64 0, .int .i64 1, .int .i64 2, .int .i64 2] 46)) := (Below.refl _ _).alloc (Nat.le_refl _) _
  have hby := (byts_new w [97, 98] 2 rfl (by simp) (by omega) #[.int .u8 97, .int .u8 98] (2, 3) rfl).below hb1
  have hpr := prs_new2 (w.alloc (.cells #[.int .u8 97, .int .u8 98] 5 (2, 3))) 0 1 2 2
  rw [World.size_alloc] at hpr
  have HB1 : Hid (Below w.heap.size w ((w.alloc (.cells #[.int .u8 97, .int .u8 98] 5 (2, 3))).alloc (.cells #[.int .i64 0, .int .i64 1, .int .i64 2, .int .i64 2] 46))) := Lib.hid (hb0.trans (hb1.mono (by simp)))
  refine (new_any _ (some ⟨w.heap.size, 0, none⟩) (some ⟨w.heap.size + 1, 0, none⟩) 2 2 2 2 [97, 98] [(0, 1), (2, 2)] hby rfl hpr rfl (by omega) (by omega)).mono ?_
  clear hby hpr hb1 hb0
  generalize ((w.alloc (.cells #[.int .u8 97, .int .u8 98] 5 (2, 3))).alloc (.cells #[.int .i64 0, .int .i64 1, .int .i64 2, .int .i64 2] 46)) = w1 at HB1
  rintro e w2 ⟨hb2, ⟨hno, _⟩ | ⟨_, g, rfl, hg, hc⟩⟩
  · rw [ex_new] at hno
    exact absurd rfl hno
  · have HB2 := Lib.hid (HB1.out.trans (hb2.mono HB1.out.size))
    rw [ex_new] at hc
    have HC2 := Lib.hid hc
    clear hb2 hg hc
    go_wp2_with fail
    have hb3 : Below w2.heap.size w2 (w2.alloc (.cells #[.int .u8 97, .int .u8 98, .int .u8 97, .int .u8 98, .int .u8 98] 5 (5, 6))) := (Below.refl _ _).alloc (Nat.le_refl _) _
    have hby := byts_new w2 [97, 98, 97, 98, 98] 5 rfl (by simp) (by omega) #[.int .u8 97, .int .u8 98, .int .u8 97, .int .u8 98, .int .u8 98] (5, 6) rfl
    have hT : Texts [97, 98].length [(0, 1), (2, 2)] [[97], [98], [97, 98], [97, 98, 97, 98]] := by
      have h := (newD_yes (al := [97, 98]) (ps := [(0, 1), (2, 2)]) (by rw [ex_new])).2.2.2.1
      rw [ex_new] at h
      exact h
    have HB3 := Lib.hid (HB2.out.trans (hb3.mono HB2.out.size))
    refine (encode_any _ g (some ⟨w2.heap.size, 0, none⟩) 5 5 2 2 [97, 98] [(0, 1), (2, 2)] [[97], [98], [97, 98], [97, 98, 97, 98]] [97, 98, 97, 98, 98] (HC2.out.later hb3) hT hby rfl rfl rfl (by omega)).mono ?_
    rw [ex_enc]
    clear hby hT hb3 HC2
    generalize w2.alloc (.cells #[.int .u8 97, .int .u8 98, .int .u8 97, .int .u8 98, .int .u8 98] 5 (5, 6)) = w3 at HB3
    rintro e w4 ⟨sp, cap, rfl, hn, hb4⟩
    have HB4 := Lib.hid (HB3.out.trans (hb4.mono HB3.out.size))
    have HN4 := Lib.hid hn
    clear hn hb4
    dsimp only [List.length]
    go_wp2_with fail
    have hb5 : Below w4.heap.size w4 (w4.alloc (.cells #[.int .i64 3, .int .i64 1] 3)) := (Below.refl _ _).alloc (Nat.le_refl _) _
    have HB5 := Lib.hid (HB4.out.trans (hb5.mono HB4.out.size))
    refine (ints_same _ sp (some ⟨w4.heap.size, 0, none⟩) cap 2 2 [3, 1] rfl (Tn.Nums.below HN4.out hb5) (nums_new w4 [3, 1] #[.int .i64 3, .int .i64 1] 2 rfl rfl (by omega))).mono ?_
    clear hb5 HN4
    generalize w4.alloc (.cells #[.int .i64 3, .int .i64 1] 3) = w5 at HB5
    rintro e w6 ⟨rfl, hb6⟩
    have HB6 := Lib.hid (HB5.out.trans (hb6.mono HB5.out.size))
    clear hb6
    go_wp2
    go_ret
    exact ⟨rfl, HB6.out⟩
end Go.Proofs.YtllaecliaojmjaaDoor.Bp
