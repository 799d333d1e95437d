import Derived.Test.YtchjijifmjbgoaaDoorJo
namespace Go.Proofs.YtchjijifmjbgoaaDoor.Tn
set_option maxRecDepth 100000
open Go.ChangeShapes Go.WideShapes Go.ChangeAt Go.RowKit Go.Shelf Go.Proofs.YtchjijifmjbgoaaDoor.Fx Go.Proofs.YtchjijifmjbgoaaDoor.Rf

theorem rows_vecs (w : World) (g : Nat) (hg : g = w.heap.size) (s : Option Addr) (c R : Nat) (xs : List SlV) (hR : xs.length = R) (h : Sl w s c (xs.map enS)) : VecsA enS (w.alloc (.cells #[.slice s R c] 38)) (some ⟨g, 0, none⟩) 1 [xs] := by
  subst hg
  subst hR
  refine ⟨[.slice s xs.length c], rfl, Sl.new w [.slice s xs.length c] _ _ (0, 0) rfl (by simp), fun i v hv => ?_⟩
  rcases i with _ | i
  · simp at hv
    subst hv
    exact ⟨s, c, rfl, h.below (Nat.le_refl _) ((Below.refl _ _).alloc (Nat.le_refl _) _)⟩
  · simp at hv
set_option maxHeartbeats 4000000 in
theorem tmul_any (w : World) (r c : Int) (sp sq : Option Addr) (cap caq N M : Nat) (l v : List Int) (hN : l.length = N) (hM : v.length = M) (hl : Nums w sp cap l) (hv : Nums w sq caq v) (he : E0 w) :
    Calls Tryd.prog 21 #[matV r c sp N cap, .slice sq M caq] w (AnsE w (mulV r c l v) (mulE r c l v)) := by
  have hMm : M ≤ 9223372036854775807 := by rw [← hM]; exact hv.len
  have HCk := Lib.hid (fun W (hb : Below w.heap.size w W) => mcheck_any W r c sp cap N l hN (hl.below hb))
  unfold matV at *
  by_cases hk : chkM r c l = 0
  · obtain ⟨R, C, rfl, rfl, r1, r2, k1, k2, hRC, hw⟩ := chkM_ok hN hk
    rw [hk] at HCk
    by_cases hvC : M = C
    · subst hvC
      have hnn : ((M : Int) != (M : Int)) = false := by simp
      have hnn' : (M != M) = false := by simp
      have HC := Lib.hid (fun W g (hg : g = W.heap.size) (hb : Below w.heap.size w W) => check_any _ _ 1 1 [v] rfl (vecs_new1 W g hg sq caq M v hM (hv.below hb)))
      simp only [chkL1] at HC
      by_cases hc : chkV v = 0
      · rw [hc] at HC
        obtain ⟨e1, e2⟩ := mul_first hk hM hc hw (by omega) k1 k2
        obtain ⟨_, _, hvn⟩ := chkV_zero hc
        have hsz : R * M ≤ 32768 := Nat.le_trans (Nat.mul_le_mul r2 k2) (by decide)
        have hcap := hl.cap
        have HCo : Hid (∀ W bs bn, bs < W.heap.size → bn < W.heap.size → W.cell? ⟨bs, 0, none⟩ = some (.slice sp N cap) → W.cell? ⟨bn, 0, none⟩ = some (.int .i64 M) → Calls Tryd.prog 44 #[.func (.func 72) #[] #[.pointer (some ⟨bs, 0, none⟩), .pointer (some ⟨bn, 0, none⟩)]] W fun e w' => ∃ s c, e = .returned (.slice s R c) ∧ Sl w' s c ((rowsV sp cap M R).map enS) ∧ Below W.heap.size W w') := Lib.hid (fun W bs bn h1 h2 h3 h4 => collect_any W bs bn h1 h2 sp cap N M R hRC k1 r2 (by omega) (by omega) h3 h4)
        have HTg : Hid (∀ W g s3 c3, g = W.heap.size → MulS w (R : Int) (M : Int) sp N cap sq M caq W → Sl W s3 c3 ((rowsV sp cap M R).map enS) → Calls Tryd.prog 46 #[.func (.func 47) #[] #[.pointer (some ⟨w.heap.size + 1, 0, none⟩)], .slice (some ⟨g, 0, none⟩) 1 1] (W.alloc (.cells #[.slice s3 R c3] 38)) (AnsO (W.alloc (.cells #[.slice s3 R c3] 38)) (mulV (R : Int) (M : Int) l v) (mulE (R : Int) (M : Int) l v))) := Lib.hid (fun W g s3 c3 hg hW hs3 => by
          have hbA : Below W.heap.size W (W.alloc (.cells #[.slice s3 R c3] 38)) := (Below.refl _ _).alloc (Nat.le_refl _) _
          refine (tog_rows _ 47 #[.pointer (some ⟨w.heap.size + 1, 0, none⟩)] _ 1 1 R [rowsV sp cap M R] rfl (by omega) (by omega) (fun i hi => ?_) (by omega) (rows_vecs W g hg s3 c3 R _ (rowsV_length _ _ _ _) hs3) (fun i => orNil (rnd (dotS (rowL l M i) v))) (fun i => over (rnd (dotS (rowL l M i) v))) (eg_of Tryd.func47 (by kernel_rfl) (by kernel_rfl)) (fun i hi W' b' hW' hsl => ?_)).mono fun e w' h => h.cast e2 e1
          · obtain rfl : i = 0 := by omega
            exact rowsV_length _ _ _ _
          · have hWW := hW.later (hbA.trans (hW'.mono (by simp)))
            have hin := row_in (C := M) hi
            have hrl := rowL_length (l := l) (C := M) (i := i) (R := R) (by omega) hi
            have hrn := row_nums (hl.below hWW.below) M i (by omega)
            obtain ⟨a, ha⟩ := nums_some hrn (by omega)
            rw [rowsV_col _ _ _ _ _ hi] at hsl
            unfold rowS at hsl
            rw [ha] at hrn hsl
            have hrn2 : Nums W' (some a) M (rowL l M i) := Sl.recap hrn (by rw [List.length_map]; omega) (by unfold maxLen; omega)
            exact mul1_any W' b' 1 (w.heap.size + 1) (some a) sq M caq M (rowL l M i) v hrl hM hsl rfl hWW.cb hrn2 (hv.below hWW.below) (far_dot ⟨fun x hx => hw x (List.mem_of_mem_drop (List.mem_of_mem_take hx)), hvn⟩ (by omega)) (he.below hWW.below))
        obtain ⟨V, hV⟩ : ∃ V, mulV (R : Int) (M : Int) l v = V := ⟨_, rfl⟩
        obtain ⟨E, hE⟩ : ∃ E, mulE (R : Int) (M : Int) l v = E := ⟨_, rfl⟩
        rw [hV, hE] at HTg ⊢
        clear hk hw hRC hl hv hN hM e1 e2 hvn hcap hV hE hc he hsz
        go_enter Tryd.func21, Tryd.ntmps21
        go_upto_region 1 with fail
        refine gen_world (Q := fun w => Code.wp _ _ _ _ w) _ (MulS w (R : Int) (M : Int) sp N cap sq M caq) (MulS.made w (R : Int) (M : Int) sp N cap sq M caq _ _ rfl rfl) ?_
        intro W hW
        have HW := Lib.hid hW
        have HB0 := Lib.hid hW.below
        clear hW
        go_wp2_with (refine wpList_load_row rfl 24 (.tmp 2) rfl w.heap.size rfl 24 (matC (R : Int) (M : Int) sp N cap) (0, 0) _ HW.out.mat.row Tryd.underlying24 rfl size_mat ?_)
        refine (HCk.out _ HB0.out).mono ?_
        rintro e w1 ⟨rfl, hb1⟩
        have HW1 := Lib.hid (HW.out.later hb1)
        have HB1 := Lib.hid HW1.out.below
        have c1 := HW1.out.mat.c1
        have cb := HW1.out.cb
        clear hb1
        go_wp2_with fail
        refine (HC.out _ _ rfl HB1.out).mono ?_
        rintro e w2 ⟨rfl, hb2⟩
        have HW2 := Lib.hid (HW1.out.later (((Below.refl w1.heap.size w1).alloc (Nat.le_refl _) (.cells #[.slice sq M caq] 22)).trans (hb2.mono (by simp))))
        have c1 := HW2.out.mat.c1
        have c2 := HW2.out.mat.c2
        have cb := HW2.out.cb
        clear hb2
        go_wp2_with fail
        refine (chunk_any w2 sp cap N M k1 k2).mono ?_
        rintro e w3 ⟨rfl, hw3⟩
        have hb3 : Below w2.heap.size w2 w3 := by rw [hw3]; exact ((Below.refl _ _).alloc (Nat.le_refl _) _).alloc (by simp) _
        have q1 : w3.cell? ⟨w2.heap.size, 0, none⟩ = some (.slice sp N cap) := by
          rw [hw3]
          exact (((Below.refl (w2.alloc (.cells #[.slice sp N cap] 22)).heap.size _).alloc (Nat.le_refl _) (.cells #[.int .i64 M] 3)).cell (p := ⟨w2.heap.size, 0, none⟩) (by simp)).trans (by simp)
        have q2 : w3.cell? ⟨w2.heap.size + 1, 0, none⟩ = some (.int .i64 M) := by
          rw [hw3]
          have := heap_alloc_new (w2.alloc (.cells #[.slice sp N cap] 22)) (.cells #[.int .i64 M] 3)
          rw [World.size_alloc] at this
          rw [cell_of_row _ _ _ _ _ _ this]
          rfl
        have qs : w3.heap.size = w2.heap.size + 2 := by rw [hw3]; simp
        have HW3 := Lib.hid (HW2.out.later hb3)
        have HCo2 := Lib.hid (HCo.out w3 w2.heap.size (w2.heap.size + 1) (by omega) (by omega) q1 q2)
        clear hw3 hb3 q1 q2 qs
        go_wp2_with fail
        refine HCo2.out.mono ?_
        rintro e w4 ⟨s4, c4, rfl, hs4, hb4⟩
        have HW4 := Lib.hid (HW3.out.later hb4)
        have HS4 := Lib.hid hs4
        clear hb4 hs4
        go_wp2_with fail
        refine (HTg.out w4 _ s4 c4 rfl HW4.out HS4.out).mono ?_
        rintro e w5 h5
        obtain ⟨s5, c5, rfl, hn5, hb5⟩ := h5.ansE
        have HN5 := Lib.hid hn5
        have HB5 := Lib.hid ((HW4.out.below.alloc HW4.out.below.size (.cells #[.slice s4 R c4] 38)).trans (hb5.mono (by have := HW4.out.below.size; simp; omega)))
        clear h5 hn5 hb5
        go_wp2
        go_ret2
        exact ⟨s5, c5, rfl, HN5.out, HB5.out⟩
      · have hX := mulE_vec hk hM hc (by omega) r1 k1 k2
        have hY : mulV (R : Int) (M : Int) l v = [] := by unfold mulV; rw [if_neg (by omega)]
        rw [hX, hY]
        have hne := ne0 hc
        obtain ⟨E, hEE⟩ : ∃ E, chkV v = E := ⟨_, rfl⟩
        rw [hEE] at HC hne ⊢
        clear hk hw hRC hl hv hN hM hX hY hEE hc he
        go_enter Tryd.func21, Tryd.ntmps21
        go_upto_region 1 with fail
        refine gen_world (Q := fun w => Code.wp _ _ _ _ w) _ (MulS w (R : Int) (M : Int) sp N cap sq M caq) (MulS.made w (R : Int) (M : Int) sp N cap sq M caq _ _ rfl rfl) ?_
        intro W hW
        have HW := Lib.hid hW
        have HB0 := Lib.hid hW.below
        clear hW
        go_wp2_with (refine wpList_load_row rfl 24 (.tmp 2) rfl w.heap.size rfl 24 (matC (R : Int) (M : Int) sp N cap) (0, 0) _ HW.out.mat.row Tryd.underlying24 rfl size_mat ?_)
        refine (HCk.out _ HB0.out).mono ?_
        rintro e w1 ⟨rfl, hb1⟩
        have HW1 := Lib.hid (HW.out.later hb1)
        have HB1 := Lib.hid HW1.out.below
        have c1 := HW1.out.mat.c1
        have cb := HW1.out.cb
        clear hb1
        go_wp2_with fail
        refine (HC.out _ _ rfl HB1.out).mono ?_
        rintro e w2 ⟨rfl, hb2⟩
        have HB2 := Lib.hid ((HB1.out.alloc HB1.out.size (.cells #[.slice sq M caq] 22)).trans (hb2.mono (by have := HB1.out.size; simp; omega)))
        clear hb2
        go_wp2
        go_ret2
        exact AnsE.no HB2.out
    · have hX : mulE (R : Int) (C : Int) l v = 13 := by unfold mulE; rw [if_neg (fun h => h hk), if_pos (by omega)]
      have hY : mulV (R : Int) (C : Int) l v = [] := by unfold mulV; rw [if_neg (by omega)]
      rw [hX, hY]
      have hnn : ((M : Int) != (C : Int)) = true := by
        simp only [bne_iff_ne, ne_eq]
        omega
      have hnn' : (M != C) = true := by simpa using hvC
      clear hk hw hRC hl hv hN hM hX hY hvC he
      go_enter Tryd.func21, Tryd.ntmps21
      go_upto_region 1 with fail
      refine gen_world (Q := fun w => Code.wp _ _ _ _ w) _ (MulS w (R : Int) (C : Int) sp N cap sq M caq) (MulS.made w (R : Int) (C : Int) sp N cap sq M caq _ _ rfl rfl) ?_
      intro W hW
      have HW := Lib.hid hW
      have HB0 := Lib.hid hW.below
      clear hW
      go_wp2_with (refine wpList_load_row rfl 24 (.tmp 2) rfl w.heap.size rfl 24 (matC (R : Int) (C : Int) sp N cap) (0, 0) _ HW.out.mat.row Tryd.underlying24 rfl size_mat ?_)
      refine (HCk.out _ HB0.out).mono ?_
      rintro e w1 ⟨rfl, hb1⟩
      have HW1 := Lib.hid (HW.out.later hb1)
      have HB1 := Lib.hid HW1.out.below
      have c1 := HW1.out.mat.c1
      have cb := HW1.out.cb
      clear hb1
      go_wp2
      go_ret2
      exact AnsE.no HB1.out
  · have hX : mulE r c l v = chkM r c l := by unfold mulE; rw [if_pos hk]
    have hY : mulV r c l v = [] := by unfold mulV; rw [if_neg (by rw [hX]; exact hk)]
    rw [hX, hY]
    obtain ⟨E, hE⟩ : ∃ E, chkM r c l = E := ⟨_, rfl⟩
    rw [hE] at hk HCk ⊢
    have hE0 := ne0 hk
    clear hX hY hk hN hM hl hv hE he
    go_enter Tryd.func21, Tryd.ntmps21
    go_upto_region 1 with fail
    refine gen_world (Q := fun w => Code.wp _ _ _ _ w) _ (MulS w r c sp N cap sq M caq) (MulS.made w r c sp N cap sq M caq _ _ rfl rfl) ?_
    intro W hW
    have HW := Lib.hid hW
    have HB0 := Lib.hid hW.below
    clear hW
    go_wp2_with (refine wpList_load_row rfl 24 (.tmp 2) rfl w.heap.size rfl 24 (matC r c sp N cap) (0, 0) _ HW.out.mat.row Tryd.underlying24 rfl size_mat ?_)
    refine (HCk.out _ HB0.out).mono ?_
    rintro e w1 ⟨rfl, hb1⟩
    have HB1 := Lib.hid (HB0.out.trans (hb1.mono HB0.out.size))
    clear hb1
    go_wp2
    go_ret2
    exact AnsE.no HB1.out
end Go.Proofs.YtchjijifmjbgoaaDoor.Tn
