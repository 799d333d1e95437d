/- Steps: the walk of StepsRows. -/
import Derived.Test.YtdffbjjiojheoaaSy
namespace Go.Proofs.Ytdffbjjiojheoaa.St
set_option maxRecDepth 100000
open Go.ChangeShapes Go.WideShapes Go.ChangeAt Go.RowKit Go.Shelf Go.Proofs.Ytdffbjjiojheoaa.Tn Go.Proofs.Ytdffbjjiojheoaa.Wg
set_option maxHeartbeats 16000000 in
theorem rows_Ua (w : World) (s0 s1 s2 s3 s4 s5 : Int) (sf : Option Addr) (nf cf : Nat) (fl : List Int) (hfl : fl.length = nf) (hN : Nums w sf cf fl) (kk yy rr : Int) (hS : kk = 1 ∨ kk = 2 ∨ kk = 11 ∨ kk = 12) :
    Calls Try.prog 5 #[.agg #[.int .i64 s0, .int .i64 s1, .int .i64 s2, .int .i64 s3, .int .i64 s4, .int .i64 s5, .slice sf nf cf], .agg #[.int .i64 kk, .int .i64 yy, .int .i64 rr]] w fun e w' => e = .returned (.bool true) ∧ Below w.heap.size w w' := by
  have HMd := Lib.hid (fun (W : World) (hb : Below w.heap.size w W) => made_is W s0 s1 s2 s3 s4 s5 sf nf cf fl hfl (Sl.below hN (Nat.le_refl _) hb))
  have HAw := Lib.hid awake_any
  have HM := Lib.hid (LwI.made w #[.int .i64 s0, .int .i64 s1, .int .i64 s2, .int .i64 s3, .int .i64 s4, .int .i64 s5, .slice sf nf cf] #[.int .i64 kk, .int .i64 yy, .int .i64 rr])
  clear hfl hN
  go_enter Try.func5, Try.ntmps5
  go_upto_region 1 with fail
  refine Mk.genM (Q := fun w => Code.wp _ _ _ _ w) _ (LwI w #[.int .i64 s0, .int .i64 s1, .int .i64 s2, .int .i64 s3, .int .i64 s4, .int .i64 s5, .slice sf nf cf] #[.int .i64 kk, .int .i64 yy, .int .i64 rr]) HM.out ?_
  clear HM
  intro w1 k1
  have HI1 := Lib.hid k1
  clear k1
  go_upto_region 2 with (first
    | (refine wpList_load_row rfl 25 (.tmp 2) rfl w.heap.size rfl 25 _ (0, 0) _ HI1.out.sb Try.underlying25 rfl size_spec ?_)
    | (go_at_call 25; refine (HMd.out _ HI1.out.below).mono ?_; rintro e w2 ⟨hb2, v, ok, rfl, hok⟩; have HI2 := Lib.hid (HI1.out.later hb2); have HOk := Lib.hid hok; clear hb2 hok)
    | (refine wpList_store_newW rfl 38 (.tmp 5) (.tmp 16) rfl v.cells #[.int .i64 0, .int .i64 0, .int .i64 0, .int .i64 0, .int .i64 0, .int .i64 0, .slice none 0 0, .slice none 0 0, .int .i64 0, .int .i64 0, .slice none 0 0, .slice none 0 0, .slice none 0 0, .int .i64 0, .int .i64 0, .slice none 0 0] 38 rfl rfl rfl (Mk.size_wv v) rfl (Mk.wv_one v) ?_))
  have hal : Below w2.heap.size w2 (w2.alloc (.cells v.cells 38)) := (Below.refl _ _).alloc (Nat.le_refl _) _
  refine Mk.genM (Q := fun w => Code.wp _ _ _ _ w) _ (LmW w #[.int .i64 s0, .int .i64 s1, .int .i64 s2, .int .i64 s3, .int .i64 s4, .int .i64 s5, .slice sf nf cf] #[.int .i64 kk, .int .i64 yy, .int .i64 rr] w2.heap.size v w2) ⟨HI2.out.later hal, heap_alloc_new _ _, hal⟩ ?_
  clear hal HI1 HI2 HMd
  intro w3 k3
  have HI3 := Lib.hid k3
  clear k3
  cases ok with
  | false =>
    clear HOk
    go_wp2_with (go_at_call 7; refine (HAw.out _).mono ?_; rintro e w4 ⟨rfl, hb4⟩; have HI4 := Lib.hid (HI3.out.later hb4); clear hb4)
    go_ret
    exact ⟨rfl, HI4.out.li.below⟩
  | true =>
    obtain ⟨m, hE, hv, _⟩ := HOk.out rfl
    clear HOk
    have HPl := Lib.hid (fun W => place_any W v.c kk yy rr)
    by_cases hp : (placeV v.c kk yy rr).2 = 0
    · have hp0 : 0 ≤ plcB kk yy rr 1 m.cfg.blks := by
        rw [← hv.c]
        unfold placeV at hp
        split at hp
        · rename_i h; exact absurd hp h
        · split at hp
          · cases hp
          · omega
      obtain ⟨K, Y, R, C, Q, hP⟩ := row_at hE kk yy rr hp0
      have hn := n_pos hE
      obtain ⟨X, hX⟩ : ∃ X, rowL (m.part K Y).l C R = X := ⟨_, rfl⟩
      have hXl : X.length = C := by rw [← hX]; exact rowL_length (R := Q) hP.len hP.lt
      have HRow : Hid (∀ W, Below w2.heap.size w2 W → Calls Try.prog 27 #[.agg v.cells, .agg #[.int .i64 kk, .int .i64 yy, .int .i64 rr]] W fun e W' => ∃ s d, e = .returned (.tuple #[.slice s C d, .int .i64 0]) ∧ Nums W' s d X ∧ Below W.heap.size W W') := Lib.hid (fun W hb => (Row_yes W v m (hv.later hb) kk yy rr K Y R C Q hP hp).mono fun e W' h => by
        obtain ⟨s, d, h1, h2, h3⟩ := h
        rw [hX] at h1 h2
        rw [hXl] at h1
        exact ⟨s, d, h1, h2, h3⟩)
      rw [hp] at HPl
      have HC := Lib.hid hXl
      clear hp hp0
      go_upto_region 8 with (first
        | (refine wpList_load_row rfl 38 (.tmp 5) rfl w2.heap.size rfl 38 _ (0, 0) _ HI3.out.mb Try.underlying38 rfl (Mk.size_wv v) ?_)
        | (refine wpList_load_row rfl 76 (.tmp 3) rfl (w.heap.size + 1) rfl 76 _ (0, 0) _ HI3.out.li.pb Try.underlying76 rfl size_part ?_)
        | (go_at_call 27; refine (HRow.out _ HI3.out.b0).mono ?_; rintro e w4 ⟨sg, dg, rfl, hn4, hb4⟩; have HI4 := Lib.hid (HI3.out.later hb4); have HN4 := Lib.hid hn4; have HG4 := Lib.hid (wv_cfg HI4.out.mb); clear hb4 hn4)
        | (refine wpList_load_mid rfl 31 (.tmp 28) rfl w2.heap.size 0 rfl v.c.cells.toList _ HG4.out Try.underlying31 rfl (by kernel_rfl) ?_)
        | (refine wpList_load_row rfl 76 (.tmp 3) rfl (w.heap.size + 1) rfl 76 _ (0, 0) _ HI4.out.li.pb Try.underlying76 rfl size_part ?_)
        | (go_at_call 28; refine (HPl.out _).mono ?_; rintro e w5 ⟨rfl, hb5⟩; have HI5 := Lib.hid (HI4.out.later hb5); have HN5 := Lib.hid (Sl.below HN4.out (Nat.le_refl _) hb5); clear hb5))
      clear HPl HRow HI3 HI4 HN4 HG4
      have hk := hP.ek
      have hy := hP.ey
      have hr := hP.er
      subst hr
      have HNl : Hid (0 < v.nl) := Lib.hid (by rw [hv.nl]; exact hn)
      rcases hP.part with ⟨rfl, rfl⟩ | ⟨rfl, rfl⟩ | ⟨rfl, rfl⟩ | ⟨hyn, h2, h10⟩
      · clear hS
        have hkk : kk = 1 := hk
        have hyy : yy = 0 := hy
        subst hkk hyy
        obtain ⟨b, o, hsl, _⟩ := hv.ls (by rw [hv.nl]; exact hn)
        have c4 := HI5.out.mc (i := 11) (x := .slice v.sl v.nl v.cl) rfl
        rw [hsl] at c4
        have p0 := HI5.out.li.pc (i := 0) (v := .int .i64 1) rfl
        have p1 := HI5.out.li.pc (i := 1) (v := .int .i64 0) rfl
        have p2 := HI5.out.li.pc (i := 2) (v := .int .i64 (R : Int)) rfl
        obtain ⟨m1, m2⟩ := hP.mat rfl
        have hnum := hP.num rfl
        have hlen := hP.len
        rw [show m.part 1 0 = m.em from rfl] at m1 m2 hX hnum hlen
        have hG := range3 (HI5.out.mc (i := 8) (x := .int .i64 v.er) rfl) (HI5.out.mc (i := 8 + 1) (x := .int .i64 v.ec) rfl) (HI5.out.mc (i := 8 + 2) (x := .slice v.se v.ne v.ce) rfl)
        rw [hv.er, hv.ec, m1, m2, hv.ne, hlen] at hG
        have HG := Lib.hid hG
        have HTr : Hid (∀ W, Below w2.heap.size w2 W → Calls Try.prog 29 #[.agg #[.int .i64 (Q : Int), .int .i64 (C : Int), .slice v.se (Q * C) v.ce], .int .i64 (R : Int)] W fun e W' => ∃ s d, e = .returned (.tuple #[.slice s C d, .int .i64 0]) ∧ Nums W' s d X ∧ Below W.heap.size W W') := Lib.hid (fun W hb => by
          have h := trow_row W Q C R v.se v.ce _ hlen (Sl.below hv.em (Nat.le_refl _) hb) hnum hP.lt hP.q
          rw [hX] at h
          exact h)
        clear hG hk hy hv hP hX hsl m1 m2 hnum hlen hE hXl
        go_wp2_with (first
          | (refine Mk.wpList_vl rfl _ (exec_atQ (.tmp 47) (.const (.int .i64 0)) rfl b o v.nl v.cl 0 o rfl rfl HNl.out (by omega)) ?_)
          | (refine wpList_load_mid rfl 35 (.tmp 78) rfl w2.heap.size 8 rfl [.int .i64 (Q : Int), .int .i64 (C : Int), .slice v.se (Q * C) v.ce] _ HG.out Try.underlying35 rfl Mk.size_matM ?_)
          | (go_at_call 29; refine (HTr.out _ HI5.out.b0).mono ?_; rintro e w6 ⟨s6, d6, rfl, hn6, hb6⟩; have HI6 := Lib.hid (HI5.out.later hb6); have HNb := Lib.hid hn6; have HNa := Lib.hid (Sl.below HN5.out (Nat.le_refl _) hb6); clear hb6 hn6)
          | (go_at_call 17; refine (ints_same _ sg s6 dg d6 C X HC.out HNa.out HNb.out).mono ?_; rintro e w7 ⟨rfl, hb7⟩; have HI7 := Lib.hid (HI6.out.later hb7); clear hb7)
          | (go_at_call 7; refine (HAw.out _).mono ?_; rintro e w8 ⟨rfl, hb8⟩; have HI8 := Lib.hid (HI7.out.later hb8); clear hb8))
        go_ret
        exact ⟨rfl, HI8.out.li.below⟩
      · clear hS
        have hkk : kk = 11 := hk
        have hyy : yy = 0 := hy
        subst hkk hyy
        obtain ⟨b, o, hsl, _⟩ := hv.ls (by rw [hv.nl]; exact hn)
        have c4 := HI5.out.mc (i := 11) (x := .slice v.sl v.nl v.cl) rfl
        rw [hsl] at c4
        have p0 := HI5.out.li.pc (i := 0) (v := .int .i64 11) rfl
        have p1 := HI5.out.li.pc (i := 1) (v := .int .i64 0) rfl
        have hlen := hP.len
        have q1 := hP.vec rfl
        have r0 : R = 0 := by have := hP.lt; omega
        subst q1 r0
        rw [Nat.one_mul] at hlen
        rw [vec_row hlen] at hX
        have c12 := HI5.out.mc (i := 12) (x := .slice v.sn v.nn v.cn) rfl
        rw [show v.nn = C from hv.nn.trans hlen] at c12
        have hnm := Sl.below hv.nm (Nat.le_refl _) HI5.out.b0
        have HNb : Hid (Nums w5 v.sn v.cn X) := Lib.hid (by rw [← hX]; exact hnm)
        clear hk hy hv hP hX hsl hE hXl hlen hnm
        go_wp2_with (first
          | (refine Mk.wpList_vl rfl _ (exec_atQ (.tmp 47) (.const (.int .i64 0)) rfl b o v.nl v.cl 0 o rfl rfl HNl.out (by omega)) ?_)
          | (go_at_call 17; refine (ints_same _ sg v.sn dg v.cn C X HC.out HN5.out HNb.out).mono ?_; rintro e w7 ⟨rfl, hb7⟩; have HI7 := Lib.hid (HI5.out.later hb7); clear hb7)
          | (go_at_call 7; refine (HAw.out _).mono ?_; rintro e w8 ⟨rfl, hb8⟩; have HI8 := Lib.hid (HI7.out.later hb8); clear hb8))
        go_ret
        exact ⟨rfl, HI8.out.li.below⟩
      · clear hS
        have hkk : kk = 12 := hk
        have hyy : yy = 0 := hy
        subst hkk hyy
        obtain ⟨b, o, hsl, _⟩ := hv.ls (by rw [hv.nl]; exact hn)
        have c4 := HI5.out.mc (i := 11) (x := .slice v.sl v.nl v.cl) rfl
        rw [hsl] at c4
        have p0 := HI5.out.li.pc (i := 0) (v := .int .i64 12) rfl
        have p1 := HI5.out.li.pc (i := 1) (v := .int .i64 0) rfl
        have p2 := HI5.out.li.pc (i := 2) (v := .int .i64 (R : Int)) rfl
        obtain ⟨m1, m2⟩ := hP.mat rfl
        have hnum := hP.num rfl
        have hlen := hP.len
        rw [show m.part 12 0 = m.ou from rfl] at m1 m2 hX hnum hlen
        have hG := range3 (HI5.out.mc (i := 13) (x := .int .i64 v.xr) rfl) (HI5.out.mc (i := 13 + 1) (x := .int .i64 v.xc) rfl) (HI5.out.mc (i := 13 + 2) (x := .slice v.so v.no v.co) rfl)
        rw [hv.xr, hv.xc, m1, m2, hv.no, hlen] at hG
        have HG := Lib.hid hG
        have HTr : Hid (∀ W, Below w2.heap.size w2 W → Calls Try.prog 29 #[.agg #[.int .i64 (Q : Int), .int .i64 (C : Int), .slice v.so (Q * C) v.co], .int .i64 (R : Int)] W fun e W' => ∃ s d, e = .returned (.tuple #[.slice s C d, .int .i64 0]) ∧ Nums W' s d X ∧ Below W.heap.size W W') := Lib.hid (fun W hb => by
          have h := trow_row W Q C R v.so v.co _ hlen (Sl.below hv.ou (Nat.le_refl _) hb) hnum hP.lt hP.q
          rw [hX] at h
          exact h)
        clear hG hk hy hv hP hX hsl m1 m2 hnum hlen hE hXl
        go_wp2_with (first
          | (refine Mk.wpList_vl rfl _ (exec_atQ (.tmp 47) (.const (.int .i64 0)) rfl b o v.nl v.cl 0 o rfl rfl HNl.out (by omega)) ?_)
          | (refine wpList_load_mid rfl 35 (.tmp 68) rfl w2.heap.size 13 rfl [.int .i64 (Q : Int), .int .i64 (C : Int), .slice v.so (Q * C) v.co] _ HG.out Try.underlying35 rfl Mk.size_matM ?_)
          | (go_at_call 29; refine (HTr.out _ HI5.out.b0).mono ?_; rintro e w6 ⟨s6, d6, rfl, hn6, hb6⟩; have HI6 := Lib.hid (HI5.out.later hb6); have HNb := Lib.hid hn6; have HNa := Lib.hid (Sl.below HN5.out (Nat.le_refl _) hb6); clear hb6 hn6)
          | (go_at_call 17; refine (ints_same _ sg s6 dg d6 C X HC.out HNa.out HNb.out).mono ?_; rintro e w7 ⟨rfl, hb7⟩; have HI7 := Lib.hid (HI6.out.later hb7); clear hb7)
          | (go_at_call 7; refine (HAw.out _).mono ?_; rintro e w8 ⟨rfl, hb8⟩; have HI8 := Lib.hid (HI7.out.later hb8); clear hb8))
        go_ret
        exact ⟨rfl, HI8.out.li.below⟩
      · obtain ⟨b, o, q, cs, sp, cap, hsl, hq, hrg, hnm, hvec, hmat⟩ := layer_row hv hP h2 h10 hyn
        have hynl : Y < v.nl := by rw [hv.nl]; exact hyn
        have c4 := HI5.out.mc (i := 11) (x := .slice v.sl v.nl v.cl) rfl
        rw [hsl] at c4
        obtain rfl | rfl | rfl | rfl | rfl | rfl | rfl | rfl | rfl : K = 2 ∨ K = 3 ∨ K = 4 ∨ K = 5 ∨ K = 6 ∨ K = 7 ∨ K = 8 ∨ K = 9 ∨ K = 10 := by omega
        · clear hS
          have hkk : kk = 2 := hk
          subst hkk
          have hlen := hP.len
          have q1 := hP.vec rfl
          have r0 : R = 0 := by have := hP.lt; omega
          subst q1 r0
          rw [Nat.one_mul] at hlen
          rw [vec_row hlen] at hX
          have cv := cell_range hrg HI5.out.b0 (hvec rfl)
          rw [show q + offK 2 = q from rfl] at cv
          have hnm2 := Sl.below hnm (Nat.le_refl _) HI5.out.b0
          have HNb : Hid (Nums w5 sp cap X) := Lib.hid (by rw [← hX]; exact hnm2)
          by_cases hY : Y = 0
          · subst hY
            have hyy : yy = 0 := hy
            subst hyy
            have p0 := HI5.out.li.pc (i := 0) (v := .int .i64 2) rfl
            have p1 := HI5.out.li.pc (i := 1) (v := .int .i64 0) rfl
            clear hk hy hv hP hX hsl hE hXl hlen hnm hnm2 hvec hmat hrg
            go_wp2_with (first
              | (refine Mk.wpList_vl rfl _ (exec_atQ (.tmp 47) (.const (.int .i64 0)) rfl b o v.nl v.cl 0 q rfl rfl HNl.out hq) ?_)
              | (go_at_call 17; refine (ints_same _ sg sp dg cap C X HC.out HN5.out HNb.out).mono ?_; rintro e w7 ⟨rfl, hb7⟩; have HI7 := Lib.hid (HI5.out.later hb7); clear hb7)
              | (go_at_call 7; refine (HAw.out _).mono ?_; rintro e w8 ⟨rfl, hb8⟩; have HI8 := Lib.hid (HI7.out.later hb8); clear hb8))
            go_ret
            exact ⟨rfl, HI8.out.li.below⟩
          · have hyy : yy = (Y : Int) := hy
            subst hyy
            have hY2 : 0 < Y := by omega
            have d1 : decide ((0 : Int) < (Y : Int)) = true := by simp; omega
            have d2 : decide (0 < Y) = true := by simp; omega
            have d3 : decide ((Y : Int) < (v.nl : Int)) = true := by simp; omega
            have d4 : decide (Y < v.nl) = true := by simp; omega
            have p0 := HI5.out.li.pc (i := 0) (v := .int .i64 2) rfl
            have p1 := HI5.out.li.pc (i := 1) (v := .int .i64 (Y : Int)) rfl
            clear hk hy hv hP hX hsl hE hXl hlen hnm hnm2 hvec hmat hrg
            have HY : Hid (Y < v.nl) := hynl
            clear hynl hY hY2 hyn
            go_wp2_with (first
              | (refine Mk.wpList_vl rfl _ (exec_atQ (.tmp 47) (.const (.int .i64 0)) rfl b o v.nl v.cl 0 o rfl rfl HNl.out (by omega)) ?_)
              | (refine Mk.wpList_vl rfl _ (exec_atQ (.tmp 61) (.tmp 63) rfl b o v.nl v.cl Y q rfl rfl HY.out hq) ?_)
              | (go_at_call 17; refine (ints_same _ sg sp dg cap C X HC.out HN5.out HNb.out).mono ?_; rintro e w7 ⟨rfl, hb7⟩; have HI7 := Lib.hid (HI5.out.later hb7); clear hb7)
              | (go_at_call 7; refine (HAw.out _).mono ?_; rintro e w8 ⟨rfl, hb8⟩; have HI8 := Lib.hid (HI7.out.later hb8); clear hb8))
            go_ret
            exact ⟨rfl, HI8.out.li.below⟩
        · exact absurd hS (by omega)
        · exact absurd hS (by omega)
        · exact absurd hS (by omega)
        · exact absurd hS (by omega)
        · exact absurd hS (by omega)
        · exact absurd hS (by omega)
        · exact absurd hS (by omega)
        · exact absurd hS (by omega)
    · clear hS
      have HRn := Lib.hid (fun W => Row_no W v kk yy rr hp)
      obtain ⟨pe, hpe⟩ : ∃ pe, (placeV v.c kk yy rr).2 = pe := ⟨_, rfl⟩
      rw [hpe] at HPl hp
      have hne := ne0 hp
      have dn : decide (pe = 0) = false := by simpa using hp
      clear hpe hp hv hE
      go_wp2_with (first
        | (refine wpList_load_row rfl 38 (.tmp 5) rfl w2.heap.size rfl 38 _ (0, 0) _ HI3.out.mb Try.underlying38 rfl (Mk.size_wv v) ?_)
        | (refine wpList_load_row rfl 76 (.tmp 3) rfl (w.heap.size + 1) rfl 76 _ (0, 0) _ HI3.out.li.pb Try.underlying76 rfl size_part ?_)
        | (go_at_call 27; refine (HRn.out _).mono ?_; rintro e w4 ⟨rfl, hb4⟩; have HI4 := Lib.hid (HI3.out.later hb4); have HG4 := Lib.hid (wv_cfg HI4.out.mb); clear hb4)
        | (refine wpList_load_mid rfl 31 (.tmp 28) rfl w2.heap.size 0 rfl v.c.cells.toList _ HG4.out Try.underlying31 rfl (by kernel_rfl) ?_)
        | (refine wpList_load_row rfl 76 (.tmp 3) rfl (w.heap.size + 1) rfl 76 _ (0, 0) _ HI4.out.li.pb Try.underlying76 rfl size_part ?_)
        | (go_at_call 28; refine (HPl.out _).mono ?_; rintro e w5 ⟨rfl, hb5⟩; have HI5 := Lib.hid (HI4.out.later hb5); clear hb5)
        | (go_at_call 7; refine (HAw.out _).mono ?_; rintro e w8 ⟨rfl, hb8⟩; have HI8 := Lib.hid (HI5.out.later hb8); clear hb8))
      go_ret
      exact ⟨rfl, HI8.out.li.below⟩
end Go.Proofs.Ytdffbjjiojheoaa.St
