import Derived.Test.YtdffbjjiojheoaaMc
import Derived.Test.YtdffbjjiojheoaaBx
namespace Go.Proofs.Ytdffbjjiojheoaa.Wg
set_option maxRecDepth 100000
open Go.ChangeShapes Go.WideShapes Go.ChangeAt Go.RowKit Go.Shelf Go.Proofs.Ytdffbjjiojheoaa.Tn

/-! ### Check of a model, ahead of its parts -/
/-- a model's box -/
structure Hw (w : World) (v : Wv) (m : Md) (W : World) : Prop where
  below : Below w.heap.size w W
  md : Model W w.heap.size v m
theorem Hw.made {w : World} {v : Wv} {m : Md} (h : WvOK w v m) : Hw w v m (w.alloc (.cells v.cells 38)) := ⟨(Below.refl _ _).alloc (Nat.le_refl _) _, Model.new h⟩
theorem Hw.later {w W W' : World} {v : Wv} {m : Md} (h : Hw w v m W) (hb : Below W.heap.size W W') : Hw w v m W' := ⟨h.below.trans (hb.mono h.below.size), h.md.later hb⟩
theorem Model.cfg {W : World} {g : Nat} {v : Wv} {m : Md} (h : Model W g v m) : W.cell? ⟨g, 0, none⟩ = some (.int .i64 v.c.v) ∧ W.cell? ⟨g, 1, none⟩ = some (.int .i64 v.c.d) ∧ W.cell? ⟨g, 2, none⟩ = some (.int .i64 v.c.h) ∧ W.cell? ⟨g, 3, none⟩ = some (.int .i64 v.c.l) ∧ W.cell? ⟨g, 4, none⟩ = some (.int .i64 v.c.x) ∧ W.cell? ⟨g, 5, none⟩ = some (.int .i64 v.c.i) :=
  ⟨h.cell 0, h.cell 1, h.cell 2, h.cell 3, h.cell 4, h.cell 5⟩
theorem headE_cfg {m : Md} (h : m.cfg.chk ≠ 0) : m.headE = m.cfg.chk := by unfold Md.headE; rw [if_pos h]
theorem headE_new {m : Md} (h : m.cfg.chk = 0) (h2 : (Bp.newD m.al m.ps).1 ≠ 0) : m.headE = (Bp.newD m.al m.ps).1 := by unfold Md.headE; rw [if_neg (by omega), if_pos h2]
theorem headE_size {m : Md} (h : m.cfg.chk = 0) (h2 : (Bp.newD m.al m.ps).1 = 0) (h3 : ((Bp.newD m.al m.ps).2.length : Int) ≠ m.cfg.v ∨ (m.n : Int) ≠ m.cfg.l) : m.headE = 13 := by unfold Md.headE; rw [if_neg (by omega), if_neg (by omega), if_pos h3]
theorem headE_ok {m : Md} (h : m.cfg.chk = 0) (h2 : (Bp.newD m.al m.ps).1 = 0) (h3 : ¬ (((Bp.newD m.al m.ps).2.length : Int) ≠ m.cfg.v ∨ (m.n : Int) ≠ m.cfg.l)) : m.headE = 0 := by unfold Md.headE; rw [if_neg (by omega), if_neg (by omega), if_neg h3]
set_option maxHeartbeats 8000000 in
theorem checkHead_any (w : World) (v : Wv) (m : Md) (hv : WvOK w v m) (ha : m.al.length ≤ 1000) (hp : m.ps.length ≤ 1000) :
    Calls Try.prog 66 #[.agg v.cells] w fun e w' => e = .returned (.int .i64 m.headE) ∧ Below w.heap.size w w' := by
  have HB := Lib.hid (Hw.made hv)
  have HV := Lib.hid hv
  have HC : Hid (∀ W, Calls Try.prog 37 #[.agg #[.int .i64 v.c.v, .int .i64 v.c.d, .int .i64 v.c.h, .int .i64 v.c.l, .int .i64 v.c.x, .int .i64 v.c.i]] W fun e w' => e = .returned (.int .i64 m.cfg.chk) ∧ Below W.heap.size W w') := Lib.hid (fun W => by have := chk_any W v.c; rw [← hv.c]; exact this)
  have Ha := Lib.hid ha
  have Hp := Lib.hid hp
  obtain ⟨R, hR⟩ : ∃ R, m.headE = R := ⟨_, rfl⟩
  rw [hR]
  have HR := Lib.hid hR
  unfold Wv.cells at HB ⊢
  clear hv ha hp hR
  go_enter Try.func66, Try.ntmps66
  go_upto_region 1 with fail
  refine gen_w (Q := fun w => Code.wp _ _ _ _ w) _ (Hw w v m) HB.out ?_
  clear HB
  intro w1 hx
  have HX := Lib.hid hx
  obtain ⟨c0, c1, c2, c3, c4, c5⟩ := hx.md.cfg
  clear hx
  go_wp2_with fail
  refine (HC.out w1).mono ?_
  rintro e w2 ⟨rfl, hb2⟩
  have HX2 := Lib.hid (HX.out.later hb2)
  clear c0 c1 c2 c3 c4 c5 hb2 HX HC
  obtain ⟨E, hE⟩ : ∃ E, m.cfg.chk = E := ⟨_, rfl⟩
  rw [hE]
  by_cases h0 : E = 0
  · have HE : Hid (m.cfg.chk = 0) := Lib.hid (by rw [hE, h0])
    subst h0
    have q6 : w2.cell? ⟨w.heap.size, 6, none⟩ = some (.slice v.sa v.na v.ca) := HX2.out.md.cell 6
    have q7 : w2.cell? ⟨w.heap.size, 7, none⟩ = some (.slice v.sp v.np v.cp) := HX2.out.md.cell 7
    clear hE
    go_wp2_with fail
    have ho := HX2.out.md.ok
    refine (Bp.new_any w2 v.sa v.sp v.ca v.cp v.na v.np m.al m.ps ho.al ho.na.symm ho.ps ho.np.symm (by rw [ho.na]; have := Ha.out; omega) (by rw [ho.np]; have := Hp.out; omega)).mono ?_
    rintro e w3 ⟨hb3, ⟨hN, rfl⟩ | ⟨hN, g, rfl, hg, hcd⟩⟩
    · have HX3 := Lib.hid (HX2.out.later hb3)
      have HV2 := Lib.hid ((headE_new HE.out hN).symm.trans HR.out)
      obtain ⟨F, hF⟩ : ∃ F, (Bp.newD m.al m.ps).1 = F := ⟨_, rfl⟩
      rw [hF] at hN HV2 ⊢
      have n1 : (F == 0) = false := by simpa using hN
      have n2 : (F != 0) = true := by simpa using hN
      clear hb3 hN hF q6 q7 HX2 ho
      go_wp2
      go_ret
      exact ⟨by rw [← HV2.out]; rfl, HX3.out.below⟩
    · have HX3 := Lib.hid (HX2.out.later hb3)
      obtain ⟨T, hT⟩ : ∃ T, (Bp.newD m.al m.ps).2 = T := ⟨_, rfl⟩
      have HT := Lib.hid hT
      rw [hT] at hcd
      obtain ⟨mm, sp5, ct5, hcr, hst⟩ := hcd
      have HCr := Lib.hid hcr
      have HN := Lib.hid hN
      have hTl : T.length ≤ maxLen := by have h1 := hst.le; have h2 := hst.max; rw [List.length_map] at h1; omega
      have HTl := Lib.hid hTl
      have q11 : w3.cell? ⟨w.heap.size, 11, none⟩ = some (.slice v.sl v.nl v.cl) := HX3.out.md.cell 11
      obtain ⟨c0, _, _, c3, _, _⟩ := HX3.out.md.cfg
      have hcc := HX3.out.md.ok.c
      have hnn := HX3.out.md.ok.nl
      have HQ := Lib.hid (headE_size (m := m) HE.out hN)
      have HQ2 := Lib.hid (headE_ok (m := m) HE.out hN)
      rw [hT, ← hcc, ← hnn] at HQ HQ2
      obtain ⟨cv, hcv⟩ : ∃ cv, v.c.v = cv := ⟨_, rfl⟩
      obtain ⟨cl, hcl⟩ : ∃ cl, v.c.l = cl := ⟨_, rfl⟩
      rw [hcv] at c0 HQ HQ2
      rw [hcl] at c3 HQ HQ2
      obtain ⟨t, ht⟩ : ∃ t, T.length = t := ⟨_, rfl⟩
      rw [ht] at HTl HCr HQ HQ2
      clear hb3 hN hT hcr hst hTl hcc hnn hcv hcl q6 q7 HX2 ho ht hg
      by_cases h1 : (t : Int) = cv
      · have n1 : ((t : Int) == cv) = true := by simpa using h1
        have n2 : ((t : Int) != cv) = false := by simpa using h1
        by_cases h2 : (v.nl : Int) = cl
        · have n3 : ((v.nl : Int) == cl) = true := by simpa using h2
          have n4 : ((v.nl : Int) != cl) = false := by simpa using h2
          have HV2 := Lib.hid ((HQ2.out (fun h => by rcases h with h | h <;> contradiction)).symm.trans HR.out)
          clear h1 h2
          go_wp2
          go_quiet (exact (Bp.many_any _ g mm m.al m.ps sp5 t ct5 (HCr.out.later (drawn_below _)) HTl.out).mono fun e w' h => ⟨h.1, _, h.2⟩)
          go_wp2
          go_ret
          exact ⟨by rw [← HV2.out]; rfl, (HX3.out.later (drawn_below _)).below⟩
        · have n3 : ((v.nl : Int) == cl) = false := by simpa using h2
          have n4 : ((v.nl : Int) != cl) = true := by simpa using h2
          have HV2 := Lib.hid ((HQ.out (Or.inr h2)).symm.trans HR.out)
          clear h1 h2
          go_wp2
          go_quiet (exact (Bp.many_any _ g mm m.al m.ps sp5 t ct5 (HCr.out.later (drawn_below _)) HTl.out).mono fun e w' h => ⟨h.1, _, h.2⟩)
          go_wp2
          go_ret
          exact ⟨by rw [← HV2.out]; rfl, (HX3.out.later (drawn_below _)).below⟩
      · have n1 : ((t : Int) == cv) = false := by simpa using h1
        have n2 : ((t : Int) != cv) = true := by simpa using h1
        have HV2 := Lib.hid ((HQ.out (Or.inl h1)).symm.trans HR.out)
        clear h1
        go_wp2
        go_quiet (exact (Bp.many_any _ g mm m.al m.ps sp5 t ct5 (HCr.out.later (drawn_below _)) HTl.out).mono fun e w' h => ⟨h.1, _, h.2⟩)
        go_wp2
        go_ret
        exact ⟨by rw [← HV2.out]; rfl, (HX3.out.later (drawn_below _)).below⟩
  · have HV2 := Lib.hid ((headE_cfg (m := m) (by rw [hE]; exact h0)).symm.trans HR.out)
    rw [hE] at HV2
    have n1 : (E == 0) = false := by simpa using h0
    have n2 : (E != 0) = true := by simpa using h0
    clear hE h0
    go_wp2
    go_ret
    exact ⟨by rw [← HV2.out]; rfl, HX2.out.below⟩
end Go.Proofs.Ytdffbjjiojheoaa.Wg
