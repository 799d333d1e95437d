/- Pools of rows in pages: the law's look whether a pool has just the rows and pages of the document's. -/
import Derived.Test.YtcfhchdkohjbfaaRh
import Derived.Test.YtcfhchdkohjbfaaLg
namespace Go.Proofs.Ytcfhchdkohjbfaa.Kv
set_option maxRecDepth 100000
open Go.ChangeShapes Go.WideShapes Go.ChangeAt Go.RowKit Go.Proofs.Ytcfhchdkohjbfaa.Tn
theorem countD_cntZ {D : Doc Int} (hP : ∀ (id : Nat) (L : List Int) (P : List Nat), D.rows[id]? = some (some (L, P)) → ∀ k ∈ P, k < D.pages) (z : Int) : I.countD D z = (cntZ D.rows z : Int) := by
  unfold I.countD
  by_cases h0 : 0 ≤ z
  · obtain ⟨k, rfl⟩ : ∃ k : Nat, z = (k : Int) := ⟨z.toNat, by omega⟩
    rw [cntZ_nat, Int.toNat_natCast]
    by_cases h1 : k < D.pages
    · rw [if_pos ⟨h0, by omega⟩]
    · rw [if_neg (fun h => h1 (by have := h.2; omega))]
      have : ∀ rows : List (Option (List Int × List Nat)), (∀ (id : Nat) (L : List Int) (P : List Nat), rows[id]? = some (some (L, P)) → ∀ k ∈ P, k < D.pages) → cnt rows k = 0 := by
        intro rows
        induction rows with
        | nil => intro _; rfl
        | cons x l ih =>
          intro hx
          have h2 := ih fun id L P hr => hx (id + 1) L P (by simpa using hr)
          rcases x with _ | ⟨L, P⟩
          · simp [cnt, one, h2]
          · have h3 : P.count k = 0 := List.count_eq_zero.2 fun hm => h1 (hx 0 L P rfl k hm)
            simp [cnt, one, h2, h3]
      rw [this D.rows hP]; rfl
  · rw [if_neg (fun h => h0 h.1), cntZ_neg z (by omega)]; rfl
theorem Pool.pagesLt {w : World} {τ : Tags} {g : Nat} {D : Doc Int} (h : Pool I.kind w τ g D) (id : Nat) (L : List Int) (P : List Nat) (hr : D.rows[id]? = some (some (L, P))) : ∀ k ∈ P, k < D.pages := by
  obtain ⟨ly, pg, _, hG⟩ := h
  exact (hG.row id L P hr).lt
theorem Pool.p256 {w : World} {τ : Tags} {g : Nat} {D : Doc Int} (h : Pool I.kind w τ g D) : D.pages ≤ 256 := by
  obtain ⟨ly, pg, _, hG⟩ := h
  exact hG.p1
set_option maxHeartbeats 8000000 in
theorem same_ref {w : World} {τ : Tags} {g r : Nat} {D : Doc Int} (hp : Pool I.kind w τ g D) (hr : Ref w τ r D) (hl : Low D) (h2 : ∀ z, (thingsD D z).length ≤ 2000) :
    Calls Try.prog 11 #[.pointer (some ⟨g, 0, none⟩), .pointer (some ⟨r, 0, none⟩)] w fun e w' => e = .returned (.bool true) ∧ Below w.heap.size w w' := by
  obtain ⟨n, hn⟩ : ∃ n, D.pages = n := ⟨_, rfl⟩
  have hn2 : n ≤ 256 := by rw [← hn]; exact hp.p256
  obtain ⟨N, hN⟩ : ∃ N, D.rows.length = N := ⟨_, rfl⟩
  have hN2 : N ≤ 1024 := by rw [← hN]; exact hl.1
  have HP := Lib.hid hp
  have HR := Lib.hid hr
  have HL := Lib.hid hl
  have H2 := Lib.hid h2
  have HN := Lib.hid hN
  have Hn := Lib.hid hn
  have HC := Lib.hid (countD_cntZ hp.pagesLt)
  clear hp hr hl h2 hn hN
  go_enter Try.func11, Try.ntmps11
  go_wp2
  go_loopw [5] (fun iv wr => ∃ z : Int, -1 ≤ z ∧ z ≤ (N : Int) + 1 ∧ iv = .int .i64 z ∧ Below w.heap.size w wr) (fun iv _ => ((N : Int) + 1 - intOf iv).toNat)
  case atStart => exact ⟨-1, by omega, by omega, rfl, Below.refl _ _⟩
  case round =>
    obtain ⟨z, hz1, hz2, rfl, k1⟩ := hrel
    have P := Lib.hid (HP.out.below k1)
    have R := Lib.hid (HR.out.below k1)
    have B := Lib.hid k1
    clear k1
    obtain ⟨ly, hly⟩ := R.out
    obtain ⟨c0, c1, _⟩ := hly.cells
    obtain ⟨sp, cap, hv, _, _, hrow⟩ := hly.slice
    rw [hv, HN.out] at c0
    have HRow := Lib.hid hrow
    have HY := Lib.hid hly
    clear hrow hv hly
    by_cases hlt : z ≤ (N : Int)
    · have e1 : decide (z ≤ (N : Int)) = true := by simpa using hlt
      have hRt := right_ref R.out (by rw [HN.out]; exact hN2) z
      cases hro : rowAt D z with
      | none =>
        have HW := Lib.hid (lawRow P.out z [] (by rw [hro]; rfl) (by simp))
        have hLe : I.lenD D z = (0, 14) := by unfold I.lenD; rw [hro]
        have hPg : (rowAt D z).elim [] (·.2) = [] := by rw [hro]; rfl
        have hRd : rightD D z = false := by unfold rightD; rw [hro]; rfl
        have HLe := Lib.hid hLe
        have HPg := Lib.hid hPg
        have HRd := Lib.hid hRd
        clear hRt hro hLe hPg hRd
        go_wp2_with fail
        refine HW.out.mono ?_
        rintro e w2 ⟨sx, cx, bx, rfl, _, _, k2⟩
        have B2 := Lib.hid (B.out.trans (k2.mono B.out.size))
        have P2 := Lib.hid (P.out.below k2)
        have R2 := Lib.hid (R.out.below k2)
        have Y2 := Lib.hid (HY.out.below k2)
        have hLn := I.lenD_any P2.out z
        rw [HLe.out] at hLn
        have HLn := Lib.hid hLn
        have hRt := right_ref R2.out (by rw [HN.out]; exact hN2) z
        rw [HRd.out] at hRt
        have HRt := Lib.hid hRt
        have hPa := I.pages_any P2.out z
        rw [HPg.out] at hPa
        have HPa := Lib.hid hPa
        clear k2 hLn hRt hPa c0 c1 HW
        go_wp2_with fail
        refine HLn.out.mono ?_
        rintro e w3 ⟨rfl, rfl⟩
        go_wp2_with fail
        refine HRt.out.mono ?_
        rintro e w3 ⟨rfl, rfl⟩
        go_wp2_with fail
        refine HPa.out.mono ?_
        rintro e w4 ⟨sq, cq, bq, rfl, _, k4⟩
        have B4 := Lib.hid (B2.out.trans (k4.mono B2.out.size))
        clear k4
        go_wp2
        go_roundw
        case rel => exact ⟨z + 1, by omega, by omega, by go_num, B4.out⟩
        case measure => simp [intOf]; omega
      | some q =>
        obtain ⟨L, Pl⟩ := q
        obtain ⟨k, rfl, hk⟩ := rowAt_yes hro
        have hLL : thingsD D (k : Int) = L := by unfold thingsD; rw [hro]; rfl
        have h20 := H2.out (k : Int)
        rw [hLL] at h20
        obtain ⟨rfl, u0, u1, _⟩ := HRow.out k _ hk
        obtain ⟨hrl, _, hrp, _⟩ := HY.out.row k L Pl hk
        have hkN : k < N := by rw [← HN.out]; exact (List.getElem?_eq_some_iff.1 hk).1
        have b1 : (0 : Int) ≤ (k : Int) := by omega
        have b2 : (k : Int) < (N : Int) := by omega
        simp only [Option.isSome_some, if_true] at u0 u1
        obtain ⟨sl, cl, hlv, _⟩ := hrl.sl
        obtain ⟨sg, cg, hpv, _⟩ := hrp.sl
        rw [List.length_map] at hlv hpv
        rw [hlv] at hrl u0
        rw [hpv] at hrp u1
        obtain ⟨nl, hnl⟩ : ∃ nl, L.length = nl := ⟨_, rfl⟩
        obtain ⟨np, hnp⟩ : ∃ np, Pl.length = np := ⟨_, rfl⟩
        have HW := Lib.hid (lawRow P.out (k : Int) L hLL h20)
        have hLe : I.lenD D (k : Int) = ((nl : Int), 0) := by unfold I.lenD; rw [hro]; show ((L.length : Int), (0 : Int)) = _; rw [hnl]
        have hPg : (rowAt D (k : Int)).elim [] (·.2) = Pl := by rw [hro]; rfl
        have hRd : rightD D (k : Int) = true := by unfold rightD; rw [hro]; rfl
        rw [hnl] at hrl u0
        rw [hnp] at hrp u1
        have HLe := Lib.hid hLe
        have HPg := Lib.hid hPg
        have HRd := Lib.hid hRd
        have HNl := Lib.hid hnl
        have HNp := Lib.hid hnp
        have HRl := Lib.hid hrl
        have HRp := Lib.hid hrp
        have U0 := Lib.hid u0
        have U1 := Lib.hid u1
        have C0 := Lib.hid c0
        clear hRt hro hLe hPg hRd hLL h20 hrl hrp hlv hpv hnl hnp hk u0 u1
        go_wp2_with fail
        refine HW.out.mono ?_
        rintro e w2 ⟨sx, cx, bx, rfl, k3, _, k2⟩
        rw [HNl.out] at k3 ⊢
        have hnx := (Row.nums k3).1
        have HNx := Lib.hid hnx
        have B2 := Lib.hid (B.out.trans (k2.mono B.out.size))
        have P2 := Lib.hid (P.out.below k2)
        have R2 := Lib.hid (R.out.below k2)
        have hLn := I.lenD_any P2.out (k : Int)
        rw [HLe.out] at hLn
        have HLn := Lib.hid hLn
        have hRt := right_ref R2.out (by rw [HN.out]; exact hN2) (k : Int)
        rw [HRd.out] at hRt
        have HRt := Lib.hid hRt
        have q0 := (k2.cell (block_lt_of_cell C0.out)).trans C0.out
        have q1 := (k2.cell (block_lt_of_cell U0.out)).trans U0.out
        have q2 := (k2.cell (block_lt_of_cell U1.out)).trans U1.out
        have HL2 : Hid (Row w2 3 (.slice sl nl cl) (ly.lb k) (L.map (Value.int .i64))) := Lib.hid (HRl.out.kept fun c hc => k2.block c (HRl.out.lt hc))
        have HP2 : Hid (Row w2 3 (.slice sg np cg) (ly.pb k) (Pl.map natV)) := Lib.hid (HRp.out.kept fun c hc => k2.block c (HRp.out.lt hc))
        clear k2 hLn hRt hnx c0 c1 HW
        go_wp2_with fail
        refine HLn.out.mono ?_
        rintro e w3 ⟨rfl, rfl⟩
        go_wp2_with fail
        refine HRt.out.mono ?_
        rintro e w3 ⟨rfl, rfl⟩
        have ell : ((nl : Int) != (nl : Int)) = false := by simp
        have HBd : Hid (Below w2.heap.size w2 w2.drew) := Lib.hid ⟨rfl, rfl, rfl, Nat.le_refl _, fun _ _ => rfl⟩
        have HKey : Hid (∀ W', Below w2.heap.size w2 W' → W'.cell? ⟨r, 0, none⟩ = some (.slice (some ⟨ly.b, 0, none⟩) N cap) ∧ W'.cell? ⟨ly.b, k * 3, none⟩ = some (.slice sl nl cl) ∧ W'.cell? ⟨ly.b, k * 3 + 1, none⟩ = some (.slice sg np cg)) :=
          Lib.hid fun W' hb => ⟨(hb.cell (block_lt_of_cell q0)).trans q0, (hb.cell (block_lt_of_cell q1)).trans q1, (hb.cell (block_lt_of_cell q2)).trans q2⟩
        have HI1 := Lib.hid (ints_same w2.drew sx sl cx cl nl L HNl.out (by exact (Row.nums (k3.kept (w' := w2.drew) fun c hc => rfl)).1) (Row.nums (HL2.out.kept (w' := w2.drew) fun c hc => rfl)).1)
        clear k3
        go_upto_region 11 with fail
        go_region_held3 (fun W => W.cell? ⟨r, 0, none⟩ = some (.slice (some ⟨ly.b, 0, none⟩) N cap) ∧ W.cell? ⟨ly.b, k * 3, none⟩ = some (.slice sl nl cl) ∧ W.cell? ⟨ly.b, k * 3 + 1, none⟩ = some (.slice sg np cg)) (first | go_keep | exact HK.out)
          ((first
            | (go_at_call 15; refine HPa.out.mono ?_; rintro e w5 ⟨sq, cq, bq, rfl, k5, k4⟩; have B5 := Lib.hid (B4.out.trans (k4.mono B4.out.size)); have HK := Lib.hid (HKey.out _ B5.out); have hgp := HP2.out.kept (w' := w5) (fun c hc => B5.out.block c (HP2.out.lt hc)); rw [nat_row] at k5 hgp; have HI3 := Lib.hid (ints_same w5 sq sg cq cg np _ (by rw [List.length_map]; exact HNp.out) (Row.nums k5).1 (Row.nums hgp).1); clear k5 k4 hgp)
            | (go_at_call 16; refine HI3.out.mono ?_; rintro e w6 ⟨rfl, m6, rfl⟩; have B6 := Lib.hid (B5.out.trans ((set_drewN w5 m6).mono B5.out.size)); have HK := Lib.hid (HKey.out _ B6.out))
            | (go_at_call 16; refine HI1.out.mono ?_; rintro e w4 ⟨rfl, m, rfl⟩; have B4 := Lib.hid (set_drewN w2 (1 + m)); have HK := Lib.hid (HKey.out _ (HBd.out.trans ((set_drewN w2.drew m).mono HBd.out.size))); have hPa := I.pages_any (P2.out.below B4.out) (k : Int); rw [HPg.out, HNp.out] at hPa; have HPa := Lib.hid hPa; clear hPa)))
        have B9 := Lib.hid (B2.out.trans (B6.out.mono B2.out.size))
        clear q0 q1 q2
        go_wp2
        go_roundw
        case rel => exact ⟨(k : Int) + 1, by omega, by omega, by go_num, B9.out⟩
        case measure => simp [intOf]; omega
    · have e1 : decide (z ≤ (N : Int)) = false := by simpa using hlt
      go_wp2
      go_loopw [10] (fun iv wr => ∃ y : Int, -1 ≤ y ∧ y ≤ (n : Int) + 1 ∧ iv = .int .i64 y ∧ Below w.heap.size w wr) (fun iv _ => ((n : Int) + 1 - intOf iv).toNat)
      case atStart => exact ⟨-1, by omega, by omega, rfl, B.out⟩
      case round =>
        clear P R B HRow HY c0 c1
        obtain ⟨y, hy1, hy2, rfl, k1⟩ := hrel
        have P := Lib.hid (HP.out.below k1)
        have R := Lib.hid (HR.out.below k1)
        have B := Lib.hid k1
        clear k1
        have c1 : wr.cell? ⟨r, 1, none⟩ = some (.int .i64 (n : Int)) := by
          obtain ⟨ly, hly⟩ := R.out
          rw [← Hn.out]; exact hly.cells.2.1
        by_cases hle : y ≤ (n : Int)
        · have e2 : decide (y ≤ (n : Int)) = true := by simpa using hle
          have hCa := I.countD_any P.out y
          rw [HC.out y] at hCa
          have hCb := count_ref R.out HL.out y
          obtain ⟨c, hc⟩ : ∃ c, cntZ D.rows y = c := ⟨_, rfl⟩
          rw [hc] at hCa hCb
          have HCa := Lib.hid hCa
          have HCb := Lib.hid hCb
          have ecc : ((c : Int) != (c : Int)) = false := by simp
          clear hCa hCb hc
          go_wp2_with fail
          refine HCa.out.mono ?_
          rintro e w3 ⟨rfl, rfl⟩
          go_wp2_with fail
          refine HCb.out.mono ?_
          rintro e w3 ⟨rfl, rfl⟩
          go_wp2
          go_roundw
          case rel => exact ⟨y + 1, by omega, by omega, by go_num, B.out⟩
          case measure => simp [intOf]; omega
        · have e2 : decide (y ≤ (n : Int)) = false := by simpa using hle
          have HFa := Lib.hid (I.freeD_any P.out)
          obtain ⟨f, hf⟩ : ∃ f, I.freeN D D.pages = f := ⟨_, rfl⟩
          rw [hf] at HFa
          have HF := Lib.hid hf
          clear hf
          have eff : ((f : Int) == (f : Int)) = true := by simp
          go_wp2_with fail
          refine HFa.out.mono ?_
          rintro e w4 ⟨rfl, k4⟩
          have B4 := Lib.hid (B.out.trans (k4.mono B.out.size))
          have hFb := free_ref (R.out.below k4) HL.out (by rw [Hn.out]; exact hn2)
          rw [HF.out] at hFb
          have HFb := Lib.hid hFb
          clear k4 hFb c1
          go_wp2_with fail
          refine HFb.out.mono ?_
          rintro e w5 ⟨rfl, rfl⟩
          go_wp2
          go_ret
          exact ⟨rfl, B4.out⟩
end Go.Proofs.Ytcfhchdkohjbfaa.Kv
