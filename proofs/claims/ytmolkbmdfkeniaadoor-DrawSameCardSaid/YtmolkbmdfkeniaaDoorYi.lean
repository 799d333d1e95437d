import Derived.Test.YtmolkbmdfkeniaaDoorYh
-- from Yi
namespace Go.Proofs.YtmolkbmdfkeniaaDoor.Tn
set_option maxRecDepth 100000
open Go.ChangeShapes Go.WideShapes Go.ChangeAt Go.RowKit Go.Sort Go.Proofs.YtmolkbmdfkeniaaDoor.Fx Go.Proofs.YtmolkbmdfkeniaaDoor.Rf
/-- a world of the sort's loop: what lies between a1 and b1 is left to sort -/
structure PqS (lt : Nat → Nat → Bool) (wb : World) (P n : Nat) (w : World) (a b : Nat) (d : Array Nat) (a1 b1 : Nat) (d1 : Array Nat) (W : World) : Prop where
  s : SrtW wb P n w d1 W
  bel : Go.Sort.Below lt a1 b1 d1
  glue : ∀ R, PermIn a1 b1 d1 R → SortedIn lt a1 b1 R → PermIn a b d R ∧ SortedIn lt a b R
section
variable {lt : Nat → Nat → Bool} {wb : World} {P n : Nat} {w : World} {a b : Nat} {d : Array Nat} {a1 b1 : Nat} {d1 d2 : Array Nat} {W W' : World}
theorem PqS.perm (h : PqS lt wb P n w a b d a1 b1 d1 W) (hb : b1 ≤ n) (hs : SrtW wb P n W d2 W') (hp : PermIn a1 b1 d1 d2) : PqS lt wb P n w a b d a1 b1 d2 W' :=
  ⟨h.s.trans hs, h.bel.perm (by rw [h.s.size]; exact hb) hp, fun R hR => h.glue R (permIn_trans _ _ _ a1 b1 hp hR)⟩
theorem PqS.same (h : PqS lt wb P n w a b d a1 b1 d1 W) (hs : SrtW wb P n W d1 W') : PqS lt wb P n w a b d a1 b1 d1 W' := ⟨h.s.trans hs, h.bel, h.glue⟩
theorem PqS.drew (h : PqS lt wb P n w a b d a1 b1 d1 W) : PqS lt wb P n w a b d a1 b1 d1 W.drew := ⟨h.s.drew, h.bel, h.glue⟩
theorem PqS.regrown (h : PqS lt wb P n w a b d a1 b1 d1 W) (q : Nat) (os : Array Obj) : PqS lt wb P n w a b d a1 b1 d1 (grow (redrawn W q) os) := ⟨h.s.regrown q os, h.bel, h.glue⟩
theorem PqS.done (h : PqS lt wb P n w a b d a1 b1 d1 W) (hs : SrtW wb P n W d2 W') (hp : PermIn a1 b1 d1 d2) (ho : SortedIn lt a1 b1 d2) : ∃ d', SrtW wb P n w d' W' ∧ PermIn a b d d' ∧ SortedIn lt a b d' :=
  ⟨d2, h.s.trans hs, (h.glue _ hp ho).1, (h.glue _ hp ho).2⟩
theorem PqS.eq (hO : SWO lt) (h : PqS lt wb P n w a b d a1 b1 d1 W) (hb : b1 ≤ n) (ha : 0 < a1) {p : Nat} (hp1 : a1 ≤ p) (hp2 : p < b1) (hn : lt d1[a1 - 1]! d1[p]! = false) (hs : SrtW wb P n W (partitionEqual lt d1 a1 b1 p).2 W') :
    a1 < (partitionEqual lt d1 a1 b1 p).1 ∧ (partitionEqual lt d1 a1 b1 p).1 ≤ b1 ∧ PqS lt wb P n w a b d (partitionEqual lt d1 a1 b1 p).1 b1 (partitionEqual lt d1 a1 b1 p).2 W' := by
  obtain ⟨h1, h2, _, h4, h5⟩ := round_eq (d4 := (partitionEqual lt d1 a1 b1 p).2) (mid := (partitionEqual lt d1 a1 b1 p).1) hO (partitionEqual_holds lt) ha hp1 hp2 (by rw [h.s.size]; exact hb) h.bel hn rfl
  exact ⟨h1, h2, h.s.trans hs, h4, fun R hR hS => by
    obtain ⟨g1, g2⟩ := h5 R hR hS
    exact h.glue R g1 g2⟩
/-- behind a partition: the two sides, either of which may come first -/
structure PqT (lt : Nat → Nat → Bool) (wb : World) (P n : Nat) (w : World) (a b : Nat) (d : Array Nat) (a1 b1 mid : Nat) (d1 : Array Nat) (W : World) : Prop where
  s : SrtW wb P n w d1 W
  lo : a1 ≤ mid
  hi : mid < b1
  belL : Go.Sort.Below lt a1 mid d1
  belR : Go.Sort.Below lt (mid + 1) b1 d1
  left : ∀ L W', SrtW wb P n W L W' → PermIn a1 mid d1 L → SortedIn lt a1 mid L → PqS lt wb P n w a b d (mid + 1) b1 L W'
  right : ∀ L W', SrtW wb P n W L W' → PermIn (mid + 1) b1 d1 L → SortedIn lt (mid + 1) b1 L → PqS lt wb P n w a b d a1 mid L W'
theorem PqS.part (hO : SWO lt) (h : PqS lt wb P n w a b d a1 b1 d1 W) (hb : b1 ≤ n) {p : Nat} (hp1 : a1 ≤ p) (hp2 : p < b1) (hs : SrtW wb P n W (partition lt d1 a1 b1 p).2.2 W') :
    PqT lt wb P n w a b d a1 b1 (partition lt d1 a1 b1 p).1 (partition lt d1 a1 b1 p).2.2 W' := by
  obtain ⟨h1, h2, _, h4, h5, h6, h7⟩ := round_part (d4 := (partition lt d1 a1 b1 p).2.2) (mid := (partition lt d1 a1 b1 p).1) (ap := (partition lt d1 a1 b1 p).2.1) hO (partition_holds lt) hp1 hp2 (by rw [h.s.size]; exact hb) h.bel rfl
  refine ⟨h.s.trans hs, h1, h2, h4, h5, fun L W2 hW hp ho => ?_, fun L W2 hW hp ho => ?_⟩
  · obtain ⟨g1, g2⟩ := h6 L hp ho
    exact ⟨(h.s.trans hs).trans hW, g1, fun R hR hS => by
      obtain ⟨k1, k2⟩ := g2 R hR hS
      exact h.glue R k1 k2⟩
  · obtain ⟨g1, g2⟩ := h7 L hp ho
    exact ⟨(h.s.trans hs).trans hW, g1, fun R hR hS => by
      obtain ⟨k1, k2⟩ := g2 R hR hS
      exact h.glue R k1 k2⟩
end
set_option maxHeartbeats 16000000 in
theorem pdq_any {wb : World} {g : FuncId} {recv : Value} {n : Nat} {cf : Nat → Nat → Int} (S : Srt wb g recv n cf) (hO : SWO (ltc cf)) (P : Nat) : ∀ (k : Nat) (w : World) (a b : Nat) (d : Array Nat) (l : Int), b - a < k → a ≤ b → b ≤ n → SrtW wb P n w d w → Go.Sort.Below (ltc cf) a b d →
    Calls Tryd.prog 79 #[.slice (some ⟨P, 0, none⟩) n n, .int .i64 a, .int .i64 b, .int .i64 l, .func (.func g) #[recv] #[]] w fun e w' => e = .returned (.tuple #[]) ∧ ∃ d', SrtW wb P n w d' w' ∧ PermIn a b d d' ∧ SortedIn (ltc cf) a b d' := by
  intro k
  induction k with
  | zero => intro w a b d l hk; omega
  | succ k ih =>
  intro w a b d l hk hab hb hs hbel
  have HIH := Lib.hid ih
  have HS := Lib.hid S
  have HO_ := Lib.hid hO
  have mixed : Tryd.prog.follows Departure.mixedOrders = true := by kernel_rfl
  have hn := S.le
  have eg := S.eg
  have HQ : Hid (PqS (ltc cf) wb P n w a b d a b d w) := Lib.hid ⟨hs, hbel, fun R h1 h2 => ⟨h1, h2⟩⟩
  have HIns := Lib.hid (fun W d a b (h : SrtW wb P n W d W) h1 h2 => ins_any S W P a b d h h1 h2)
  have HHp := Lib.hid (fun W d a b (h : SrtW wb P n W d W) h1 h2 => heap_any S W P d h a b h1 h2)
  have HBr := Lib.hid (fun W d a b (h : SrtW wb P n W d W) h1 h2 => break_any S W P d h a b h1 h2)
  have HPv := Lib.hid (fun W d a b (h : SrtW wb P n W d W) h1 h2 => pivot_any S W P d h a b h1 h2)
  have HRv := Lib.hid (fun W d a b (h : SrtW wb P n W d W) h1 h2 => rev_any S W P d h a b h1 h2)
  have HPi := Lib.hid (fun W d a b (h : SrtW wb P n W d W) h1 h2 => part_any S W P d h a b h1 h2)
  have HEq := Lib.hid (fun W d a b p (h : SrtW wb P n W d W) h1 h2 h3 h4 => parteq_any S W P d h a b p h1 h2 h3 h4)
  have HPt := Lib.hid (fun W d a b p (h : SrtW wb P n W d W) h1 h2 h3 h4 => partition_any S W P d h a b p h1 h2 h3 h4)
  clear S hO ih hs hbel
  go_enter Tryd.func79, Tryd.ntmps79
  go_wp2
  go_loopw [1, 2, 3, 10, 11] (fun t1 t2 t3 t10 t11 wr => ∃ (a1 b1 : Nat) (l : Int) (q1 q2 : Bool) (d1 : Array Nat), a ≤ a1 ∧ a1 ≤ b1 ∧ b1 ≤ b ∧ t1 = .int .i64 a1 ∧ t2 = .int .i64 b1 ∧ t3 = .int .i64 l ∧ t10 = .bool q1 ∧ t11 = .bool q2 ∧ PqS (ltc cf) wb P n w a b d a1 b1 d1 wr) (fun t1 t2 _ _ _ _ => (intOf t2).toNat - (intOf t1).toNat)
  case atStart => exact ⟨a, b, l, true, true, d, by omega, by omega, by omega, rfl, rfl, rfl, rfl, rfl, HQ.out⟩
  case round =>
    clear HQ
    obtain ⟨a1, b1, l, q1, q2, d1, ha1, hab1, hb1, rfl, rfl, rfl, rfl, rfl, hQ⟩ := hrel
    have HQ := Lib.hid hQ
    have hb1n : b1 ≤ n := by omega
    have hsz : b1 ≤ d1.size := by rw [hQ.s.size]; exact hb1n
    clear hQ
    obtain ⟨m, hm⟩ : ∃ m, b1 - a1 = m := ⟨_, rfl⟩
    have em : (b1 : Int) - (a1 : Int) = (m : Int) := by omega
    have wm : IntKind.i64.wrap (m : Int) = (m : Int) := IntWalk.i64_in _ (by omega)
    have hm1 : b1 ≤ a1 + m := by omega
    have hm2 : a1 + m ≤ b1 := by omega
    have hmk : m ≤ k := by omega
    clear hm
    by_cases h12 : m ≤ 12
    · have d12 : decide ((m : Int) ≤ 12) = true := by simp; omega
      obtain ⟨g1, g2⟩ := insertionSort_holds HO_.out d1 a1 b1 hab1 hsz
      have HC := Lib.hid (HIns.out _ _ a1 b1 HQ.out.s.start hab1 hb1n)
      obtain ⟨T, hT⟩ : ∃ T, insertionSort (ltc cf) d1 a1 b1 = T := ⟨_, rfl⟩
      rw [hT] at g1 g2 HC
      have HG1 := Lib.hid g1
      have HG2 := Lib.hid g2
      clear hT g1 g2
      go_wp2_with fail
      refine HC.out.mono ?_
      rintro e w6 ⟨rfl, h6⟩
      have H6 := Lib.hid h6
      clear h6 HC
      go_wp2
      (try simp only [Exit.inBlock, Exit.then])
      refine bodyPost_ret (results_none rfl _ _ _) rfl ?_
      exact ⟨rfl, HQ.out.done H6.out HG1.out HG2.out⟩
    · have d12 : decide ((m : Int) ≤ 12) = false := by simp; omega
      have hlt : a1 < b1 := by omega
      by_cases hl : l = 0
      · have dl : (l == 0) = true := by simpa using hl
        obtain ⟨g1, g2⟩ := heapSort_holds HO_.out d1 a1 b1 hab1 hsz
        have HC := Lib.hid (HHp.out _ _ a1 b1 HQ.out.s.start hlt hb1n)
        obtain ⟨T, hT⟩ : ∃ T, heapSort (ltc cf) d1 a1 b1 = T := ⟨_, rfl⟩
        rw [hT] at g1 g2 HC
        have HG1 := Lib.hid g1
        have HG2 := Lib.hid g2
        clear hT g1 g2
        go_wp2_with fail
        refine HC.out.mono ?_
        rintro e w6 ⟨rfl, h6⟩
        have H6 := Lib.hid h6
        clear h6 HC
        go_wp2
        (try simp only [Exit.inBlock, Exit.then])
        refine bodyPost_ret (results_none rfl _ _ _) rfl ?_
        exact ⟨rfl, HQ.out.done H6.out HG1.out HG2.out⟩
      · have dl : (l == 0) = false := by simpa using hl
        go_upto_if 39 with fail
        go_cut [3] from 21 to 147 (fun s3 wc => ∃ (l : Int) (d2 : Array Nat), s3 = .int .i64 l ∧ PqS (ltc cf) wb P n w a b d a1 b1 d2 wc)
        case first =>
          cases q1
          · have HC := Lib.hid (HBr.out _ _ a1 b1 HQ.out.s.start (by omega) hb1n)
            go_wp2_with fail
            refine HC.out.mono ?_
            rintro e w6 ⟨rfl, d2, h6, h7⟩
            have HQ2 := Lib.hid (HQ.out.perm hb1n h6 h7)
            clear h6 h7 HC
            go_wp2
            go_meet
            case rel => exact ⟨_, d2, rfl, HQ2.out⟩
          · go_wp2
            go_meet
            case rel => exact ⟨l, d1, rfl, HQ.out⟩
        case rest =>
        clear HQ hsz dl hl
        obtain ⟨l, d2, rfl, hQ⟩ := hcut
        have HQ := Lib.hid hQ
        clear hQ
        have HC := Lib.hid (HPv.out _ _ a1 b1 HQ.out.s.start (by omega) hb1n)
        go_wp2_with fail
        refine HC.out.mono ?_
        rintro e w6 ⟨p, h, hp1, hp2, hh, rfl, h6⟩
        have HQ2 := Lib.hid (HQ.out.same h6)
        clear h6 HC HQ
        go_upto_if 56 with fail
        go_cut [13, 14] from 21 to 147 (fun s13 s14 wc => ∃ (p : Nat) (h : Int) (d3 : Array Nat), a1 ≤ p ∧ p < b1 ∧ s13 = .int .i64 p ∧ s14 = .int .i64 h ∧ (h = 0 ∨ h = 1 ∨ h = 2) ∧ PqS (ltc cf) wb P n w a b d a1 b1 d3 wc)
        case first =>
          rcases hh with rfl | rfl | rfl
          · go_wp2
            go_meet
            case rel => exact ⟨p, 0, d2, hp1, hp2, rfl, rfl, by simp, HQ2.out⟩
          · go_wp2
            go_meet
            case rel => exact ⟨p, 1, d2, hp1, hp2, rfl, rfl, by simp, HQ2.out⟩
          · have HC := Lib.hid (HRv.out _ _ a1 b1 HQ2.out.s.start hlt hb1n)
            obtain ⟨x1, hx1⟩ : ∃ x1, x1 + 1 = b1 := ⟨b1 - 1, by omega⟩
            obtain ⟨x2, hx2⟩ : ∃ x2, p - a1 = x2 := ⟨_, rfl⟩
            obtain ⟨x3, hx3⟩ : ∃ x3, x1 - x2 = x3 := ⟨_, rfl⟩
            have e1 : (b1 : Int) - 1 = (x1 : Int) := by omega
            have e2 : (p : Int) - (a1 : Int) = (x2 : Int) := by omega
            have e3 : (x1 : Int) - (x2 : Int) = (x3 : Int) := by omega
            have w1 : IntKind.i64.wrap (x1 : Int) = (x1 : Int) := IntWalk.i64_in _ (by omega)
            have w2 : IntKind.i64.wrap (x2 : Int) = (x2 : Int) := IntWalk.i64_in _ (by omega)
            have w3 : IntKind.i64.wrap (x3 : Int) = (x3 : Int) := IntWalk.i64_in _ (by omega)
            have hx31 : a1 ≤ x3 := by omega
            have hx32 : x3 < b1 := by omega
            clear hx1 hx2 hx3
            go_wp2_with fail
            refine HC.out.mono ?_
            rintro e w7 ⟨rfl, d3, h7, h8⟩
            have HQ3 := Lib.hid (HQ2.out.perm hb1n h7 h8)
            clear h7 h8 HC
            go_wp2
            go_meet
            case rel => exact ⟨x3, 1, d3, hx31, hx32, rfl, rfl, by simp, HQ3.out⟩
        case rest =>
        clear HQ2 hh hp1 hp2
        obtain ⟨p, h, d3, hp1, hp2, rfl, rfl, hh, hQ⟩ := hcut
        have HQ := Lib.hid hQ
        clear hQ
        go_upto_region 15 with fail
        go_cut [75] from 21 to 147 (fun s75 wx => ∃ q : Bool, s75 = .bool q ∧ PqS (ltc cf) wb P n w a b d a1 b1 d3 wx)
        case first =>
          cases q1 <;> cases q2 <;> rcases hh with rfl | rfl | rfl <;> (go_wp2; go_meet; exact ⟨_, rfl, HQ.out⟩)
        case rest =>
        clear HQ
        obtain ⟨q, rfl, hQ⟩ := hcut
        have HQ := Lib.hid hQ
        clear hQ
        go_upto_if 75 with fail
        go_cut [] from 21 to 147 (fun wc => ∃ d4 : Array Nat, PqS (ltc cf) wb P n w a b d a1 b1 d4 wc)
        case first =>
          cases q
          · go_wp2
            go_meet
            case rel => exact ⟨d3, HQ.out⟩
          · obtain ⟨g1, g2⟩ := partialInsertionSort_holds HO_.out d3 a1 b1 hlt (by rw [HQ.out.s.size]; exact hb1n) HQ.out.bel
            have HC := Lib.hid (HPi.out _ _ a1 b1 HQ.out.s.start hlt hb1n)
            obtain ⟨T, hT⟩ : ∃ T, partialInsertionSort (ltc cf) d3 a1 b1 = T := ⟨_, rfl⟩
            rw [hT] at g1 g2 HC
            obtain ⟨T1, T2⟩ := T
            dsimp only at g1 g2 HC
            have HG1 := Lib.hid g1
            have HG2 := Lib.hid g2
            clear hT g1 g2
            cases T2
            · go_wp2_with fail
              refine HC.out.mono ?_
              rintro e w7 ⟨rfl, h7⟩
              have HQ3 := Lib.hid (HQ.out.perm hb1n h7 HG1.out)
              clear h7 HC
              go_wp2
              go_meet
              case rel => exact ⟨T1, HQ3.out⟩
            · go_wp2_with fail
              refine HC.out.mono ?_
              rintro e w7 ⟨rfl, h7⟩
              have H7 := Lib.hid h7
              clear h7 HC
              go_wp2
              (try simp only [Exit.inBlock, Exit.then])
              refine bodyPost_ret (results_none rfl _ _ _) rfl ?_
              exact ⟨rfl, HQ.out.done H7.out HG1.out (by have := HG2.out; simpa using this)⟩
        case rest =>
        clear HQ
        obtain ⟨d4, hQ⟩ := hcut
        have HQ := Lib.hid hQ
        clear hQ
        go_upto_region 17 with fail
        go_cut [97] from 21 to 147 (fun s97 wc => ∃ q : Bool, s97 = .bool q ∧ PqS (ltc cf) wb P n w a b d a1 b1 d4 wc ∧ (q = true → 0 < a1 ∧ ltc cf d4[a1 - 1]! d4[p]! = false))
        case first =>
          rcases Nat.eq_zero_or_pos a1 with h0 | h0
          · have d0 : decide ((0 : Int) < (a1 : Int)) = false := by simp; omega
            have d0' : decide (0 < a1) = false := by simp; omega
            go_wp2
            go_big_region_o
            have HQ3 := Lib.hid HQ.out.drew
            generalize wc.drew = w7 at HQ3 ⊢
            clear HQ
            go_wp2
            go_meet
            case rel => exact ⟨false, rfl, HQ3.out, fun h => by cases h⟩
          · have d0 : decide ((0 : Int) < (a1 : Int)) = true := by simp; omega
            have d0' : decide (0 < a1) = true := by simpa using h0
            obtain ⟨c, hc⟩ : ∃ c, c + 1 = a1 := ⟨a1 - 1, by omega⟩
            have ec : (a1 : Int) - 1 = (c : Int) := by omega
            have wcc : IntKind.i64.wrap (c : Int) = (c : Int) := IntWalk.i64_in _ (by omega)
            have hcn : c < n := by omega
            have hpn : p < n := by omega
            have HC1 := Lib.hid (show a1 - 1 = c by omega)
            have HW := Lib.hid HQ.out.s
            clear hc
            have q1 := cell_regrown (HW.out.cell (c) hcn)
            have q2 := cell_regrown (HW.out.cell (p) hpn)
            have qc := fun q os => HS.out.at_ HW.out (c) (p) hcn hpn q os
            by_cases hlt2 : cf d4[c]! d4[p]! < 0
            · have hd : decide (cf d4[c]! d4[p]! < 0) = true := by simpa using hlt2
              have HD : Hid (ltc cf d4[c]! d4[p]! = true) := Lib.hid hd
              obtain ⟨x, hx⟩ : ∃ x, d4[c]! = x := ⟨_, rfl⟩
              obtain ⟨y, hy⟩ : ∃ y, d4[p]! = y := ⟨_, rfl⟩
              rw [hx, hy] at qc hd
              rw [hx] at q1
              rw [hy] at q2
              clear hx hy hlt2 
              go_wp2
              refine wp_region_quiet_below (by kernel_rfl) (by kernel_rfl) ?_
              repeat (quiet_step (exact qc _ _))
              refine wpQuiet_nil ?_
              intro _ hw'
              obtain ⟨⟨dq, osq⟩, hw''⟩ := hw'
              subst hw''
              have HW7 := Lib.hid (HW.out.regrown dq osq)
              have HQ3 := Lib.hid (HQ.out.regrown dq osq)
              clear HQ
              generalize grow (redrawn wc dq) osq = w7 at HW7 HQ3 ⊢
              clear q1 q2 qc HW
              go_wp2
              go_meet
              case rel => exact ⟨false, rfl, HQ3.out, fun h => by cases h⟩
            · have hd : decide (cf d4[c]! d4[p]! < 0) = false := by simpa using hlt2
              have HD : Hid (ltc cf d4[c]! d4[p]! = false) := Lib.hid hd
              obtain ⟨x, hx⟩ : ∃ x, d4[c]! = x := ⟨_, rfl⟩
              obtain ⟨y, hy⟩ : ∃ y, d4[p]! = y := ⟨_, rfl⟩
              rw [hx, hy] at qc hd
              rw [hx] at q1
              rw [hy] at q2
              clear hx hy hlt2 
              go_wp2
              refine wp_region_quiet_below (by kernel_rfl) (by kernel_rfl) ?_
              repeat (quiet_step (exact qc _ _))
              refine wpQuiet_nil ?_
              intro _ hw'
              obtain ⟨⟨dq, osq⟩, hw''⟩ := hw'
              subst hw''
              have HW7 := Lib.hid (HW.out.regrown dq osq)
              have HQ3 := Lib.hid (HQ.out.regrown dq osq)
              clear HQ
              generalize grow (redrawn wc dq) osq = w7 at HW7 HQ3 ⊢
              clear q1 q2 qc HW
              go_wp2
              go_meet
              case rel => exact ⟨true, rfl, HQ3.out, fun _ => ⟨h0, by rw [HC1.out]; exact HD.out⟩⟩
        case rest =>
        clear HQ
        obtain ⟨q, rfl, hQ, hq⟩ := hcut
        have HQ := Lib.hid hQ
        have HQq := Lib.hid hq
        clear hQ hq
        cases q
        · clear HQq
          have HC := Lib.hid (HPt.out _ _ a1 b1 p HQ.out.s.start hlt hb1n hp1 hp2)
          have HPq := Lib.hid (fun W' h => HQ.out.part HO_.out hb1n hp1 hp2 (W' := W') h)
          obtain ⟨mid, hmid⟩ : ∃ x, (partition (ltc cf) d4 a1 b1 p).1 = x := ⟨_, rfl⟩
          obtain ⟨d5, hd5⟩ : ∃ x, (partition (ltc cf) d4 a1 b1 p).2.2 = x := ⟨_, rfl⟩
          rw [hmid, hd5] at HC HPq
          clear hmid hd5
          go_wp2_with fail
          refine HC.out.mono ?_
          rintro e w8 ⟨q, rfl, h8⟩
          have HT := Lib.hid (HPq.out _ h8)
          clear h8 HC HPq HQ
          have hlo := HT.out.lo
          have hhi := HT.out.hi
          obtain ⟨lm, hlm⟩ : ∃ x, mid - a1 = x := ⟨_, rfl⟩
          obtain ⟨rm, hrm⟩ : ∃ x, b1 - mid = x := ⟨_, rfl⟩
          obtain ⟨th, hth⟩ : ∃ x, m / 8 = x := ⟨_, rfl⟩
          obtain ⟨md, hmd⟩ : ∃ x, mid + 1 = x := ⟨_, rfl⟩
          have e1 : (mid : Int) - (a1 : Int) = (lm : Int) := by omega
          have e2 : (b1 : Int) - (mid : Int) = (rm : Int) := by omega
          have e3 : (m : Int).tdiv 8 = (th : Int) := by rw [Int.tdiv_eq_ediv_of_nonneg (by omega)]; omega
          have e3' : (m : Int) / 8 = (th : Int) := by omega
          have e4 : (mid : Int) + 1 = (md : Int) := by omega
          have w1 : IntKind.i64.wrap (lm : Int) = (lm : Int) := IntWalk.i64_in _ (by omega)
          have w2 : IntKind.i64.wrap (rm : Int) = (rm : Int) := IntWalk.i64_in _ (by omega)
          have w3 : IntKind.i64.wrap (th : Int) = (th : Int) := IntWalk.i64_in _ (by omega)
          have w4 : IntKind.i64.wrap (md : Int) = (md : Int) := IntWalk.i64_in _ (by omega)
          have hmd1 : a1 < md := by omega
          have hmd2 : md ≤ b1 := by omega
          have HL : Hid (∀ L W', SrtW wb P n w8 L W' → PermIn a1 mid d5 L → SortedIn (ltc cf) a1 mid L → PqS (ltc cf) wb P n w a b d md b1 L W') := Lib.hid (by rw [← hmd]; exact HT.out.left)
          have HR : Hid (∀ L W', SrtW wb P n w8 L W' → PermIn md b1 d5 L → SortedIn (ltc cf) md b1 L → PqS (ltc cf) wb P n w a b d a1 mid L W') := Lib.hid (by rw [← hmd]; exact HT.out.right)
          have HBR : Hid (Go.Sort.Below (ltc cf) md b1 d5) := Lib.hid (by rw [← hmd]; exact HT.out.belR)
          by_cases hlr : lm < rm
          · have dlr : decide ((lm : Int) < (rm : Int)) = true := by simp; omega
            have dlr' : decide (lm < rm) = true := by simpa using hlr
            have HC := Lib.hid (HIH.out w8 a1 mid d5 l (by omega) hlo (by omega) HT.out.s.start HT.out.belL)
            clear hlm hrm hth hmd
            go_wp2_with fail
            refine HC.out.mono ?_
            rintro e w9 ⟨rfl, d6, h9, h10, h11⟩
            have HQ := Lib.hid (HL.out d6 w9 h9 h10 h11)
            clear h9 h10 h11 HC HL HR HT
            go_wp2
            go_roundw
            case rel => exact ⟨md, b1, l, _, q, d6, by omega, by omega, by omega, by first | rfl | go_num, rfl, rfl, rfl, rfl, HQ.out⟩
            case measure => simp [intOf]; omega
          · have dlr : decide ((lm : Int) < (rm : Int)) = false := by simp; omega
            have dlr' : decide (lm < rm) = false := by simp; omega
            have HC := Lib.hid (HIH.out w8 md b1 d5 l (by omega) hmd2 hb1n HT.out.s.start HBR.out)
            clear hlm hrm hth hmd
            go_wp2_with fail
            refine HC.out.mono ?_
            rintro e w9 ⟨rfl, d6, h9, h10, h11⟩
            have HQ := Lib.hid (HR.out d6 w9 h9 h10 h11)
            clear h9 h10 h11 HC HL HR HT
            go_wp2
            go_roundw
            case rel => exact ⟨a1, mid, l, _, q, d6, by omega, by omega, by omega, rfl, rfl, rfl, rfl, rfl, HQ.out⟩
            case measure => simp [intOf]; omega
        · obtain ⟨hq1, hq2⟩ := HQq.out rfl
          have HC := Lib.hid (HEq.out _ _ a1 b1 p HQ.out.s.start hlt hb1n hp1 hp2)
          have HPq := Lib.hid (fun W' h => HQ.out.eq HO_.out hb1n hq1 hp1 hp2 hq2 (W' := W') h)
          obtain ⟨mid, hmid⟩ : ∃ x, (partitionEqual (ltc cf) d4 a1 b1 p).1 = x := ⟨_, rfl⟩
          obtain ⟨d5, hd5⟩ : ∃ x, (partitionEqual (ltc cf) d4 a1 b1 p).2 = x := ⟨_, rfl⟩
          rw [hmid, hd5] at HC HPq
          clear hmid hd5 hq2 HQq
          go_wp2_with fail
          refine HC.out.mono ?_
          rintro e w8 ⟨rfl, h8⟩
          obtain ⟨k1, k2, hQ⟩ := HPq.out _ h8
          have HQ2 := Lib.hid hQ
          clear h8 hQ HC HPq HQ
          go_wp2
          go_roundw
          case rel => exact ⟨mid, b1, l, q1, q2, d5, by omega, by omega, by omega, rfl, rfl, rfl, rfl, rfl, HQ2.out⟩
          case measure => simp [intOf]; omega
theorem pdq_ok {wb : World} {g : FuncId} {recv : Value} {n : Nat} {cf : Nat → Nat → Int} (S : Srt wb g recv n cf) (hO : SWO (ltc cf)) (P : Nat) : PdqOK wb P n g recv cf := fun W d L hs =>
  pdq_any S hO P (n + 1) W 0 n d (L : Int) (by omega) (Nat.zero_le _) (Nat.le_refl _) hs (Or.inl rfl)
end Go.Proofs.YtmolkbmdfkeniaaDoor.Tn
