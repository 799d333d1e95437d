import Derived.Test.YtmolkbmdfkeniaaDoorNg
import Derived.Test.YtmolkbmdfkeniaaDoorTc
namespace Go.Proofs.YtmolkbmdfkeniaaDoor.Dr
set_option maxRecDepth 100000
open Go.ChangeShapes Go.WideShapes Go.ChangeAt Go.RowKit Go.Proofs.YtmolkbmdfkeniaaDoor.Tn

/-! ### the landed code: Pick -/
def PickTop (w : World) (sp : Option Addr) (cap : Nat) (v : List Int) (k : Int) : Prop := ∀ W, Below w.heap.size w W → Calls Tryd.prog 47 #[.slice sp v.length cap, .int .i64 k] W (AnsE W (topV v k) (topE v k))
theorem ownT_get {v : List Int} {K i : Nat} (h : i < K) : (ownT v K).getD i 0 = v.getD ((topN v K).getD i 0) 0 := by
  have hl := topN_length v K
  unfold ownT
  rw [List.getD_eq_getElem?_getD, List.getElem?_map, List.getD_eq_getElem?_getD (l := topN v K)]
  rw [List.getElem?_eq_getElem (by omega)]
  simp
theorem ownT_length (v : List Int) (K : Nat) : (ownT v K).length = K := by unfold ownT; rw [List.length_map, topN_length]
theorem topI_get {v : List Int} {K i : Nat} (h : i < K) : (topI v K).getD i 0 = (((topN v K).getD i 0 : Nat) : Int) := by
  have hl := topN_length v K
  unfold topI
  rw [List.getD_eq_getElem?_getD, List.getElem?_map, List.getD_eq_getElem?_getD]
  rw [List.getElem?_eq_getElem (by omega)]
  simp
theorem topN_lt {v : List Int} {K i : Nat} (hK : K ≤ v.length) (h : i < K) : (topN v K).getD i 0 < v.length := by
  have hT := topN_is v K hK
  have hl := hT.len
  refine hT.lt _ ?_
  rw [List.getD_eq_getElem?_getD, List.getElem?_eq_getElem (by omega)]
  simp
theorem chkV_all {v : List Int} (h : chkV v = 0) : 1 ≤ v.length ∧ v.length ≤ 512 ∧ ∀ x ∈ v, Fx.isN x := chkV_zero h
theorem chkV_own {v : List Int} {K : Nat} (h : chkV v = 0) (h1 : 1 ≤ K) (h2 : K ≤ v.length) : chkV (ownT v K) = 0 := by
  obtain ⟨a, b, d⟩ := chkV_all h
  have hl := ownT_length v K
  have hall : ∀ x ∈ ownT v K, Fx.isN x := fun x hx => by
    obtain ⟨i, hi, e⟩ := List.mem_iff_getElem.1 hx
    have hiK : i < K := by omega
    have e2 : (ownT v K).getD i 0 = x := by simp [hi, e]
    rw [ownT_get hiK] at e2
    have hp := topN_lt h2 hiK
    rw [← e2]
    refine d _ ?_
    rw [List.getD_eq_getElem?_getD, List.getElem?_eq_getElem hp]
    simp
  unfold chkV
  rw [if_neg (by omega), if_pos hall]
/-- the numbers of which k are written -/
def partQ (q : List Int) (K k : Nat) : List Int := q.take k ++ List.replicate (K - k) 0
theorem partQ_length {q : List Int} {K k : Nat} (hq : q.length = K) (h : k ≤ K) : (partQ q K k).length = K := by
  unfold partQ
  rw [List.length_append, List.length_take, List.length_replicate]
  omega
theorem partQ_set {q : List Int} {K k : Nat} (hq : q.length = K) (h : k < K) : (partQ q K k).set k (q.getD k 0) = partQ q K (k + 1) := by
  have e : q.getD k 0 = q[k]'(by omega) := by simp [hq, h]
  have hl : (q.take k).length = k := by rw [List.length_take]; omega
  unfold partQ
  rw [List.set_append_right _ _ (by rw [hl]; exact Nat.le_refl _), hl, Nat.sub_self, show K - k = (K - (k + 1)) + 1 by omega, List.replicate_succ, List.set_cons_zero, List.take_succ_eq_append_getElem (by omega), e, List.append_assoc]
  rfl
def rowQ (l : List Int) : Array Value := (l.map (Value.int .i64)).toArray
theorem rowQ_get (l : List Int) (i : Nat) (h : i < l.length) : (rowQ l)[i]? = some (.int .i64 (l.getD i 0)) := by
  simp [rowQ, h, List.getD]
theorem rowQ_set (l : List Int) (i : Nat) (x : Int) : (rowQ l).setIfInBounds i (.int .i64 x) = rowQ (l.set i x) := by
  apply Array.ext'
  simp [rowQ]
theorem madeQ (q : List Int) (K : Nat) : madeCells #[Value.int .i64 0] K = rowQ (partQ q K 0) := by
  apply Array.ext
  · simp [madeCells, rowQ, partQ]
  · intro i h1 h2
    simp [madeCells, rowQ, partQ, Nat.mod_one]
structure PkS (b : Nat) (w : World) (P : Nat) (q : List Int) (K k : Nat) (W : World) : Prop where
  below : Below b w W
  row : W.heap[P]? = some (.cells (rowQ (partQ q K k)) 3 (0, 0))
theorem nums_at_ {w : World} {sp : Option Addr} {cap : Nat} {l : List Int} (h : Nums w sp cap l) (k : Nat) (hk : k < l.length) : ∃ a : Nat × Nat, sp = some ⟨a.1, a.2, none⟩ := by
  obtain ⟨c, o, e, _⟩ := h.at_ k hk
  exact ⟨(c, o), e⟩
theorem Nums.cell {w : World} {c o : Nat} {cap : Nat} {l : List Int} (h : Nums w (some ⟨c, o, none⟩) cap l) (k : Nat) (hk : k < l.length) : w.cell? ⟨c, o + k, none⟩ = some (.int .i64 (l.getD k 0)) := by
  obtain ⟨c', o', e, hc⟩ := h.at_ k hk
  cases e
  exact hc
set_option maxHeartbeats 4000000 in
theorem pick_any (w : World) (g : Nat) (s : List Int) (c : Int) (sp : Option Addr) (cap N : Nat) (v : List Int) (k : Int) (he : E8 w) (h : St8 w g s c) (hN : v.length = N) (hl : Nums w sp cap v) (k1 : -9223372036854775808 ≤ k) (k2 : k ≤ 9223372036854775807) (hp : PickTop w sp cap v k) :
    Calls Tryd.prog 33 #[ptV g, .agg #[.slice sp N cap, .int .i64 k]] w (BelowA w g s c (pickD (numV s) c v k)) := by
  have hNm : N ≤ 9223372036854775807 := by rw [← hN]; exact hl.len
  have HS := Lib.hid h
  have HE := Lib.hid he
  have HN := Lib.hid hN
  have HL := Lib.hid hl
  unfold PickTop at hp
  rw [hN] at hp
  have HTp := Lib.hid hp
  unfold ptV
  have hb0 : Below w.heap.size w (w.alloc (.cells #[.slice sp N cap, .int .i64 k] 66)) := (Below.refl _ _).alloc (Nat.le_refl _) _
  have HB0 := Lib.hid hb0
  have HG0 : Hid (∀ W, Below (w.heap.size + 1) (w.alloc (.cells #[.slice sp N cap, .int .i64 k] 66)) W → W.cell? ⟨w.heap.size, 0, none⟩ = some (.slice sp N cap) ∧ W.cell? ⟨w.heap.size, 1, none⟩ = some (.int .i64 k)) := Lib.hid (fun W hW => by
    have hr := (hW.block w.heap.size (by omega)).trans (heap_alloc_new w (.cells #[.slice sp N cap, .int .i64 k] 66))
    exact ⟨by rw [cell_of_row _ _ _ _ _ _ hr]; rfl, by rw [cell_of_row _ _ _ _ _ _ hr]; rfl⟩)
  obtain ⟨c1, c2⟩ := HG0.out _ (Below.refl _ _)
  by_cases hT : topE v k = 0
  · have hT8 : topE8 v k = 0 := hT
    have hV : topV v k = topI v k.toNat := by unfold topV; rw [if_pos hT]
    rw [hT, hV] at HTp
    have hck : chkV v = 0 ∧ 1 ≤ k ∧ k ≤ (N : Int) := by
      unfold topE at hT
      by_cases h2 : chkV v ≠ 0
      · rw [if_pos h2] at hT; omega
      · rw [if_neg h2] at hT
        by_cases h3 : k < 1 ∨ (v.length : Int) < k
        · rw [if_pos h3] at hT; omega
        · refine ⟨by omega, by omega, by omega⟩
    obtain ⟨hc0, hk1, hk2⟩ := hck
    obtain ⟨K, hK⟩ : ∃ K : Nat, k = (K : Int) := ⟨k.toNat, by omega⟩
    subst hK
    rw [Int.toNat_natCast] at HTp
    have hTl := topI_length v K
    by_cases h1 : K = 1
    · subst h1
      have hD : pickD (numV s) c v ((1 : Nat) : Int) = ((((topN v 1).getD 0 0 : Nat) : Int), 0, 0) := by
        unfold pickD
        rw [if_neg (fun h => h hT8), if_pos (show ((1 : Nat) : Int) = 1 from rfl)]
      rw [hD]
      have hg := topI_get (v := v) (K := 1) (i := 0) (by omega)
      obtain ⟨x, hx⟩ : ∃ x, (topN v 1).getD 0 0 = x := ⟨_, rfl⟩
      rw [hx] at hg ⊢
      obtain ⟨T, hTT⟩ : ∃ T, topI v 1 = T := ⟨_, rfl⟩
      rw [hTT] at hTl hg HTp
      have HTl := Lib.hid hTl
      have HGt := Lib.hid hg
      clear hT hT8 hV hc0 hD hTl hg hTT h he hN hl hp hb0
      go_enter Tryd.func33, Tryd.ntmps33
      go_wp2_with fail
      refine (HTp.out _ HB0.out).mono ?_
      rintro e w1 ⟨s1, q1, rfl, hn1, hb1⟩
      obtain ⟨⟨a1, a2⟩, e1⟩ := nums_at_ hn1 0 (by rw [HTl.out]; omega)
      subst e1
      have ct := Nums.cell hn1 0 (by rw [HTl.out]; omega)
      rw [HGt.out, Nat.add_zero] at ct
      have hb1' : Below (w.heap.size + 1) (w.alloc (.cells #[.slice sp N cap, .int .i64 ((1 : Nat) : Int)] 66)) w1 := by simpa using hb1
      obtain ⟨c3, c4⟩ := HG0.out w1 hb1'
      have HB1 := Lib.hid (HB0.out.trans (hb1.mono (by simp)))
      rw [HTl.out]
      clear hn1 hb1 hb1' c1 c2
      go_wp2
      go_ret2
      exact ⟨rfl, c, HS.out.later HB1.out, fun _ => by simp, grown_of HB1.out⟩
    · have hown := chkV_own hc0 (show 1 ≤ K by omega) (show K ≤ v.length by omega)
      have hsm : smV (ownT v K) = smx (ownT v K) := by unfold smV; rw [if_pos hown]
      have hql := ownT_length v K
      have hsl : (smx (ownT v K)).length = K := by rw [smx_length, hql]
      have HGet : Hid (∀ i, i < K → (topI v K).getD i 0 = (((topN v K).getD i 0 : Nat) : Int) ∧ (topN v K).getD i 0 < N ∧ (ownT v K).getD i 0 = v.getD ((topN v K).getD i 0) 0) := Lib.hid (fun i hi => ⟨topI_get hi, by rw [← hN]; exact topN_lt (by omega) hi, ownT_get hi⟩)
      have HSf := Lib.hid (fun W P cq (hb : Below w.heap.size w W) hq => tsoft_any W (some ⟨P, 0, none⟩) cq K (ownT v K) hql hq (he.steps.below hb))
      rw [hown, hsm] at HSf
      have HCh := Lib.hid (fun W sq cq (hb : Below w.heap.size w W) hq ha => choose_any W g s c sq cq K (smx (ownT v K)) (he.below hb) (h.later hb) hsl hq ha)
      have HFit := Lib.hid (chooseD_fit (numV s) c (smx (ownT v K)) h.rng.2)
      have hD : pickD (numV s) c v ((K : Nat) : Int) = if (chooseD (numV s) c (smx (ownT v K))).2.2 = 0 then ((((topN v K).getD (chooseD (numV s) c (smx (ownT v K))).1.toNat 0 : Nat) : Int), (chooseD (numV s) c (smx (ownT v K))).2.1, 0) else (0, 0, (chooseD (numV s) c (smx (ownT v K))).2.2) := by
        unfold pickD
        rw [if_neg (fun h => h hT8), if_neg (by omega), Int.toNat_natCast]
      rw [hD]
      obtain ⟨T, hTT⟩ : ∃ T, topI v K = T := ⟨_, rfl⟩
      rw [hTT] at hTl HGet HTp
      obtain ⟨q, hq⟩ : ∃ q, ownT v K = q := ⟨_, rfl⟩
      rw [hq] at HGet HSf hql HCh HFit hsl ⊢
      obtain ⟨M, hM⟩ : ∃ M, smx q = M := ⟨_, rfl⟩
      rw [hM] at HSf HCh HFit hsl ⊢
      obtain ⟨D, hDD⟩ : ∃ D, chooseD (numV s) c M = D := ⟨_, rfl⟩
      rw [hDD] at HCh HFit ⊢
      obtain ⟨RR, hRR⟩ : ∃ RR, (if D.2.2 = 0 then ((((topN v K).getD D.1.toNat 0 : Nat) : Int), D.2.1, 0) else (0, 0, D.2.2)) = RR := ⟨_, rfl⟩
      rw [hRR]
      have HRR := Lib.hid hRR
      have HTl := Lib.hid hTl
      have HQl := Lib.hid hql
      have HMl := Lib.hid hsl
      have hKn : ((K : Int) == 1) = false := by simp; omega
      have hK2 : 2 ≤ K := by omega
      have hK5 : K ≤ 512 := by have := (chkV_all hc0).2.1; omega
      clear hT hT8 hV hc0 hD hTl hTT h he hN hl hp hb0 hown hsm hql hsl hq hM hDD h1 hk1 hRR
      go_enter Tryd.func33, Tryd.ntmps33
      go_wp2_with fail
      refine (HTp.out _ HB0.out).mono ?_
      rintro e w1 ⟨s1, q1, rfl, hn1, hb1⟩
      rw [HTl.out]
      obtain ⟨⟨a1, a2⟩, e1⟩ := nums_at_ hn1 0 (by rw [HTl.out]; omega)
      subst e1
      have HN1 := Lib.hid hn1
      have hb1' : Below (w.heap.size + 1) (w.alloc (.cells #[.slice sp N cap, .int .i64 (K : Int)] 66)) w1 := by simpa using hb1
      have HB1' := Lib.hid hb1'
      obtain ⟨c3, c4⟩ := HG0.out w1 hb1'
      have HB1 := Lib.hid (HB0.out.trans (hb1.mono (by simp)))
      clear hn1 hb1 hb1' c1 c2
      go_wp2_with (refine Tn.wpList_makeN 39 3 8 (.int .i64 0) Tryd.underlying39 Tn.info3 (by decide) rfl (.tmp 31) (.tmp 31) rfl K rfl rfl (by omega) ?_)
      have hpk : PkS w1.heap.size w1 w1.heap.size q K 0 (w1.alloc (.cells (madeCells #[Value.int .i64 0] K) 3)) := ⟨(Below.refl _ _).alloc (Nat.le_refl _) _, by rw [madeQ q K]; exact heap_alloc_new _ _⟩
      clear c3 c4
      go_loopw [35] (fun i wr => ∃ j : Nat, j ≤ K ∧ i = .int .i64 j ∧ PkS w1.heap.size w1 w1.heap.size q K j wr) (fun i _ => K - (intOf i).toNat)
      case atStart => exact ⟨0, by omega, rfl, hpk⟩
      case round =>
        clear hpk
        obtain ⟨j, hj, rfl, hpk⟩ := hrel
        have HPk := Lib.hid hpk
        clear hpk
        have hbr : Below (w.heap.size + 1) (w.alloc (.cells #[.slice sp N cap, .int .i64 (K : Int)] 66)) wr := HB1'.out.trans (HPk.out.below.mono (by have := HB1'.out.size; simpa using this))
        obtain ⟨c5, c6⟩ := HG0.out wr hbr
        have HBr := Lib.hid hbr
        clear hbr
        by_cases hlt : j < K
        · have hdt : decide (j < K) = true := by simpa using hlt
          obtain ⟨g1, g2, g3⟩ := HGet.out j hlt
          have ct := Nums.cell (HN1.out.below HPk.out.below) j (by rw [HTl.out]; exact hlt)
          rw [g1] at ct
          obtain ⟨p, hp⟩ : ∃ p, (topN v K).getD j 0 = p := ⟨_, rfl⟩
          rw [hp] at ct g2 g3
          have hlv := HL.out.below (HB1.out.trans (HPk.out.below.mono HB1.out.size))
          obtain ⟨b1, b2, e2, cv⟩ := hlv.at_ p (by rw [HN.out]; exact g2)
          rw [← g3] at cv
          have hps := partQ_set (K := K) HQl.out hlt
          have hpl := partQ_length (K := K) (k := j) HQl.out (by omega)
          have cs : wr.cell? ⟨w1.heap.size, j, none⟩ = some (.int .i64 ((partQ q K j).getD j 0)) := by rw [cell_of_row _ _ _ _ _ _ HPk.out.row, rowQ_get _ _ (by rw [hpl]; exact hlt)]
          have fs : wr.frozen? ⟨w1.heap.size, j, none⟩ = false := frozen_of_row _ _ _ _ _ HPk.out.row
          obtain ⟨y, hy⟩ : ∃ y, q.getD j 0 = y := ⟨_, rfl⟩
          rw [hy] at cv hps
          have HPs := Lib.hid hps
          subst e2
          clear hp g1 g3 hlv hps hpl hy
          go_wp2
          clear cs fs ct cv c5 c6
          go_roundw
          case rel => exact ⟨j + 1, by omega, by go_num, HPk.out.below.setCell (Nat.le_refl _) _, by rw [heap_setCell_same _ _ _ _ _ _ HPk.out.row, rowQ_set, HPs.out]⟩
          case measure => simp [intOf]; omega
        · obtain rfl : j = K := by omega
          have hdf : decide (j < j) = false := by simp
          have hnq : Nums wr (some ⟨w1.heap.size, 0, none⟩) j q := by
            refine ⟨by rw [List.length_map, HQl.out]; exact Nat.le_refl _, by unfold maxLen; omega, (fun h => by cases h), fun _ => ⟨_, _, rfl, fun i u hu => ?_⟩⟩
            have hrow := HPk.out.row
            unfold partQ at hrow
            rw [Nat.sub_self, List.replicate_zero, List.append_nil, List.take_of_length_le (by rw [HQl.out]; exact Nat.le_refl _)] at hrow
            rw [cell_of_row _ _ _ _ _ _ hrow, ← hu, Nat.zero_add]
            simp [rowQ]
          have HNq := Lib.hid hnq
          have HBw := Lib.hid (HB1.out.trans (HPk.out.below.mono HB1.out.size))
          have HN1r := Lib.hid (HN1.out.below HPk.out.below)
          clear hnq hlt hj c5 c6
          go_wp2_with fail
          refine (HSf.out _ _ _ HBw.out HNq.out).mono ?_
          rintro e w3 ⟨s3, q3, rfl, hn3, hb3⟩
          rw [HMl.out]
          have HN3 := Lib.hid hn3
          have HB3 := Lib.hid (HBw.out.trans (hb3.mono HBw.out.size))
          have HN1s := Lib.hid (HN1r.out.below hb3)
          clear hn3 hb3
          go_wp2_with fail
          refine (HCh.out w3 s3 q3 HB3.out HN3.out (apart_two HN3.out (HS.out.later HB3.out) (by rw [HMl.out]; exact hK2))).mono ?_
          rintro e w4 ⟨rfl, c', hs4, hc', hg4⟩
          have HS4 := Lib.hid hs4
          have HG4 := Lib.hid (grown_trans (grown_of HB3.out) hg4)
          have HC4 := Lib.hid hc'
          have HN4 := Lib.hid (Nums.grown HN1s.out hg4 (apart_two HN1s.out (HS.out.later HB3.out) (by rw [HTl.out]; exact hK2)))
          clear hs4 hc' hg4
          obtain ⟨x, f, er⟩ := D
          have hr := HRR.out
          dsimp only at HFit HC4 hr
          clear HRR
          unfold two
          dsimp only
          by_cases hE : er = 0
          · subst hE
            rw [if_pos rfl] at hr
            obtain ⟨p, hxp, hpl, _⟩ := HFit.out.2.2.1 rfl
            subst hxp
            rw [Int.toNat_natCast] at hr
            rw [HMl.out] at hpl
            have ct := Nums.cell HN4.out p (by rw [HTl.out]; exact hpl)
            rw [(HGet.out p hpl).1] at ct
            obtain ⟨z, hz⟩ : ∃ z, (topN v j).getD p 0 = z := ⟨_, rfl⟩
            rw [hz] at ct hr
            subst hr
            clear hz
            go_wp2
            go_ret2
            exact ⟨rfl, _, HS4.out, fun _ => HC4.out trivial, HG4.out⟩
          · rw [if_neg hE] at hr
            subst hr
            have e1 := ne_of0 hE
            have HNe := Lib.hid hE
            clear hE
            go_wp2
            go_ret2
            exact ⟨rfl, _, HS4.out, fun h => absurd h HNe.out, HG4.out⟩
  · have hT8 : topE8 v k ≠ 0 := hT
    have hD : pickD (numV s) c v k = (0, 0, topE v k) := by
      unfold pickD
      rw [if_pos hT8]
      rfl
    rw [hD]
    have hV : topV v k = [] := by unfold topV; rw [if_neg hT]
    rw [hV] at HTp
    have e1 := ne_of0 hT
    obtain ⟨T, hTT⟩ : ∃ T, topE v k = T := ⟨_, rfl⟩
    rw [hTT] at HTp e1 hT ⊢
    have HNe := Lib.hid hT
    clear hT hT8 hD hV hTT h he hN hl hp hb0
    go_enter Tryd.func33, Tryd.ntmps33
    go_wp2_with fail
    refine (HTp.out _ HB0.out).mono ?_
    rintro e w1 ⟨s1, q1, rfl, hn1, hb1⟩
    have HB1 := Lib.hid (HB0.out.trans (hb1.mono (by simp)))
    rw [show ([] : List Int).length = 0 from rfl]
    clear hn1 hb1 c1 c2
    go_wp2
    go_ret2
    exact ⟨rfl, c, HS.out.later HB1.out, fun h => absurd h HNe.out, grown_of HB1.out⟩
end Go.Proofs.YtmolkbmdfkeniaaDoor.Dr
