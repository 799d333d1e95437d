import Derived.Test.YtmolkbmdfkeniaaDoorTa
import Derived.Lib.SliceRun
-- from Ja
namespace Go.Proofs.YtmolkbmdfkeniaaDoor.Tn
open Go.ChangeShapes Go.WideShapes Go.ChangeAt Go.RowKit Go.Proofs.YtmolkbmdfkeniaaDoor.Fx Go.Proofs.YtmolkbmdfkeniaaDoor.Rf
/-! ### the landed code: what is checked -/
def cnt (n m : Int) : Bool := decide (1 ≤ n ∧ n ≤ m)
theorem cnt_yes {n m : Int} (h : 1 ≤ n ∧ n ≤ m) : cnt n m = true := by unfold cnt; simpa using h
theorem cnt_no {n m : Int} (h : ¬ (1 ≤ n ∧ n ≤ m)) : cnt n m = false := by unfold cnt; simpa using h
set_option maxRecDepth 100000 in
set_option maxHeartbeats 4000000 in
theorem count_any (w : World) (n m : Int) : Calls Tryd.prog 58 #[.int .i64 n, .int .i64 m] w fun e w' => e = .returned (.bool (cnt n m)) ∧ w = w' := by
  by_cases h1 : 1 ≤ n
  · have d1 : decide (1 ≤ n) = true := by simpa using h1
    by_cases h2 : n ≤ m
    · rw [cnt_yes ⟨h1, h2⟩]
      have d2 : decide (n ≤ m) = true := by simpa using h2
      go_enter Tryd.func58, Tryd.ntmps58
      go_wp2
      go_ret
      exact ⟨rfl, rfl⟩
    · rw [cnt_no (fun h => h2 h.2)]
      have d2 : decide (n ≤ m) = false := by simpa using h2
      go_enter Tryd.func58, Tryd.ntmps58
      go_wp2
      go_ret
      exact ⟨rfl, rfl⟩
  · rw [cnt_no (fun h => h1 h.1)]
    have d1 : decide (1 ≤ n) = false := by simpa using h1
    go_enter Tryd.func58, Tryd.ntmps58
    go_wp2
    go_ret
    exact ⟨rfl, rfl⟩
theorem firstE_at : ∀ (es : List Int) (k : Nat), k < es.length → (∀ j, j < k → es.getD j 0 = 0) → es.getD k 0 ≠ 0 → firstE es = es.getD k 0
  | [], k, h, _, _ => absurd h (by simp)
  | e :: es, 0, _, _, hk => by
    have : e ≠ 0 := by simpa using hk
    simp [firstE, this]
  | e :: es, k + 1, h, h0, hk => by
    have he : e = 0 := by simpa using h0 0 (by omega)
    have ih := firstE_at es k (by simpa using h) (fun j hj => by simpa using h0 (j + 1) (by omega)) (by simpa using hk)
    rw [firstE, if_neg (by simp [he]), ih]
    simp
theorem firstE_all : ∀ (es : List Int), (∀ j, j < es.length → es.getD j 0 = 0) → firstE es = 0
  | [], _ => rfl
  | e :: es, h => by
    have he : e = 0 := by simpa using h 0 (by simp)
    rw [firstE, if_neg (by simp [he])]
    exact firstE_all es fun j hj => by simpa using h (j + 1) (by simpa using hj)
theorem map_getD (ls : List (List Int)) (f : List Int → Int) (k : Nat) (h : k < ls.length) : (ls.map f).getD k 0 = f (ls.getD k []) := by simp [List.getD_eq_getElem?_getD, h]
def chkL (ls : List (List Int)) : Int := firstE (ls.map chkV)
theorem chkL_at {ls : List (List Int)} (k : Nat) (hk : k < ls.length) (h0 : ∀ j, j < k → chkV (ls.getD j []) = 0) (h : chkV (ls.getD k []) ≠ 0) : chkL ls = chkV (ls.getD k []) := by
  unfold chkL
  rw [firstE_at (ls.map chkV) k (by simpa using hk) (fun j hj => by rw [map_getD _ _ _ (by omega)]; exact h0 j hj) (by rw [map_getD _ _ _ hk]; exact h), map_getD _ _ _ hk]
theorem chkL_all {ls : List (List Int)} (h0 : ∀ j, j < ls.length → chkV (ls.getD j []) = 0) : chkL ls = 0 :=
  firstE_all _ fun j hj => by rw [List.length_map] at hj; rw [map_getD _ _ _ hj]; exact h0 j hj
theorem chkV_size {l : List Int} (h : ¬ (1 ≤ (l.length : Int) ∧ (l.length : Int) ≤ 512)) : chkV l = 13 := by unfold chkV; rw [if_pos (by omega)]
theorem chkV_range {l : List Int} (h : 1 ≤ (l.length : Int) ∧ (l.length : Int) ≤ 512) (j : Nat) (hj : j < l.length) (hn : ¬ isN (l.getD j 0)) : chkV l = 10 := by
  unfold chkV
  rw [if_neg (by omega), if_neg (fun h => hn (in_of (p := isN) h j hj))]
theorem chkV_ok {l : List Int} (h : 1 ≤ (l.length : Int) ∧ (l.length : Int) ≤ 512) (hn : ∀ j, j < l.length → isN (l.getD j 0)) : chkV l = 0 := by
  unfold chkV
  rw [if_neg (by omega), if_pos (of_get hn)]
set_option maxRecDepth 100000 in
set_option maxHeartbeats 4000000 in
theorem check_any (w : World) (sp : Option Addr) (cap M : Nat) (ls : List (List Int)) (hM : ls.length = M) (hv : Vecs w sp cap ls) : Calls Tryd.prog 57 #[.slice sp M cap] w fun e w' => e = .returned (.int .i64 (chkL ls)) ∧ Below w.heap.size w w' := by
  have hMm : M ≤ 9223372036854775807 := by rw [← hM]; exact hv.len
  have HV := Lib.hid hv
  have HM := Lib.hid hM
  have HA := Lib.hid (fun k hk h0 h => chkL_at (ls := ls) k hk h0 h)
  have HO := Lib.hid (fun h0 => chkL_all (ls := ls) h0)
  obtain ⟨R, hR⟩ : ∃ R, chkL ls = R := ⟨_, rfl⟩
  rw [hR] at HA HO ⊢
  clear hv hM hR
  go_enter Tryd.func57, Tryd.ntmps57
  go_wp2
  go_step3
  go_wp2
  go_step3
  go_wp2
  go_loopw [3, 10] (fun e i wr => ∃ k : Nat, k ≤ M ∧ i = .int .i64 k ∧ e = .int .i64 0 ∧ (∀ j, j < k → chkV (ls.getD j []) = 0) ∧ Below w.heap.size w wr) (fun _ i _ => M - (intOf i).toNat)
  case atStart => exact ⟨0, by omega, rfl, rfl, fun j hj => absurd hj (by omega), Below.refl _ _⟩
  case round =>
    obtain ⟨k, hk, rfl, rfl, h0, hB⟩ := hrel
    have H0 := Lib.hid h0
    have HB := Lib.hid hB
    clear h0 hB
    by_cases hlt : k < M
    · have hdt : decide (k < M) = true := by simp; omega
      obtain ⟨c, o, s2, c2, rfl, hc, hb⟩ := HV.out.at_ k (by rw [HM.out]; exact hlt)
      have hcr := (HB.out.cell (p := ⟨c, o + k, none⟩) (block_lt_of_cell hc)).trans hc
      have HA2 := Lib.hid (HA.out k (by rw [HM.out]; exact hlt) H0.out)
      have HX := Lib.hid (hb.below HB.out)
      have hlen := hb.len
      clear hc hb
      obtain ⟨l, hl⟩ : ∃ l, ls.getD k [] = l := ⟨_, rfl⟩
      rw [hl] at hcr HA2 HX hlen
      have HL := Lib.hid hl
      obtain ⟨N, hN⟩ : ∃ N, l.length = N := ⟨_, rfl⟩
      rw [hN] at hcr hlen
      have HN := Lib.hid hN
      clear hl hN
      by_cases hs : 1 ≤ (N : Int) ∧ (N : Int) ≤ 512
      · have HS := Lib.hid hs
        have HC : Hid (cnt N 512 = true) := Lib.hid (cnt_yes hs)
        obtain ⟨hs1, hs2⟩ := hs
        go_wp2_with fail
        refine (count_any _ _ _).mono ?_
        rintro e w' ⟨rfl, rfl⟩
        rw [HC.out]
        go_wp2
        go_loopw [3, 20] (fun e i wr => ∃ j : Nat, j ≤ N ∧ i = .int .i64 j ∧ e = .int .i64 0 ∧ (∀ q, q < j → isN (l.getD q 0)) ∧ Below w.heap.size w wr ∧ Nums wr s2 c2 l) (fun _ i _ => N - (intOf i).toNat)
        case atStart => exact ⟨0, by omega, rfl, rfl, fun j hj => absurd hj (by omega), HB.out, HX.out⟩
        case round =>
          obtain ⟨j, hj, rfl, rfl, hq, hB2, hX2⟩ := hrel
          have HQ := Lib.hid hq
          have HB2 := Lib.hid hB2
          have HX2 := Lib.hid hX2
          clear hq hB2 hX2
          by_cases hlt2 : j < N
          · have hdt2 : decide (j < N) = true := by simp; omega
            obtain ⟨g, p, rfl, hcx⟩ := HX2.out.at_ j (by rw [HN.out]; exact hlt2)
            by_cases hi : isN (l.getD j 0)
            · have HI := Lib.hid hi
              have HQ2 : Hid (∀ q, q < j + 1 → isN (l.getD q 0)) := Lib.hid (fun q hq => by
                rcases Nat.lt_or_ge q j with h | h
                · exact HQ.out q h
                · obtain rfl : q = j := by omega
                  exact HI.out)
              obtain ⟨x, hx⟩ : ∃ x, l.getD j 0 = x := ⟨_, rfl⟩
              rw [hx] at hcx HI
              clear hx hi
              go_wp2_with fail
              refine (Fq.chk_ok _ x HI.out).mono ?_
              rintro e w2 ⟨rfl, hb2⟩
              have HB3 := Lib.hid (HB2.out.trans (hb2.mono HB2.out.size))
              have HX3 := Lib.hid (HX2.out.below hb2)
              clear hb2 hcx
              go_wp2
              go_roundw
              case rel => exact ⟨j + 1, by omega, by go_num, rfl, HQ2.out, HB3.out, HX3.out⟩
              case measure => simp [intOf]; omega
            · have HE : Hid (chkV l = 10) := Lib.hid (chkV_range (by rw [HN.out]; omega) j (by rw [HN.out]; exact hlt2) hi)
              have HI := Lib.hid hi
              obtain ⟨x, hx⟩ : ∃ x, l.getD j 0 = x := ⟨_, rfl⟩
              rw [hx] at hcx HI
              clear hx hi
              go_wp2_with fail
              refine (Fq.chk_no _ x HI.out).mono ?_
              rintro e w2 ⟨rfl, hb2⟩
              have HB3 := Lib.hid (HB2.out.trans (hb2.mono HB2.out.size))
              clear hb2 hcx
              go_wp2
              rw [Exit.noGoto_ret]
              go_ret
              exact ⟨by rw [HA2.out (by rw [HE.out]; decide), HE.out]; rfl, HB3.out⟩
          · obtain rfl : j = N := by omega
            have hdf : decide (j < j) = false := by simp
            have HE : Hid (chkV l = 0) := Lib.hid (chkV_ok (by rw [HN.out]; omega) (fun q hq => HQ.out q (by rw [HN.out] at hq; exact hq)))
            have H1 : Hid (∀ j, j < k + 1 → chkV (ls.getD j []) = 0) := Lib.hid (fun q hq => by
              rcases Nat.lt_or_ge q k with h | h
              · exact H0.out q h
              · obtain rfl : q = k := by omega
                rw [HL.out]; exact HE.out)
            go_wp2
            go_roundw
            case rel => exact ⟨k + 1, by omega, by go_num, rfl, H1.out, HB2.out⟩
            case measure => simp [intOf]; omega
      · have HC : Hid (cnt N 512 = false) := Lib.hid (cnt_no hs)
        have HE : Hid (chkV l = 13) := Lib.hid (chkV_size (by rw [HN.out]; exact hs))
        clear hs
        go_wp2_with fail
        refine (count_any _ _ _).mono ?_
        rintro e w' ⟨rfl, rfl⟩
        rw [HC.out]
        go_wp2
        rw [Exit.noGoto_ret]
        go_ret
        exact ⟨by rw [HA2.out (by rw [HE.out]; decide), HE.out]; rfl, HB.out⟩
    · obtain rfl : k = M := by omega
      have hdf : decide (k < k) = false := by simp
      have HR : Hid (R = 0) := Lib.hid (HO.out (fun j hj => H0.out j (by rw [HM.out] at hj; exact hj)))
      go_wp2
      rw [Exit.noGoto_ret]
      go_ret
      exact ⟨by rw [HR.out]; rfl, HB.out⟩
end Go.Proofs.YtmolkbmdfkeniaaDoor.Tn
-- from Jc
namespace Go.Proofs.YtmolkbmdfkeniaaDoor.Tn
set_option maxRecDepth 100000
open Go.ChangeShapes Go.WideShapes Go.ChangeAt Go.RowKit Go.Proofs.YtmolkbmdfkeniaaDoor.Fx Go.Proofs.YtmolkbmdfkeniaaDoor.Rf
/-! ### the landed code: Check, Dot, a matrix's Check and Row -/
theorem vecs_new (w : World) (g : Nat) (hg : g = w.heap.size) (vs : List Value) (ls : List (List Int)) (cs : Array Value) (n : Nat) (hn : vs.length = n) (hl : ls.length = n) (hc : cs = vs.toArray) (hb : n ≤ 1000000) (h : ∀ i v, vs[i]? = some v → VecVal w v (ls.getD i [])) :
    Vecs (w.alloc (.cells cs 39)) (some ⟨g, 0, none⟩) n ls := by
  subst hn
  subst hg
  have hs := Sl.new w vs cs 39 (0, 0) hc hb
  refine ⟨vs, hl.symm, hs, fun i v hv => ?_⟩
  obtain ⟨sp, cap, e, hnm⟩ := h i v hv
  exact ⟨sp, cap, e, hnm.below ((Below.refl _ _).alloc (Nat.le_refl _) _)⟩
theorem vecs_new1 (w : World) (g : Nat) (hg : g = w.heap.size) (sp : Option Addr) (cap N : Nat) (l : List Int) (hN : l.length = N) (h : Nums w sp cap l) : Vecs (w.alloc (.cells #[.slice sp N cap] 39)) (some ⟨g, 0, none⟩) 1 [l] :=
  vecs_new w g hg [.slice sp N cap] [l] _ 1 rfl rfl rfl (by omega) fun i v hv => by
    rcases i with _ | i
    · simp at hv; subst hv; exact ⟨sp, cap, by rw [← hN]; rfl, h⟩
    · simp at hv
theorem chkL1 (l : List Int) : chkL [l] = chkV l := by
  unfold chkL
  simp only [List.map_cons, List.map_nil, firstE]
  split
  · rfl
  · omega
/-- a copy of numbers -/
theorem made_none (w : World) : (w.alloc (.cells #[] 3)).ownsRow w.heap.size 3 1 (.slice (some ⟨w.heap.size, 0, none⟩) 0 0) 0 [] := World.ownsRow_made w #[] 0 (Nat.le_refl _) (Nat.zero_le _) rfl
set_option maxHeartbeats 4000000 in
theorem clone_any (w : World) (a : Addr) (cap N : Nat) (l : List Int) (hN : l.length = N) (hl : Nums w (some a) cap l) (hm : N ≤ 100000) :
    Calls Tryd.prog 72 #[.slice (some a) N cap] w (AnsN w l) := by
  have HL := Lib.hid hl
  have HN := Lib.hid hN
  have q22 : ∀ w : World, (binOp .eql 39 (.slice (some a) N cap) (.slice none 0 0)).run Tryd.prog w = .ok (.bool false) w := fun w => Lib.run_eql_slice_nil w _ 3 (some a) N cap 0 0 Tryd.underlying39
  clear hl hN
  go_enter Tryd.func72, Tryd.ntmps72
  go_wp2_with (refine wpList_append_sl 39 3 8 (.int .i64 0) Tryd.underlying39 info3 rfl (by decide) rfl (.tmp 5) (.tmp 6) rfl w.heap.size (.slice (some ⟨w.heap.size, 0, none⟩) 0 0) 0 N [] (l.map (Value.int .i64)) rfl (made_none w) (some a) cap rfl (by rw [List.length_map]; exact HN.out) (HL.out.below ((Below.refl _ _).alloc (Nat.le_refl _) _)) (one_ints l) (by omega) (by simp) ?_; intro v' w' hown hgr; obtain ⟨sv, cv, rfl, _, hnm⟩ := own_nums (l := l) (by simpa using hown); have HNm := Lib.hid hnm; have HB := Lib.hid (((Below.refl w.heap.size w).alloc (Nat.le_refl _) (.cells #[] 3)).trans (Below.ofGrown hgr (by simp) (fun k hk => by simp [Value.ownBlock] at hk; omega))); clear hown hgr hnm)
  go_ret
  refine ⟨sv, cv, ?_, HNm.out, HB.out⟩
  rw [HN.out]
  simp
end Go.Proofs.YtmolkbmdfkeniaaDoor.Tn
-- from Jd
namespace Go.Proofs.YtmolkbmdfkeniaaDoor.Tn
set_option maxRecDepth 100000
open Go.ChangeShapes Go.WideShapes Go.ChangeAt Go.RowKit Go.Proofs.YtmolkbmdfkeniaaDoor.Fx Go.Proofs.YtmolkbmdfkeniaaDoor.Rf
/-! ### the landed code: a row of a matrix -/
theorem ne0 {e : Int} (h : e ≠ 0) : (e != 0) = true := by simpa using h
end Go.Proofs.YtmolkbmdfkeniaaDoor.Tn
-- from Je
namespace Go.Proofs.YtmolkbmdfkeniaaDoor.Tn
set_option maxRecDepth 100000
open Go.ChangeShapes Go.WideShapes Go.ChangeAt Go.RowKit Go.Proofs.YtmolkbmdfkeniaaDoor.Fx Go.Proofs.YtmolkbmdfkeniaaDoor.Rf
section
variable {α : Type} (EN : α → Value) (df : α)
/-- a slice that reads as rows of things -/
structure VecsA (w : World) (sp : Option Addr) (cap : Nat) (ls : List (List α)) : Prop where
  ex : ∃ vs : List Value, vs.length = ls.length ∧ Sl w sp cap vs ∧ ∀ i v, vs[i]? = some v → ∃ s c, v = .slice s (ls.getD i []).length c ∧ Sl w s c ((ls.getD i []).map EN)
def colA (ls : List (List α)) (i : Nat) : List α := ls.map fun l => l.getD i df
end
section
variable {α : Type} {EN : α → Value} {df : α}
theorem VecsA.at_ {w : World} {sp : Option Addr} {cap : Nat} {ls : List (List α)} (h : VecsA EN w sp cap ls) (k : Nat) (hk : k < ls.length) : ∃ c o s2 c2, sp = some ⟨c, o, none⟩ ∧ w.cell? ⟨c, o + k, none⟩ = some (.slice s2 (ls.getD k []).length c2) ∧ Sl w s2 c2 ((ls.getD k []).map EN) := by
  obtain ⟨vs, h1, h2, h3⟩ := h.ex
  obtain ⟨c, o, rfl, hl⟩ := h2.lies (by omega)
  have hv : vs[k]? = some vs[k] := List.getElem?_eq_getElem (by omega)
  obtain ⟨s2, c2, e, hb⟩ := h3 k _ hv
  have := hl k _ hv
  rw [e] at this
  exact ⟨c, o, s2, c2, rfl, this, hb⟩
theorem VecsA.below {w w' : World} {sp : Option Addr} {cap : Nat} {ls : List (List α)} (h : VecsA EN w sp cap ls) (hb : Below w.heap.size w w') : VecsA EN w' sp cap ls := by
  obtain ⟨vs, h1, h2, h3⟩ := h.ex
  exact ⟨vs, h1, h2.below (Nat.le_refl _) hb, fun i v hv => by
    obtain ⟨s, c, e, hn⟩ := h3 i v hv
    exact ⟨s, c, e, hn.below (Nat.le_refl _) hb⟩⟩
theorem Sl.atA {w : World} {sp : Option Addr} {cap : Nat} {l : List α} (h : Sl w sp cap (l.map EN)) (k : Nat) (hk : k < l.length) : ∃ c o, sp = some ⟨c, o, none⟩ ∧ w.cell? ⟨c, o + k, none⟩ = some (EN (l.getD k df)) := by
  obtain ⟨c, o, rfl, hl⟩ := h.lies (by simp; omega)
  exact ⟨c, o, rfl, hl k _ (by simp [hk])⟩
theorem colA_length (ls : List (List α)) (i : Nat) : (colA df ls i).length = ls.length := by simp [colA]
theorem colA_get (ls : List (List α)) (i k : Nat) (hk : k < ls.length) : (colA df ls i).getD k df = (ls.getD k []).getD i df := by simp [colA, List.getD_eq_getElem?_getD, hk]
theorem take_snocA (l : List α) (k : Nat) (h : k < l.length) : l.take (k + 1) = l.take k ++ [l.getD k df] := by
  have e : l.getD k df = l[k] := by simp [h]
  rw [e, List.take_succ_eq_append_getElem h]
end
theorem vecsA_of {w : World} {sp : Option Addr} {cap : Nat} {ls : List (List Int)} (h : Vecs w sp cap ls) : VecsA (Value.int .i64) w sp cap ls := by
  obtain ⟨vs, h1, h2, h3⟩ := h.ex
  exact ⟨vs, h1, h2, fun i v hv => by
    obtain ⟨s, c, e, hn⟩ := h3 i v hv
    exact ⟨s, c, e, hn⟩⟩
def firstN (E : Nat → Int) (n : Nat) : Int := firstE ((List.range n).map E)
theorem firstN_at {E : Nat → Int} {n k : Nat} (hk : k < n) (h0 : ∀ j, j < k → E j = 0) (h : E k ≠ 0) : firstN E n = E k := by
  have hg : ∀ j, j < n → ((List.range n).map E).getD j 0 = E j := fun j hj => by simp [hj]
  unfold firstN
  rw [firstE_at _ k (by simpa using hk) (fun j hj => by rw [hg j (by omega)]; exact h0 j hj) (by rw [hg k hk]; exact h), hg k hk]
theorem firstN_all {E : Nat → Int} {n : Nat} (h0 : ∀ j, j < n → E j = 0) : firstN E n = 0 := by
  unfold firstN
  refine firstE_all _ fun j hj => ?_
  have hj' : j < n := by simpa using hj
  have : ((List.range n).map E).getD j 0 = E j := by simp [hj']
  rw [this]
  exact h0 j hj'
def mkR (R : Nat → Int) (i n : Nat) : List Int := (List.range i).map R ++ List.replicate (n - i) 0
theorem mkR_length (R : Nat → Int) {i n : Nat} (h : i ≤ n) : (mkR R i n).length = n := by simp [mkR]; omega
theorem mkR_zero (R : Nat → Int) (n : Nat) : mkR R 0 n = List.replicate n 0 := by simp [mkR]
theorem mkR_all (R : Nat → Int) (n : Nat) : mkR R n n = (List.range n).map R := by simp [mkR]
theorem mkR_set (R : Nat → Int) {i n : Nat} (h : i < n) : (mkR R i n).set i (R i) = mkR R (i + 1) n := by
  unfold mkR
  obtain ⟨d, hd⟩ : ∃ d, n - i = d + 1 := ⟨n - i - 1, by omega⟩
  rw [hd, List.replicate_succ, List.set_append_right _ _ (by simp), show n - (i + 1) = d by omega, List.range_succ, List.map_append]
  simp
theorem mkR_at (R : Nat → Int) {i n : Nat} (h : i < n) : (mkR R i n).getD i 0 = 0 := by
  unfold mkR
  rw [List.getD_eq_getElem?_getD, List.getElem?_append_right (by simp)]
  simp [show 0 < n - i by omega]
/-- numbers of the call's own that are answered, and what is wrong -/
def AnsO (w : World) (l : List Int) (err : Int) (e : Ending) (w' : World) : Prop := ∃ v, e = .returned (.tuple #[v, .int .i64 err]) ∧ w'.ownsRow w.heap.size 3 1 v l.length (l.map (Value.int .i64)) ∧ Below w.heap.size w w'
/-- while a thing is made of each place -/
structure TgS {α : Type} (EN : α → Value) (tN : TypeId) (w : World) (R : Nat → Int) (i n M : Nat) (hs : List α) (W : World) : Prop where
  below : Below w.heap.size w W
  made : W.ownsRow w.heap.size 3 1 (.slice (some ⟨w.heap.size, 0, none⟩) n n) n ((mkR R i n).map (Value.int .i64))
  here : W.ownsRow w.heap.size tN 1 (.slice (some ⟨w.heap.size + 1, 0, none⟩) M M) M (hs.map EN)
section
variable {α : Type} {EN : α → Value} {tN : TypeId} {w : World} {R : Nat → Int} {i n M : Nat} {hs : List α} {W : World}
theorem TgS.len (h : TgS EN tN w R i n M hs W) : hs.length = M := by have := h.here.1; simpa using this
theorem TgS.later {W' : World} (h : TgS EN tN w R i n M hs W) (hb : Below W.heap.size W W') : TgS EN tN w R i n M hs W' :=
  ⟨h.below.trans (hb.mono h.below.size), owns_below h.made hb, owns_below h.here hb⟩
theorem TgS.setHere (h : TgS EN tN w R i n M hs W) (k : Nat) (x : α) : TgS EN tN w R i n M (hs.set k x) (W.setCell ⟨w.heap.size + 1, k, none⟩ (EN x)) := by
  obtain ⟨h1, h2⟩ := h.here.stored k (EN x)
  refine ⟨h.below.trans (Below.ofGrown h2 h.below.size (fun j hj => by cases hj; omega)), h.made.kept h2 (.inr (by simp [Value.ownBlock])), ?_⟩
  rw [List.map_set]
  exact h1
theorem TgS.setMade (h : TgS EN tN w R i n M hs W) (hi : i < n) : TgS EN tN w R (i + 1) n M hs (W.setCell ⟨w.heap.size, i, none⟩ (.int .i64 (R i))) := by
  obtain ⟨h1, h2⟩ := h.made.stored i (.int .i64 (R i))
  refine ⟨h.below.trans (Below.ofGrown h2 h.below.size (fun j hj => by cases hj; omega)), ?_, h.here.kept h2 (.inr (by simp [Value.ownBlock]))⟩
  rw [← mkR_set R hi, List.map_set]
  exact h1
theorem TgS.cellHere (h : TgS EN tN w R i n M hs W) (k : Nat) (hk : k < M) : ∃ v, W.cell? ⟨w.heap.size + 1, k, none⟩ = some v := by
  have hl := h.len
  have hc := h.here.cells (g := w.heap.size + 1) rfl k (EN (hs[k]'(by omega))) (by simp [show k < hs.length by omega])
  rw [add_plain, Nat.zero_add] at hc
  exact ⟨_, hc⟩
theorem TgS.cellMade (h : TgS EN tN w R i n M hs W) (hi : i < n) : W.cell? ⟨w.heap.size, i, none⟩ = some (.int .i64 0) := by
  have hl := mkR_length R (i := i) (n := n) (by omega)
  have hc := h.made.cells (g := w.heap.size) rfl i (.int .i64 0) (by
    have := mkR_at R hi
    rw [List.getD_eq_getElem?_getD, List.getElem?_eq_getElem (by omega)] at this
    simp at this
    simp [this, show i < (mkR R i n).length by omega])
  rw [add_plain, Nat.zero_add] at hc
  exact hc
theorem TgS.slHere (h : TgS EN tN w R i n M hs W) : Sl W (some ⟨w.heap.size + 1, 0, none⟩) M (hs.map EN) := by
  obtain ⟨sp, cap, e, _, hs', _⟩ := Sl.all1 h.here
  simp only [Value.slice.injEq, true_and] at e
  obtain ⟨rfl, rfl⟩ := e
  exact hs'
theorem TgS.made_ (w : World) (R : Nat → Int) (n M : Nat) (z : α) (X Y : Array Value) (hX : X.toList = List.replicate n (.int .i64 0)) (hY : Y.toList = List.replicate M (EN z)) (hn : n ≤ 1000000) (hM : M ≤ 1000000) : TgS EN tN w R 0 n M (List.replicate M z) ((w.alloc (.cells X 3)).alloc (.cells Y tN)) := by
  have hx : X.size = n := by rw [← Array.length_toList, hX]; simp
  have hy : Y.size = M := by rw [← Array.length_toList, hY]; simp
  have h1 := World.ownsRow_lit (base := w.heap.size) (e := 3) (size := 1) w X n (Nat.le_refl _) (by unfold maxLen; omega) (by omega)
  have h2 := World.ownsRow_lit (base := w.heap.size) (e := tN) (size := 1) (w.alloc (.cells X 3)) Y M (by simp) (by unfold maxLen; omega) (by omega)
  have hb : Below (w.alloc (.cells X 3)).heap.size (w.alloc (.cells X 3)) ((w.alloc (.cells X 3)).alloc (.cells Y tN)) := (Below.refl _ _).alloc (Nat.le_refl _) _
  refine ⟨((Below.refl _ _).alloc (Nat.le_refl _) _).alloc (by simp) _, ?_, ?_⟩
  · have := owns_below h1 hb
    rw [hX] at this
    rw [mkR_zero, List.map_replicate]
    exact this
  · rw [World.size_alloc, hY] at h2
    rw [List.map_replicate]
    exact h2
end
theorem made_list (z : Value) (n : Nat) (hz : z.cells = #[z]) : (madeCells z.cells n).toList = List.replicate n z := by rw [hz]; exact toList_madeCells_one z n
theorem info3e : (Tryd.prog.info? 3).map (fun i => (i.zero, i.size, i.bytes)) = some (some (.int .i64 0), 1, 8) := by kernel_rfl
set_option maxHeartbeats 4000000 in
theorem tog_ints (w : World) (g : FuncId) (cb : Array Value) (sq : Option Addr) (caq M n : Nat) (ls : List (List Int)) (hM : ls.length = M) (hM1 : 1 ≤ M) (hM2 : M ≤ 1000) (hn : ∀ i, i < M → (ls.getD i []).length = n) (hn2 : n ≤ 1000) (hv : VecsA (Value.int .i64) w sq caq ls) (R E : Nat → Int)
    (eg : ∀ args w, (callFunc g args).run Tryd.prog w = .ok (.enter g args) w)
    (hf : ∀ i, i < n → ∀ W b, Below w.heap.size w W → Sl W (some ⟨b, 0, none⟩) M ((colA (0 : Int) ls i).map (Value.int .i64)) → Calls Tryd.prog g (#[.slice (some ⟨b, 0, none⟩) M M] ++ cb) W fun e w' => e = .returned (.tuple #[.int .i64 (R i), .int .i64 (E i)]) ∧ Below W.heap.size W w') :
    Calls Tryd.prog 62 #[.func (.func g) #[] cb, .slice sq M caq] w (AnsO w (if firstN E n = 0 then (List.range n).map R else []) (firstN E n)) := by
  have HV := Lib.hid hv
  have HM := Lib.hid hM
  have HNn := Lib.hid hn
  have HF := Lib.hid hf
  obtain ⟨c, o, s0, c0, rfl, hc0, _⟩ := HV.out.at_ 0 (by omega)
  rw [hn 0 (by omega), Nat.add_zero] at hc0
  obtain ⟨L, hL⟩ : ∃ L, (if firstN E n = 0 then (List.range n).map R else []) = L := ⟨_, rfl⟩
  rw [hL]
  have HL := Lib.hid hL
  clear hv hM hn hf hL
  go_enter Tryd.func62, Tryd.ntmps62
  go_wp2
  go_step3
  go_wp2_with (first
    | (refine wpList_makeN 39 3 8 (.int .i64 0) Tryd.underlying39 info3 (by decide) rfl (.tmp 15) (.tmp 15) rfl n rfl rfl (by omega) ?_)
    | (refine wpList_makeN 39 3 8 (.int .i64 0) Tryd.underlying39 info3e (by decide) rfl (.tmp 18) (.tmp 18) rfl M rfl rfl (by omega) ?_))
  refine gen_world (Q := fun w => Code.wp _ _ _ _ w) _ (TgS (Value.int .i64) 3 w R 0 n M (List.replicate M (0 : Int))) (by
    have := TgS.made_ (EN := (Value.int .i64)) (tN := 3) w R n M (0 : Int) (madeCells (Value.int .i64 0).cells n) (madeCells ((.int .i64 0) : Value).cells M) (made_list _ _ rfl) (made_list _ _ rfl) (by omega) (by omega)
    exact this) ?_
  intro W hW
  have HW := Lib.hid hW
  clear hW hc0
  go_step3
  go_wp2
  go_loopw [6, 8, 22] (fun md e t wr => ∃ (i : Nat) (hs : List Int), i ≤ n ∧ md = .slice (some ⟨w.heap.size, 0, none⟩) n n ∧ t = .int .i64 i ∧ e = .int .i64 0 ∧ (∀ j, j < i → E j = 0) ∧ TgS (Value.int .i64) 3 w R i n M hs wr) (fun _ _ t _ => n - (intOf t).toNat)
  case atStart => exact ⟨0, _, by omega, rfl, rfl, rfl, fun j hj => absurd hj (by omega), HW.out⟩
  case round =>
    obtain ⟨i, hs0, hi, rfl, rfl, rfl, hE, hS⟩ := hrel
    have HE := Lib.hid hE
    have HS := Lib.hid hS
    clear hE hS HW
    by_cases hlt : i < n
    · have hdt : decide (i < n) = true := by simp; omega
      go_wp2
      go_loopw [27] (fun t wr => ∃ (k : Nat) (hs : List Int), k ≤ M ∧ t = .int .i64 k ∧ hs.take k = (colA (0 : Int) ls i).take k ∧ TgS (Value.int .i64) 3 w R i n M hs wr) (fun t _ => M - (intOf t).toNat)
      case atStart => exact ⟨0, hs0, by omega, rfl, rfl, HS.out⟩
      case round =>
        clear HS
        obtain ⟨k, hs, hk, rfl, hT, hS⟩ := hrel
        have HS := Lib.hid hS
        have HT := Lib.hid hT
        clear hS hT
        by_cases hlt2 : k < M
        · have hdt2 : decide (k < M) = true := by simp; omega
          have hV := HV.out.below HS.out.below
          obtain ⟨c', o', s2, c2, e, hc, hb⟩ := hV.at_ k (by rw [HM.out]; exact hlt2)
          cases e
          rw [HNn.out k hlt2] at hc
          obtain ⟨c3, o3, rfl, hx⟩ := Sl.atA (df := (0 : Int)) hb i (by rw [HNn.out k hlt2]; exact hlt)
          have hcol := colA_get (df := (0 : Int)) ls i k (by rw [HM.out]; exact hlt2)
          obtain ⟨v0, hv0⟩ := HS.out.cellHere k hlt2
          have hfz := HS.out.here.frozenAt k
          have HN2 := Lib.hid (fun x => HS.out.setHere k x)
          have hlen := HS.out.len
          have HT2 : Hid (∀ x, x = (colA (0 : Int) ls i).getD k (0 : Int) → (hs.set k x).take (k + 1) = (colA (0 : Int) ls i).take (k + 1)) := Lib.hid (fun x hxx => by
            rw [take_snocA (df := (0 : Int)) (colA (0 : Int) ls i) k (by rw [colA_length, HM.out]; exact hlt2), take_snocA (df := (0 : Int)) (hs.set k x) k (by rw [List.length_set]; omega), List.take_set_of_le (Nat.le_refl _), HT.out, ← hxx]
            congr 2
            simp [List.getD_eq_getElem?_getD, show k < hs.length by omega])
          rw [← hcol] at hx
          obtain ⟨x, hxe⟩ : ∃ x, (colA (0 : Int) ls i).getD k (0 : Int) = x := ⟨_, rfl⟩
          rw [hxe] at hx HT2
          have HT3 := Lib.hid (HT2.out x rfl)
          have HN3 := Lib.hid (HN2.out x)
          skip
          clear hV hb hcol hxe HT2 HN2 hlen
          go_wp2
          clear hc hx hv0 hfz
          go_roundw
          case rel => exact ⟨k + 1, _, by omega, by go_num, HT3.out, HN3.out⟩
          case measure => simp [intOf]; omega
        · obtain rfl : k = M := by omega
          have hdf : decide (k < k) = false := by simp
          have hcol : hs = colA (0 : Int) ls i := by
            have := HT.out
            rwa [List.take_of_length_le (by rw [HS.out.len]; exact Nat.le_refl _), List.take_of_length_le (by rw [colA_length, HM.out]; exact Nat.le_refl _)] at this
          subst hcol
          have HC := Lib.hid (HF.out i hlt wr (w.heap.size + 1) HS.out.below HS.out.slHere)
          go_wp2_with fail
          refine HC.out.mono ?_
          rintro e w1 ⟨rfl, hb1⟩
          have HS1 := Lib.hid (HS.out.later hb1)
          have hcm := HS1.out.cellMade hlt
          have hfz := HS1.out.made.frozenAt i
          have HS2 := Lib.hid (HS1.out.setMade hlt)
          clear hb1
          by_cases hEi : E i = 0
          · have HE2 : Hid (∀ j, j < i + 1 → E j = 0) := Lib.hid (fun j hj => by
              rcases Nat.lt_or_ge j i with h | h
              · exact HE.out j h
              · obtain rfl : j = i := by omega
                exact hEi)
            rw [hEi]
            obtain ⟨r, hr⟩ : ∃ r, R i = r := ⟨_, rfl⟩
            rw [hr] at HS2 ⊢
            clear hEi hr
            go_wp2
            clear hcm hfz
            go_roundw
            case rel => exact ⟨i + 1, _, by omega, rfl, by go_num, rfl, HE2.out, HS2.out⟩
            case measure => simp [intOf]; omega
          · have hne := ne0 hEi
            have HX := Lib.hid (firstN_at hlt HE.out hEi)
            have HL0 : Hid ([] = L) := Lib.hid (by have := HL.out; rwa [if_neg (by rw [HX.out]; exact hEi)] at this)
            obtain ⟨x, hx⟩ : ∃ x, E i = x := ⟨_, rfl⟩
            have HQ := Lib.hid hx
            rw [hx] at hne ⊢
            obtain ⟨r, hr⟩ : ∃ r, R i = r := ⟨_, rfl⟩
            rw [hr] at HS2 ⊢
            clear hEi hx hr
            go_wp2
            clear hcm hfz
            rw [Exit.noGoto_ret]
            go_ret2
            rw [← HL0.out, HX.out, HQ.out]
            exact ⟨_, rfl, World.ownsRow_nil _ _ _ _, HS2.out.below⟩
    · obtain rfl : i = n := by omega
      have hdf : decide (i < i) = false := by simp
      have HX := Lib.hid (firstN_all HE.out)
      have HL0 : Hid ((List.range i).map R = L) := Lib.hid (by have := HL.out; rwa [if_pos HX.out] at this)
      go_wp2
      rw [Exit.noGoto_ret]
      go_ret2
      rw [← HL0.out, HX.out]
      exact ⟨_, rfl, by have := HS.out.made; rw [mkR_all] at this; simpa using this, HS.out.below⟩
end Go.Proofs.YtmolkbmdfkeniaaDoor.Tn
-- from Jf
namespace Go.Proofs.YtmolkbmdfkeniaaDoor.Tn
set_option maxRecDepth 100000
open Go.ChangeShapes Go.WideShapes Go.ChangeAt Go.RowKit Go.Proofs.YtmolkbmdfkeniaaDoor.Fx Go.Proofs.YtmolkbmdfkeniaaDoor.Rf
end Go.Proofs.YtmolkbmdfkeniaaDoor.Tn
-- from Jg
namespace Go.Proofs.YtmolkbmdfkeniaaDoor.Tn
set_option maxRecDepth 100000
open Go.ChangeShapes Go.WideShapes Go.ChangeAt Go.RowKit Go.Proofs.YtmolkbmdfkeniaaDoor.Fx Go.Proofs.YtmolkbmdfkeniaaDoor.Rf
/-! ### the landed code: the function literals -/
theorem sl_cells {w : World} {b M : Nat} {xs : List Value} (h : Sl w (some ⟨b, 0, none⟩) M xs) (i : Nat) (v : Value) (hv : xs[i]? = some v) : w.cell? ⟨b, i, none⟩ = some v := by
  obtain ⟨c, o, e, hl⟩ := h.lies (by have := (List.getElem?_eq_some_iff.1 hv).1; omega)
  cases e
  have := hl i v hv
  rwa [Nat.zero_add] at this
/-- a load of one cell -/
theorem run_loadVar1 {P : Program} {W : World} (ty : TypeId) (p : Addr) (v : Value) (hc : W.cell? p = some v) (d : TypeDesc) (hu : P.underlying ty = some d) (hd : (match d with | .struct _ | .array _ _ => false | _ => true) = true) : (loadVar ty p).run P W = .ok v W := by
  have hag : (isAgg ty).run P W = .ok false W := by
    simp only [isAgg, Sem.run_bind, run_underlying hu, Result.andThen_ok]
    cases d <;> simp_all
  simp [loadVar, hag, go_sem, hc]
theorem exec_load1 {P : Program} {a : Act} {o : Oper} {W : World} (ty : TypeId) (x : Operand) (ho : o.op = .load ty x) (p : Addr) (hx : a.eval x = .pointer (some p)) (v : Value) (hc : W.cell? p = some v) (d : TypeDesc) (hu : P.underlying ty = some d)
    (hd : (match d with | .struct _ | .array _ _ => false | _ => true) = true) : (execOp a.eval o).run P W = .ok (.value v) W := by
  unfold execOp
  simp only [ho, hx, Instr.loadAt, Instr.sureAddr, Sem.run_bind, Sem.run_pure, Result.andThen_ok, run_loadVar1 ty p v hc d hu hd]
/-- the address of a slice's element of one cell -/
theorem exec_at1 {P : Program} {a : Act} {o : Oper} {W : World} (t e : TypeId) (ht : P.underlying t = some (.slice e)) (hs : (P.info? e).map (·.size) = some 1) (x y : Operand) (ho : o.op = .indexAddr t x y) (c k n cap i : Nat) (hx : a.eval x = .slice (some ⟨c, k, none⟩) n cap) (hy : a.eval y = .int .i64 (i : Int)) (hi : i < n) : (execOp a.eval o).run P W = .ok (.value (.pointer (some ⟨c, k + i, none⟩))) W := by
  have hadd := add_plain c k i
  cases hq : P.info? e with
  | none => simp [hq] at hs
  | some j =>
    have hj : j.size = 1 := by simpa [hq] using hs
    unfold execOp
    simp [ho, hx, hy, Instr.indexAt, asIntOf, run_underlying ht, sizeOf, typeInfo, hq, hj, hi, hadd]
theorem exec_extract {P : Program} {a : Act} {o : Oper} {W : World} (x : Operand) (i : Nat) (ho : o.op = .extract x i) (vs : Array Value) (hx : a.eval x = .tuple vs) (v : Value) (hv : vs[i]? = some v) : (execOp a.eval o).run P W = .ok (.value v) W := by
  unfold execOp
  simp [ho, hx, hv, Instr.extract]
theorem size22 : (Tryd.prog.info? 39).map (·.size) = some 1 := by kernel_rfl
theorem run_sub (x y : Int) (h : -9223372036854775808 ≤ x - y ∧ x - y ≤ 9223372036854775807) (W : World) : (binOp .sub 3 (.int .i64 x) (.int .i64 y)).run Tryd.prog W = .ok (.int .i64 (x - y)) W := by
  have hw : IntKind.i64.wrap (x - y) = x - y := IntWalk.i64_in _ (by omega)
  simp [binOp, Op.intArith, hw]
set_option maxHeartbeats 4000000 in
theorem soft1_any (w : World) (b M B : Nat) (x m : Int) (h : Sl w (some ⟨b, 0, none⟩) M [.int .i64 x]) (hM : M = 1) (hm : w.cell? ⟨B, 0, none⟩ = some (.int .i64 m)) (hx : x ≤ m) (h1 : -2147483648 ≤ x) (h2 : m ≤ 2147483647) (he : E0 w) : Calls Tryd.prog 63 #[.slice (some ⟨b, 0, none⟩) M M, .pointer (some ⟨B, 0, none⟩)] w fun e w' => e = .returned (.tuple #[.int .i64 (ex (x - m)), .int .i64 0]) ∧ Below w.heap.size w w' := by
  subst hM
  have HC0 := Lib.hid (sl_cells h 0 _ rfl)
  have HM := Lib.hid hm
  have HX : Hid (∀ W', Below w.heap.size w W' → Calls Tryd.prog 64 #[.int .i64 (x - m)] W' fun e w' => e = .returned (.tuple #[.int .i64 (ex (x - m)), .int .i64 0]) ∧ Below W'.heap.size W' w') := Lib.hid (fun W' hb => by
    have h0 := Fq.exp_any W' (x - m) (he.below hb).steps (by omega)
    have hE : Fq.expR (x - m) = ex (x - m) ∧ Fq.expE (x - m) = 0 := by unfold Fq.expR Fq.expE; rw [if_neg (by omega), if_neg (by omega)]; exact ⟨rfl, rfl⟩
    rw [hE.1, hE.2] at h0
    exact h0.mono fun e w' h => ⟨h.1, by rw [← h.2]; exact Below.refl _ _⟩)
  obtain ⟨R, hR⟩ : ∃ R, ex (x - m) = R := ⟨_, rfl⟩
  rw [hR] at HX ⊢
  clear h hR hm he
  go_enter Tryd.func63, Tryd.ntmps63
  go_upto_region 1 with fail
  refine wp_region_spec (C := (fun W => Below w.heap.size w W)) (Le := fun _ _ => True) 8 (fun _ ixx _ v => v = ([.slice (some ⟨b, 0, none⟩) 1 1, .pointer (some ⟨b, 0 + 0, none⟩), .int .i64 x, .int .i64 m, .int .i64 (x - m), .tuple #[.int .i64 R, .int .i64 0], .int .i64 R, .int .i64 0] : List Value).getD ixx undef) (by kernel_rfl) (by kernel_rfl) ⟨rfl, rfl, rfl, Nat.le_refl _, fun _ _ => rfl⟩ (fun _ _ _ _ _ _ h => h) (fun _ _ _ _ _ _ h => h) (fun ixx v => v = ([.slice (some ⟨b, 0, none⟩) 1 1, .pointer (some ⟨b, 0 + 0, none⟩), .int .i64 x, .int .i64 m, .int .i64 (x - m), .tuple #[.int .i64 R, .int .i64 0], .int .i64 R, .int .i64 0] : List Value).getD ixx undef) (fun _ _ _ _ h => h) (fun ixx => ([.slice (some ⟨b, 0, none⟩) 1 1, .pointer (some ⟨b, 0 + 0, none⟩), .int .i64 x, .int .i64 m, .int .i64 (x - m), .tuple #[.int .i64 R, .int .i64 0], .int .i64 R, .int .i64 0] : List Value).getD ixx undef) (fun _ => rfl) ?_ ?_
  · intro u hu
    have h0 : u 0 = .slice (some ⟨b, 0, none⟩) 1 1 := hu 0
    have h1 : u 1 = .pointer (some ⟨b, 0 + 0, none⟩) := hu 1
    have h2 : u 2 = .int .i64 x := hu 2
    have h3 : u 3 = .int .i64 m := hu 3
    have h4 : u 4 = .int .i64 (x - m) := hu 4
    have h5 : u 5 = .tuple #[.int .i64 R, .int .i64 0] := hu 5
    have h6 : u 6 = .int .i64 R := hu 6
    have h7 : u 7 = .int .i64 0 := hu 7
    simp only [List.take_succ_cons, List.take_zero]
    refine spec_cons (fun W hC hd => ⟨by rfl, ?_⟩) ?_
    · exact gives_val (.slice (some ⟨b, 0, none⟩) 1 1) W (rfl) ⟨hC, trivial, rfl⟩
    simp only [Act.put, List.setIfInBounds_toArray, List.set_cons_succ, List.set_cons_zero, Nat.reduceAdd]
    rw [h0]
    refine spec_cons (fun W hC hd => ⟨by rfl, ?_⟩) ?_
    · exact gives_val (.pointer (some ⟨b, 0 + 0, none⟩)) W (exec_at1 39 3 Tryd.underlying39 size3 (.tmp 5) (.const (.int .i64 0)) rfl b 0 1 1 0 rfl rfl (by omega)) ⟨hC, trivial, rfl⟩
    simp only [Act.put, List.setIfInBounds_toArray, List.set_cons_succ, List.set_cons_zero, Nat.reduceAdd]
    rw [h1]
    refine spec_cons (fun W hC hd => ⟨by rfl, ?_⟩) ?_
    · exact gives_val (.int .i64 x) W (exec_load1 3 (.tmp 6) rfl ⟨b, 0 + 0, none⟩ rfl _ (below_cell hC HC0.out) _ Tryd.underlying3 rfl) ⟨hC, trivial, rfl⟩
    simp only [Act.put, List.setIfInBounds_toArray, List.set_cons_succ, List.set_cons_zero, Nat.reduceAdd]
    rw [h2]
    refine spec_cons (fun W hC hd => ⟨by rfl, ?_⟩) ?_
    · exact gives_val (.int .i64 m) W (exec_load1 3 (.tmp 1) rfl ⟨B, 0, none⟩ rfl _ (below_cell hC HM.out) _ Tryd.underlying3 rfl) ⟨hC, trivial, rfl⟩
    simp only [Act.put, List.setIfInBounds_toArray, List.set_cons_succ, List.set_cons_zero, Nat.reduceAdd]
    rw [h3]
    refine spec_cons (fun W hC hd => ⟨by rfl, ?_⟩) ?_
    · exact gives_val (.int .i64 (x - m)) W (exec_binOp .sub 3 3 (.tmp 7) (.tmp 8) rfl (.int .i64 x) (.int .i64 m) _ rfl rfl rfl (run_sub x m (by omega) W)) ⟨hC, trivial, rfl⟩
    simp only [Act.put, List.setIfInBounds_toArray, List.set_cons_succ, List.set_cons_zero, Nat.reduceAdd]
    rw [h4]
    refine spec_cons (fun W hC hd => ⟨by rfl, ?_⟩) ?_
    · exact gives_call _ _ (exec_call1 64 (.tmp 9) #[3] _ rfl rfl (cf Tryd.func64 (by kernel_rfl) (by kernel_rfl) _ _)) ((HX.out W hC).mono fun e W' h => ⟨_, h.1, hC.trans (h.2.mono hC.size), trivial, rfl⟩)
    simp only [Act.put, List.setIfInBounds_toArray, List.set_cons_succ, List.set_cons_zero, Nat.reduceAdd]
    rw [h5]
    refine spec_cons (fun W hC hd => ⟨by rfl, ?_⟩) ?_
    · exact gives_val (.int .i64 R) W (exec_extract (.tmp 10) 0 rfl _ rfl _ rfl) ⟨hC, trivial, rfl⟩
    simp only [Act.put, List.setIfInBounds_toArray, List.set_cons_succ, List.set_cons_zero, Nat.reduceAdd]
    rw [h6]
    refine spec_cons (fun W hC hd => ⟨by rfl, ?_⟩) ?_
    · exact gives_val (.int .i64 0) W (exec_extract (.tmp 10) 1 rfl _ rfl _ rfl) ⟨hC, trivial, rfl⟩
    simp only [Act.put, List.setIfInBounds_toArray, List.set_cons_succ, List.set_cons_zero, Nat.reduceAdd]
    rw [h7]
    exact spec_nil
  intro u W hu hC _
  have h0 : u 0 = .slice (some ⟨b, 0, none⟩) 1 1 := hu 0
  have h1 : u 1 = .pointer (some ⟨b, 0 + 0, none⟩) := hu 1
  have h2 : u 2 = .int .i64 x := hu 2
  have h3 : u 3 = .int .i64 m := hu 3
  have h4 : u 4 = .int .i64 (x - m) := hu 4
  have h5 : u 5 = .tuple #[.int .i64 R, .int .i64 0] := hu 5
  have h6 : u 6 = .int .i64 R := hu 6
  have h7 : u 7 = .int .i64 0 := hu 7
  simp only [List.take_succ_cons, List.take_zero, List.drop_succ_cons, List.drop_zero, putAll, Act.put, List.setIfInBounds_toArray, List.set_cons_succ, List.set_cons_zero, Nat.reduceAdd]
  rw [h0, h1, h2, h3, h4, h5, h6, h7]
  clear hu h0 h1 h2 h3 h4 h5 h6 h7
  have HB := Lib.hid hC
  clear hC
  go_wp2
  go_ret2
  exact ⟨rfl, HB.out⟩
end Go.Proofs.YtmolkbmdfkeniaaDoor.Tn
-- from Jh
namespace Go.Proofs.YtmolkbmdfkeniaaDoor.Tn
set_option maxRecDepth 100000
open Go.ChangeShapes Go.WideShapes Go.ChangeAt Go.RowKit Go.Proofs.YtmolkbmdfkeniaaDoor.Fx Go.Proofs.YtmolkbmdfkeniaaDoor.Rf
/-! ### the landed code: Add, Mix -/
theorem chkV_zero {l : List Int} (h : chkV l = 0) : 1 ≤ l.length ∧ l.length ≤ 512 ∧ ∀ x ∈ l, isN x := by
  unfold chkV at h
  by_cases h1 : l.length < 1 ∨ 512 < l.length
  · rw [if_pos h1] at h; omega
  · rw [if_neg h1] at h
    by_cases h2 : ∀ x ∈ l, isN x
    · exact ⟨by omega, by omega, h2⟩
    · rw [if_neg h2] at h; omega
theorem AnsO.cast {w w' : World} {l l' : List Int} {err err' : Int} {e : Ending} (h : AnsO w l err e w') (hl : l = l') (he : err = err') : AnsO w l' err' e w' := by subst hl; subst he; exact h
theorem eg_of {P : Program} {f : FuncId} {fn : Func} (hf : P.funcs[f]? = some fn) (hn : (fn.name == "runtime.NumGoroutine") = false) (hb : fn.body.isNone = false) : ∀ args w, (callFunc f args).run P w = .ok (.enter f args) w := fun args w => cf hf hn hb args w
end Go.Proofs.YtmolkbmdfkeniaaDoor.Tn
-- from Ji
namespace Go.Proofs.YtmolkbmdfkeniaaDoor.Tn
set_option maxRecDepth 100000
open Go.ChangeShapes Go.WideShapes Go.ChangeAt Go.RowKit Go.Proofs.YtmolkbmdfkeniaaDoor.Fx Go.Proofs.YtmolkbmdfkeniaaDoor.Rf
/-- what the call's own variable holds -/
structure BoxS (w : World) (v : Value) (t : TypeId) (W : World) : Prop where
  below : Below w.heap.size w W
  box : W.heap[w.heap.size]? = some (.cells #[v] t (0, 0))
theorem BoxS.made (w : World) (v : Value) (t : TypeId) (X : Array Value) (hX : X = #[v]) : BoxS w v t (w.alloc (.cells X t)) := by
  subst hX
  exact ⟨(Below.refl _ _).alloc (Nat.le_refl _) _, heap_alloc_new _ _⟩
theorem BoxS.later {w W W' : World} {v : Value} {t : TypeId} (h : BoxS w v t W) (hb : Below W.heap.size W W') : BoxS w v t W' :=
  ⟨h.below.trans (hb.mono h.below.size), (hb.block _ (Array.getElem?_eq_some_iff.1 h.box).1).trans h.box⟩
theorem BoxS.cell {w W : World} {v : Value} {t : TypeId} (h : BoxS w v t W) : W.cell? ⟨w.heap.size, 0, none⟩ = some v := by rw [cell_of_row _ _ _ _ _ _ h.box]; rfl
end Go.Proofs.YtmolkbmdfkeniaaDoor.Tn
-- from Jk
namespace Go.Proofs.YtmolkbmdfkeniaaDoor.Tn
set_option maxRecDepth 100000
open Go.ChangeShapes Go.WideShapes Go.ChangeAt Go.RowKit Go.Proofs.YtmolkbmdfkeniaaDoor.Fx Go.Proofs.YtmolkbmdfkeniaaDoor.Rf
/-! ### the landed code: Softmax -/
set_option maxHeartbeats 4000000 in
theorem max_any (w : World) (sp : Option Addr) (cap N : Nat) (l : List Int) (hN : l.length = N) (hl : Nums w sp cap l) (h1 : 1 ≤ N) : Calls Tryd.prog 61 #[.slice sp N cap] w fun e w' => e = .returned (.int .i64 (mostL l)) ∧ w = w' := by
  have hNm : N ≤ 9223372036854775807 := by rw [← hN]; exact hl.len
  have HL := Lib.hid hl
  have HN := Lib.hid hN
  obtain ⟨g, o, rfl, hc0⟩ := HL.out.at_ 0 (by rw [HN.out]; omega)
  clear hl hN
  obtain ⟨z, hz⟩ : ∃ z, l.getD 0 0 = z := ⟨_, rfl⟩
  rw [hz, Nat.add_zero] at hc0
  have H1 : Hid ((l.take 1).foldl max z = z) := Lib.hid (by
    have h2 := fold_take l z 0 (by rw [HN.out]; omega)
    rw [hz] at h2
    rw [h2]
    simp)
  have HE : Hid ((l.take N).foldl max z = mostL l) := Lib.hid (by rw [List.take_of_length_le (by rw [HN.out]; omega), mostL, hz])
  clear hz
  have d0 : decide ((N : Int) < 1) = false := by simp; omega
  go_enter Tryd.func61, Tryd.ntmps61
  go_wp2
  go_loop [3, 4] (fun m i => ∃ k : Nat, 1 ≤ k ∧ k ≤ N ∧ i = .int .i64 k ∧ m = .int .i64 ((l.take k).foldl max z)) (fun _ i => N - (intOf i).toNat)
  case atStart => exact ⟨1, by omega, by omega, rfl, by rw [H1.out]⟩
  case round =>
    obtain ⟨k, hk1, hk, rfl, rfl⟩ := hrel
    by_cases hlt : k < N
    · have hdt : decide (k < N) = true := by simp; omega
      obtain ⟨g', o', e, hc⟩ := HL.out.at_ k (by rw [HN.out]; exact hlt)
      cases e
      have HT := Lib.hid (fold_take l z k (by rw [HN.out]; exact hlt))
      obtain ⟨x, hx⟩ : ∃ x, l.getD k 0 = x := ⟨_, rfl⟩
      obtain ⟨m, hm⟩ : ∃ m, (l.take k).foldl max z = m := ⟨_, rfl⟩
      rw [hx] at hc HT
      rw [hm] at HT ⊢
      clear hx hm
      by_cases hxm : x ≤ m
      · have HT2 : Hid ((l.take (k + 1)).foldl max z = m) := Lib.hid (by rw [HT.out]; exact Int.max_eq_left hxm)
        go_wp2
        all_goals go_round
        all_goals first
          | (case rel => exact ⟨k + 1, by omega, by omega, by go_num, by rw [HT2.out]⟩)
          | (case measure => simp [intOf]; omega)
      · have HT2 : Hid ((l.take (k + 1)).foldl max z = x) := Lib.hid (by rw [HT.out]; exact Int.max_eq_right (by omega))
        go_wp2
        all_goals go_round
        all_goals first
          | (case rel => exact ⟨k + 1, by omega, by omega, by go_num, by rw [HT2.out]⟩)
          | (case measure => simp [intOf]; omega)
    · obtain rfl : k = N := by omega
      have hdf : decide (k < k) = false := by simp
      rw [HE.out]
      obtain ⟨m, hm⟩ : ∃ m, mostL l = m := ⟨_, rfl⟩
      rw [hm]
      have HM := Lib.hid hm
      clear hm
      go_wp2
      go_ret
      exact ⟨by rw [HM.out]; rfl, rfl⟩
theorem owns_base {W : World} {base base' : Nat} {e : TypeId} {size : Nat} {v : Value} {k : Nat} {xs : List Value} (h : W.ownsRow base e size v k xs) (hb : base' ≤ base) : W.ownsRow base' e size v k xs := by
  refine ⟨h.1, ?_⟩
  rcases h.2 with hn | ⟨g, cap, cur, hv, hbg, rest⟩
  · exact .inl hn
  · exact .inr ⟨g, cap, cur, hv, Nat.le_trans hb hbg, rest⟩
theorem soft_first (v : List Int) : (if firstN (fun _ => (0 : Int)) v.length = 0 then (List.range v.length).map (fun i => ex (v.getD i 0 - mostL v)) else []) = exs v := by
  rw [if_pos (firstN_all (E := fun _ => (0 : Int)) fun i _ => rfl)]
  unfold exs
  apply List.ext_getElem
  · simp
  · intro i h1 h2
    simp only [List.length_map, List.length_range] at h1
    simp [h1]
set_option maxHeartbeats 4000000 in
theorem tsoft_any (w : World) (sp : Option Addr) (cap N : Nat) (l : List Int) (hN : l.length = N) (hl : Nums w sp cap l) (he : E0 w) :
    Calls Tryd.prog 48 #[.slice sp N cap] w (AnsE w (smV l) (chkV l)) := by
  have HB0 := Lib.hid (Below.refl w.heap.size w)
  have HC := Lib.hid (fun W g (hg : g = W.heap.size) (hb : Below w.heap.size w W) => check_any _ _ 1 1 [l] rfl (vecs_new1 W g hg sp cap N l hN (hl.below hb)))
  simp only [chkL1] at HC
  by_cases hc : chkV l = 0
  · have hV : smV l = smx l := by unfold smV; rw [if_pos hc]
    rw [hV, hc]
    rw [hc] at HC
    obtain ⟨z1, z2, z3⟩ := chkV_zero hc
    have HMx := Lib.hid (fun W (hb : Below w.heap.size w W) => max_any W sp cap N l hN (hl.below hb) (by omega))
    have HTg : Hid (∀ W g B, g = W.heap.size → Below w.heap.size w W → W.cell? ⟨B, 0, none⟩ = some (.int .i64 (mostL l)) → Calls Tryd.prog 62 #[.func (.func 63) #[] #[.pointer (some ⟨B, 0, none⟩)], .slice (some ⟨g, 0, none⟩) 1 1] (W.alloc (.cells #[.slice sp N cap] 39)) (AnsO (W.alloc (.cells #[.slice sp N cap] 39)) (exs l) 0)) := Lib.hid (fun W g B hg hW hB => by
      have hv := vecs_new1 W g hg sp cap N l hN (hl.below hW)
      have hbA : Below W.heap.size W (W.alloc (.cells #[.slice sp N cap] 39)) := (Below.refl _ _).alloc (Nat.le_refl _) _
      refine (tog_ints _ 63 #[.pointer (some ⟨B, 0, none⟩)] _ 1 1 N [l] rfl (by omega) (by omega) (fun i hi => ?_) (by omega) (vecsA_of hv) (fun i => ex (l.getD i 0 - mostL l)) (fun _ => 0) (eg_of Tryd.func63 (by kernel_rfl) (by kernel_rfl)) (fun i hi W' b' hW' hsl => ?_)).mono fun e w' h => h.cast (by rw [← hN]; exact soft_first l) (firstN_all fun i _ => rfl)
      · obtain rfl : i = 0 := by omega
        exact hN
      · have hx := in_of z3 i (by omega)
        have hm : isN (mostL l) := z3 _ (most_mem (by omega))
        have hle := most_le l (l.getD i 0) (by rw [List.getD_eq_getElem?_getD, List.getElem?_eq_getElem (by omega)]; exact List.getElem_mem _)
        have hbb : Below W.heap.size W W' := hbA.trans (hW'.mono (by simp))
        exact soft1_any W' b' 1 B _ _ hsl rfl ((hbb.cell (block_lt_of_cell hB)).trans hB) hle hx.1 hm.2 (he.below (hW.trans (hbb.mono hW.size))))
    have hes := exs_sum (l := l) (by omega) z2
    have HEx : Hid (∀ i, i < N → (exs l).getD i 0 = ex (l.getD i 0 - mostL l)) := Lib.hid (fun i hi => exs_get i (by omega))
    have HEl : Hid ((exs l).length = N) := Lib.hid (by rw [exs_length]; exact hN)
    have HSl : Hid ((smx l).length = N) := Lib.hid (by rw [smx_length]; exact hN)
    have HSg : Hid (∀ i, i < N → (smx l).getD i 0 = ex (l.getD i 0 - mostL l) * 65536 / (exs l).sum) := Lib.hid (fun i hi => smx_get i (by omega))
    have HKg : Hid (∀ i, i < N → (smk l i).getD i 0 = ex (l.getD i 0 - mostL l)) := Lib.hid (fun i hi => smk_get l i (by omega))
    have HKl : Hid (∀ i, i ≤ N → (smk l i).length = N) := Lib.hid (fun i hi => by rw [smk_length l i (by omega)]; exact hN)
    have HKs : Hid (∀ i, i < N → (smk l i).set i ((smx l).getD i 0) = smk l (i + 1)) := Lib.hid (fun i hi => smk_set l i (by omega))
    have HK0 : Hid (smk l 0 = exs l) := Lib.hid (by simp [smk])
    have HKN : Hid (smk l N = smx l) := Lib.hid (by unfold smk; rw [List.take_of_length_le (by rw [HSl.out]; omega), List.drop_eq_nil_of_le (by rw [HEl.out]; omega), List.append_nil])
    have hN512 : N ≤ 512 := by omega
    have hN1 : 1 ≤ N := by omega
    obtain ⟨m, hm⟩ : ∃ m, mostL l = m := ⟨_, rfl⟩
    rw [hm] at HMx HTg HEx HSg HKg
    clear hV hc z1 z2 z3 hl hN hm he
    go_enter Tryd.func48, Tryd.ntmps48
    go_wp2_with fail
    refine (HC.out _ _ rfl HB0.out).mono ?_
    rintro e w1 ⟨rfl, hb1⟩
    have HB1 := Lib.hid ((HB0.out.alloc (Nat.le_refl _) (.cells #[.slice sp N cap] 39)).trans (hb1.mono (by simp)))
    clear hb1
    go_wp2_with fail
    refine (HMx.out _ HB1.out).mono ?_
    rintro e w' ⟨rfl, rfl⟩
    have HB2 := Lib.hid (HB1.out.alloc HB1.out.size (.cells #[.int .i64 m] 3))
    have HBx := Lib.hid (show (w1.alloc (.cells #[.int .i64 m] 3)).cell? ⟨w1.heap.size, 0, none⟩ = some (.int .i64 m) by simp)
    go_wp2_with fail
    refine (HTg.out _ _ _ (by simp) HB2.out HBx.out).mono ?_
    rintro e w3 ⟨v3, rfl, ho3, hb3⟩
    have HB3 := Lib.hid ((HB2.out.alloc HB2.out.size (.cells #[.slice sp N cap] 39)).trans (hb3.mono (by have := HB2.out.size; simp; simp at this; omega)))
    rw [HEl.out] at ho3
    rcases ho3.2 with ⟨e, h0'⟩ | ⟨gb, cb, cur, e, hbg, _⟩
    · exfalso; omega
    subst e
    have HO := Lib.hid (owns_base ho3 (base' := w.heap.size) (by have := HB2.out.size; simp; simp at this; omega))
    clear hb3 ho3 hbg HBx
    go_wp2
    go_loop [8, 33] (fun s t => ∃ k : Nat, k ≤ N ∧ t = .int .i64 k ∧ s = .int .i64 (((exs l).take k).sum)) (fun _ t => N - (intOf t).toNat)
    case atStart => exact ⟨0, by omega, rfl, rfl⟩
    case round =>
      obtain ⟨k, hk, rfl, rfl⟩ := hrel
      have hss := sum_take_in (l := exs l) exs_in (by rw [HEl.out]; exact hN512) k
      by_cases hlt : k < N
      · have hdt : decide (k < N) = true := by simp; omega
        have hck := HO.out.cells (g := gb) rfl k (.int .i64 ((exs l).getD k 0)) (by simp [show k < (exs l).length by rw [HEl.out]; exact hlt])
        rw [add_plain, Nat.zero_add] at hck
        have HT := Lib.hid (sum_take (exs l) k (by rw [HEl.out]; exact hlt))
        have hin := exs_in (l := l) ((exs l).getD k 0) (by rw [List.getD_eq_getElem?_getD, List.getElem?_eq_getElem (by rw [HEl.out]; exact hlt)]; exact List.getElem_mem _)
        obtain ⟨x, hx⟩ : ∃ x, (exs l).getD k 0 = x := ⟨_, rfl⟩
        obtain ⟨S, hS⟩ : ∃ S, ((exs l).take k).sum = S := ⟨_, rfl⟩
        rw [hx] at hck HT hin
        rw [hS] at hss HT ⊢
        obtain ⟨a1, a2⟩ := hss
        obtain ⟨b1, b2⟩ := hin
        clear hx hS
        go_wp2
        clear hck
        go_round
        case rel => exact ⟨k + 1, by omega, by go_num, by rw [HT.out]⟩
        case measure => simp [intOf]; omega
      · obtain rfl : k = N := by omega
        have hdf : decide (k < k) = false := by simp
        have hT : (exs l).take k = exs l := List.take_of_length_le (by rw [HEl.out]; omega)
        rw [hT]
        obtain ⟨S, hS⟩ : ∃ S, (exs l).sum = S := ⟨_, rfl⟩
        rw [hS] at hes HSg ⊢
        obtain ⟨s1, s2⟩ := hes
        clear hT hS hss
        have hO0 := HO.out
        rw [← HK0.out] at hO0
        have HO2 := Lib.hid hO0
        clear hO0 HO
        go_wp2
        go_loopw [43] (fun t wr => ∃ q : Nat, q ≤ k ∧ t = .int .i64 q ∧ SmB w l k q (.slice (some ⟨gb, 0, none⟩) k cb) wr) (fun t _ => k - (intOf t).toNat)
        case atStart => exact ⟨0, by omega, rfl, HB3.out, HO2.out⟩
        case round =>
          obtain ⟨q, hq, rfl, hS⟩ := hrel
          have HS := Lib.hid hS
          clear hS HO2
          by_cases hlt : q < k
          · have hdt : decide (q < k) = true := by simp; omega
            have hck := HS.out.own.cells (g := gb) rfl q (.int .i64 ((smk l q).getD q 0)) (by
              have := HKl.out q hq
              simp [this, hlt])
            rw [add_plain, Nat.zero_add, HKg.out q hlt] at hck
            have hfk := HS.out.own.frozenAt q
            have hgq := HSg.out q hlt
            have hE := ex_le (l.getD q 0 - m)
            have HST := Lib.hid (HKs.out q hlt)
            have HW := Lib.hid (HS.out.own.stored q (.int .i64 ((smx l).getD q 0)))
            rw [hgq] at HST HW
            obtain ⟨E, hEE⟩ : ∃ E, ex (l.getD q 0 - m) = E := ⟨_, rfl⟩
            rw [hEE] at hE hck HST HW
            obtain ⟨E1, E2⟩ := hE
            clear hgq hEE
            go_wp2
            clear hck hfk
            go_roundw
            case rel =>
              refine ⟨q + 1, by omega, by go_num, HS.out.below.trans (Below.ofGrown HW.out.2 HS.out.below.size (fun k hk => (HS.out.own.lt k hk).1)), ?_⟩
              rw [← HST.out, List.map_set]
              exact HW.out.1
            case measure => simp [intOf]; omega
          · obtain rfl : q = k := by omega
            have hdf : decide (q < q) = false := by simp
            have hown := HS.out.own
            rw [HKN.out] at hown
            have HO3 := Lib.hid hown
            clear hown
            go_wp2
            go_ret2
            obtain ⟨sp2, cap2, e2, _, hnum⟩ := own_nums HO3.out
            exact ⟨sp2, cap2, by rw [HSl.out, ← e2]; rfl, hnum, HS.out.below⟩
  · have hV : smV l = [] := by unfold smV; rw [if_neg hc]
    rw [hV]
    have hne := ne0 hc
    obtain ⟨E, hEE⟩ : ∃ E, chkV l = E := ⟨_, rfl⟩
    rw [hEE] at HC hne ⊢
    clear hV hc hl hN hEE he
    go_enter Tryd.func48, Tryd.ntmps48
    go_wp2_with fail
    refine (HC.out _ _ rfl HB0.out).mono ?_
    rintro e w1 ⟨rfl, hb1⟩
    have HB1 := Lib.hid ((HB0.out.alloc (Nat.le_refl _) (.cells #[.slice sp N cap] 39)).trans (hb1.mono (by simp)))
    clear hb1
    go_wp2
    go_ret2
    exact AnsE.no HB1.out
end Go.Proofs.YtmolkbmdfkeniaaDoor.Tn
