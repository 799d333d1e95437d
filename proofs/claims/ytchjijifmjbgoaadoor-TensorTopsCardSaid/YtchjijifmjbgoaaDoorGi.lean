import Derived.Test.YtchjijifmjbgoaaDoorGe
namespace Go.Proofs.YtchjijifmjbgoaaDoor.Tn
open Go.ChangeShapes Go.WideShapes Go.ChangeAt Go.RowKit Go.Proofs.YtchjijifmjbgoaaDoor.Fx Go.Proofs.YtchjijifmjbgoaaDoor.Rf

def VecVal (w : World) (v : Value) (l : List Int) : Prop := ∃ sp cap, v = .slice sp l.length cap ∧ Nums w sp cap l
/-- a slice that reads as vectors -/
structure Vecs (w : World) (sp : Option Addr) (cap : Nat) (ls : List (List Int)) : Prop where
  ex : ∃ vs : List Value, vs.length = ls.length ∧ Sl w sp cap vs ∧ ∀ i v, vs[i]? = some v → VecVal w v (ls.getD i [])
theorem Vecs.below {w w' : World} {sp : Option Addr} {cap : Nat} {ls : List (List Int)} (h : Vecs w sp cap ls) (hb : Below w.heap.size w w') : Vecs w' sp cap ls := by
  obtain ⟨vs, h1, h2, h3⟩ := h.ex
  exact ⟨vs, h1, h2.below (Nat.le_refl _) hb, fun i v hv => by
    obtain ⟨s, c, e, hn⟩ := h3 i v hv
    exact ⟨s, c, e, hn.below hb⟩⟩
theorem Vecs.at_ {w : World} {sp : Option Addr} {cap : Nat} {ls : List (List Int)} (h : Vecs w sp cap ls) (k : Nat) (hk : k < ls.length) : ∃ c o s2 c2, sp = some ⟨c, o, none⟩ ∧ w.cell? ⟨c, o + k, none⟩ = some (.slice s2 (ls.getD k []).length c2) ∧ Nums w s2 c2 (ls.getD k []) := by
  obtain ⟨vs, h1, h2, h3⟩ := h.ex
  obtain ⟨c, o, rfl, hl⟩ := h2.lies (by omega)
  have hv : vs[k]? = some vs[k] := List.getElem?_eq_getElem (by omega)
  obtain ⟨s2, c2, e, hb⟩ := h3 k _ hv
  have := hl k _ hv
  rw [e] at this
  exact ⟨c, o, s2, c2, rfl, this, hb⟩
theorem Vecs.len {w : World} {sp : Option Addr} {cap : Nat} {ls : List (List Int)} (h : Vecs w sp cap ls) : ls.length ≤ 9223372036854775807 := by
  obtain ⟨vs, h1, h2, h3⟩ := h.ex
  rw [← h1]; exact h2.len
theorem Vecs.drewN {w : World} {sp : Option Addr} {cap : Nat} {ls : List (List Int)} (h : Vecs w sp cap ls) (n : Nat) : Vecs (w.drewN n) sp cap ls := by
  obtain ⟨vs, h1, h2, h3⟩ := h.ex
  exact ⟨vs, h1, h2.drewN n, fun i v hv => by
    obtain ⟨s, c, e, hn⟩ := h3 i v hv
    exact ⟨s, c, e, Sl.drewN hn n⟩⟩
/-- numbers that are answered, and what is wrong -/
def AnsE (w : World) (l : List Int) (err : Int) (e : Ending) (w' : World) : Prop := ∃ sp cap, e = .returned (.tuple #[.slice sp l.length cap, .int .i64 err]) ∧ Nums w' sp cap l ∧ Below w.heap.size w w'
theorem Nums.nil (w : World) : Nums w none 0 [] := Sl.nil w
theorem AnsE.no {w w' : World} {err : Int} (hb : Below w.heap.size w w') : AnsE w [] err (.returned (.tuple #[.slice none 0 0, .int .i64 err])) w' := ⟨none, 0, rfl, Nums.nil _, hb⟩
def mixV (ss : List Int) (ls : List (List Int)) : List Int := if mixE ss ls = 0 then mixL ss ls (mixN ls) else []
theorem mixL_length (ss : List Int) (ls : List (List Int)) (n : Nat) : (mixL ss ls n).length = n := by simp [mixL]
theorem getD_mem {ls : List (List Int)} (k : Nat) (h : k < ls.length) : ls.getD k [] ∈ ls := by
  rw [List.getD_eq_getElem?_getD, List.getElem?_eq_getElem h]
  exact List.getElem_mem _
theorem mem_getD {ls : List (List Int)} {P : List Int → Prop} (h : ∀ i, i < ls.length → P (ls.getD i [])) : ∀ l ∈ ls, P l := fun l hl => by
  obtain ⟨i, hi, rfl⟩ := List.mem_iff_getElem.1 hl
  have := h i hi
  rwa [List.getD_eq_getElem?_getD, List.getElem?_eq_getElem hi] at this
theorem col_get (ls : List (List Int)) (k i : Nat) (h : i < ls.length) : (ls.map fun l => l.getD k 0).getD i 0 = (ls.getD i []).getD k 0 := by simp [List.getD_eq_getElem?_getD, h]
/-- while the vectors are gone through -/
def Rd (w : World) (N : Nat) (i : Value) (wr : World) : Prop := ∃ k m : Nat, k ≤ N ∧ i = .int .i64 k ∧ wr = w.drewN m
/-- while one sum is reckoned -/
def InS (W : World) (ss : List Int) (ls : List (List Int)) (k M : Nat) (s i : Value) (wr : World) : Prop := ∃ q m : Nat, q ≤ M ∧ i = .int .i64 q ∧ s = .int .i64 (dotS (ss.take q) ((ls.map fun l => l.getD k 0).take q)) ∧ wr = W.drewN m
/-- while the sums are collected -/
structure MxS (w : World) (ss : List Int) (ls : List (List Int)) (k : Nat) (v : Value) (wr : World) : Prop where
  below : Below w.heap.size w wr
  own : wr.ownsRow w.heap.size 3 1 v k ((mixL ss ls k).map (Value.int .i64))
theorem owns_drewN {w : World} {base e n : Nat} {v : Value} {xs : List Value} (h : w.ownsRow base e 1 v n xs) (m : Nat) : (w.drewN m).ownsRow base e 1 v n xs := owns_below h ⟨rfl, rfl, rfl, Nat.le_refl _, fun _ _ => rfl⟩
theorem at_drewN {w : World} (m : Nat) {a : Addr} {v : Value} (h : w.cell? a = some v) : (w.drewN m).cell? a = some v := h
set_option maxRecDepth 100000 in
set_option maxHeartbeats 4000000 in
theorem rmix_any (w : World) (sp sq : Option Addr) (cap caq N M : Nat) (ss : List Int) (ls : List (List Int)) (hN : ss.length = N) (hM : ls.length = M) (hs : Nums w sp cap ss) (hv : Vecs w sq caq ls) :
    Calls Tryd.prog 26 #[.slice sp N cap, .slice sq M caq] w (AnsE w (mixV ss ls) (mixE ss ls)) := by
  have hNm : N ≤ 9223372036854775807 := by rw [← hN]; exact hs.len
  have hMm : M ≤ 9223372036854775807 := by rw [← hM]; exact hv.len
  have HS := Lib.hid hs
  have HV := Lib.hid hv
  have HL := Lib.hid hN
  have HM := Lib.hid hM
  clear hs hv
  by_cases ho : 1 ≤ M ∧ M ≤ 64 ∧ N = M
  · obtain ⟨o1, o2, o3⟩ := ho
    subst o3
    have HE1 : Hid (decide ((N : Int) < 1) = false) := Lib.hid (by simp; omega)
    have HE2 : Hid (decide ((64 : Int) < (N : Int)) = false) := Lib.hid (by simp; omega)
    have hMM : (N != N) = false := by simp
    have hMI : ((N : Int) != (N : Int)) = false := by simp
    have e1 := HE1.out
    have e2 := HE2.out
    have hMM2 := hMM
    by_cases hq : ∀ i, i < N → (ls.getD i []).length = (ls.getD 0 []).length
    · have HEq := Lib.hid hq
      have hall : mixOk ss ls := ⟨by omega, by omega, by omega, mem_getD (P := fun l => l.length = (ls.getD 0 []).length) (fun i hi => hq i (by omega))⟩
      have HAl := Lib.hid hall
      obtain ⟨n, hn⟩ : ∃ n, mixN ls = n := ⟨_, rfl⟩
      have HN0 : Hid ((ls.getD 0 []).length = n) := Lib.hid hn
      have HN1 := Lib.hid hn
      have HLn : Hid (∀ i, i < N → (ls.getD i []).length = n) := Lib.hid (fun i hi => (hq i hi).trans hn)
      clear hq hall
      by_cases hsz : n < 1 ∨ 512 < n
      · have HX : Hid (mixE ss ls = 13) := Lib.hid (by
          unfold mixE
          rw [if_neg (fun h => h HAl.out), HN1.out, if_pos hsz])
        have HY : Hid (mixV ss ls = []) := Lib.hid (by unfold mixV; rw [HX.out, if_neg (by omega)])
        rw [HX.out, HY.out]
        obtain ⟨j, hj0⟩ : ∃ j : Nat, j = 0 := ⟨0, rfl⟩
        have hj : j < N := by omega
        have HB : Hid (chkV (ls.getD j []) = 13) := Lib.hid (by unfold chkV; rw [HLn.out j hj, if_pos hsz])
        have HG : Hid (∀ i, i < j → chkV (ls.getD i []) = 0) := Lib.hid (fun i hi => by omega)
        clear hj0 hn HX HY hN hM hsz
        go_enter Tryd.func26, Tryd.ntmps26
        go_wp2
        go_loopw [6] (fun i wr => Rd w N i wr) (fun i _ => N - (intOf i).toNat)
        case atStart => exact ⟨0, 0, by omega, rfl, rfl⟩
        case round =>
          obtain ⟨k, m, hk, rfl, rfl⟩ := hrel
          by_cases hlt : k < N
          · have hdt : decide (k < N) = true := by simp; omega
            obtain ⟨g, o, s2, c2, e, hc, hn⟩ := HV.out.at_ k (by rw [HM.out]; exact hlt)
            cases e
            obtain ⟨g0, o0, s0, c0, e, hc0, hn0⟩ := HV.out.at_ 0 (by rw [HM.out]; omega)
            cases e
            rw [Nat.add_zero] at hc0
            have hnl := hn.len
            have hnl0 := hn0.len
            clear hn hn0
            have he : (ls.getD k []).length = (ls.getD 0 []).length := HEq.out k hlt
            rw [he] at hc hnl
            obtain ⟨L0, hL0⟩ : ∃ x, (ls.getD 0 []).length = x := ⟨_, rfl⟩
            rw [hL0] at hc hc0 hnl hnl0
            have hxx : ((L0 : Int) != (L0 : Int)) = false := by simp
            have hyy : (L0 != L0) = false := by simp
            clear he hL0
            go_wp2
            go_quiet (fail)
            go_wp2
            go_roundw
            case rel => exact ⟨k + 1, _, by omega, by go_num, rfl⟩
            case measure => simp [intOf]; omega
          · obtain rfl : k = N := by omega
            have hdf : decide (k < k) = false := by simp
            clear hlt hk
            go_wp2
            go_loop [7] (fun i => ∃ q : Nat, q ≤ j ∧ i = .int .i64 q) (fun i => k - (intOf i).toNat)
            case atStart => exact ⟨0, by omega, rfl⟩
            case round =>
              obtain ⟨q, hq, rfl⟩ := hrel
              have hlt : q < k := by omega
              have hdt : decide (q < k) = true := by simp; omega
              by_cases hkj : q = j
              · subst hkj
                obtain ⟨g, o, s2, c2, e, hc, hn⟩ := HV.out.at_ q (by rw [HM.out]; exact hlt)
                cases e
                have hnl := hn.len
                have HNq := Lib.hid (hn.drewN m)
                have HCk := Lib.hid (rcheck_any (w.drewN m) s2 c2 (ls.getD q []).length (ls.getD q []) rfl HNq.out)
                rw [show chkV (ls.getD q []) = 13 from HB.out] at HCk
                obtain ⟨L1, hL1⟩ : ∃ x, (ls.getD q []).length = x := ⟨_, rfl⟩
                rw [hL1] at hc hnl HCk
                clear hL1 HNq hn
                go_wp2_with fail
                refine HCk.out.mono ?_
                rintro e w' ⟨rfl, rfl⟩
                go_wp2_with fail
                refine HCk.out.mono ?_
                rintro e w' ⟨rfl, rfl⟩
                go_wp2
                go_ret2
                exact AnsE.no (below_drewN (Below.refl _ _) _)
              · have hk2 : q < j := by omega
                clear hkj
                obtain ⟨g, o, s2, c2, e, hc, hn⟩ := HV.out.at_ q (by rw [HM.out]; exact hlt)
                cases e
                have hnl := hn.len
                have HNq := Lib.hid (hn.drewN m)
                have HCk := Lib.hid (rcheck_any (w.drewN m) s2 c2 (ls.getD q []).length (ls.getD q []) rfl HNq.out)
                rw [show chkV (ls.getD q []) = 0 from HG.out q hk2] at HCk
                obtain ⟨L1, hL1⟩ : ∃ x, (ls.getD q []).length = x := ⟨_, rfl⟩
                rw [hL1] at hc hnl HCk
                clear hL1 HNq hn
                go_wp2_with fail
                refine HCk.out.mono ?_
                rintro e w' ⟨rfl, rfl⟩
                go_wp2
                go_round
                case rel => exact ⟨q + 1, by omega, by go_num⟩
                case measure => simp [intOf]; omega
      · have HSz := Lib.hid hsz
        have hn512 : n ≤ 512 := by omega
        by_cases hvv : ∀ l ∈ ls, ∀ x ∈ l, isN x
        · have HVv := Lib.hid hvv
          have HCv : Hid (∀ i, i < N → chkV (ls.getD i []) = 0) := Lib.hid (fun i hi => by unfold chkV; rw [HLn.out i hi, if_neg HSz.out, if_pos (hvv _ (getD_mem i (by omega)))])
          clear hvv
          by_cases hsh : ∀ x ∈ ss, isS x
          · have HSh : Hid (∀ i, i < N → isS (ss.getD i 0)) := Lib.hid (fun i hi => in_of hsh i (by omega))
            have HAll : Hid (∀ i k, i < N → k < n → isN ((ls.getD i []).getD k 0)) := Lib.hid (fun i k hi hk => in_of (HVv.out _ (getD_mem i (by omega))) k (by rw [HLn.out i hi]; exact hk))
            have HSm : Hid (∀ k q, k < n → q ≤ 64 → -9007199254740992 ≤ dotS (ss.take q) ((ls.map fun l => l.getD k 0).take q) ∧ dotS (ss.take q) ((ls.map fun l => l.getD k 0).take q) ≤ 9007199254740992) := Lib.hid (fun k q hk hq => mixS_small hsh HVv.out (mem_getD (P := fun l => l.length = mixN ls) (fun i hi => (HLn.out i (by omega)).trans HN1.out.symm)) k q (by rw [HN1.out]; exact hk) hq)
            have HShP := Lib.hid hsh
            clear hsh
            by_cases hf : ∀ k, k < n → isN (rnd (mixS ss ls k))
            · have HFin := Lib.hid hf
              have HX : Hid (mixE ss ls = 0) := Lib.hid (by
                unfold mixE
                rw [if_neg (fun h => h HAl.out), HN1.out, if_neg HSz.out, if_neg (fun h => h HVv.out), if_neg (fun h => h HShP.out), if_pos hf])
              have HY : Hid (mixV ss ls = mixL ss ls (mixN ls)) := Lib.hid (by unfold mixV; rw [HX.out, if_pos rfl])
              rw [HX.out, HY.out]
              rw [HN1.out]
              have HRl : Hid ((mixL ss ls n).length = n) := Lib.hid (mixL_length _ _ _)
              clear hn HX HY hN hM hsz hf
              go_enter Tryd.func26, Tryd.ntmps26
              go_wp2
              go_loopw [6] (fun i wr => Rd w N i wr) (fun i _ => N - (intOf i).toNat)
              case atStart => exact ⟨0, 0, by omega, rfl, rfl⟩
              case round =>
                obtain ⟨k, m, hk, rfl, rfl⟩ := hrel
                by_cases hlt : k < N
                · have hdt : decide (k < N) = true := by simp; omega
                  obtain ⟨g, o, s2, c2, e, hc, hn⟩ := HV.out.at_ k (by rw [HM.out]; exact hlt)
                  cases e
                  obtain ⟨g0, o0, s0, c0, e, hc0, hn0⟩ := HV.out.at_ 0 (by rw [HM.out]; omega)
                  cases e
                  rw [Nat.add_zero] at hc0
                  have hnl := hn.len
                  have hnl0 := hn0.len
                  clear hn hn0
                  have he : (ls.getD k []).length = (ls.getD 0 []).length := HEq.out k hlt
                  rw [he] at hc hnl
                  obtain ⟨L0, hL0⟩ : ∃ x, (ls.getD 0 []).length = x := ⟨_, rfl⟩
                  rw [hL0] at hc hc0 hnl hnl0
                  have hxx : ((L0 : Int) != (L0 : Int)) = false := by simp
                  have hyy : (L0 != L0) = false := by simp
                  clear he hL0
                  go_wp2
                  go_quiet (fail)
                  go_wp2
                  go_roundw
                  case rel => exact ⟨k + 1, _, by omega, by go_num, rfl⟩
                  case measure => simp [intOf]; omega
                · obtain rfl : k = N := by omega
                  have hdf : decide (k < k) = false := by simp
                  clear hlt hk
                  go_wp2
                  go_loop [7] (fun i => ∃ q : Nat, q ≤ k ∧ i = .int .i64 q) (fun i => k - (intOf i).toNat)
                  case atStart => exact ⟨0, by omega, rfl⟩
                  case round =>
                    obtain ⟨q, hq, rfl⟩ := hrel
                    by_cases hlt : q < k
                    · have hdt : decide (q < k) = true := by simp; omega
                      obtain ⟨g, o, s2, c2, e, hc, hn⟩ := HV.out.at_ q (by rw [HM.out]; exact hlt)
                      cases e
                      have hnl := hn.len
                      have HNq := Lib.hid (hn.drewN m)
                      have HCk := Lib.hid (rcheck_any (w.drewN m) s2 c2 (ls.getD q []).length (ls.getD q []) rfl HNq.out)
                      rw [show chkV (ls.getD q []) = 0 from HCv.out q hlt] at HCk
                      obtain ⟨L1, hL1⟩ : ∃ x, (ls.getD q []).length = x := ⟨_, rfl⟩
                      rw [hL1] at hc hnl HCk
                      clear hL1 HNq hn
                      go_wp2_with fail
                      refine HCk.out.mono ?_
                      rintro e w' ⟨rfl, rfl⟩
                      go_wp2
                      go_round
                      case rel => exact ⟨q + 1, by omega, by go_num⟩
                      case measure => simp [intOf]; omega
                    · obtain rfl : q = k := by omega
                      have hdf : decide (q < q) = false := by simp
                      clear hlt hq
                      go_wp2
                      go_loop [8] (fun i => ∃ r : Nat, r ≤ q ∧ i = .int .i64 r) (fun i => q - (intOf i).toNat)
                      case atStart => exact ⟨0, by omega, rfl⟩
                      case round =>
                        obtain ⟨r, hr, rfl⟩ := hrel
                        by_cases hlt : r < q
                        · have hdt : decide (r < q) = true := by simp; omega
                          obtain ⟨g, o, e, hc⟩ := HS.out.at_ r (by rw [HL.out]; exact hlt)
                          cases e
                          obtain ⟨x, hx⟩ : ∃ x, ss.getD r 0 = x := ⟨_, rfl⟩
                          have hxs := HSh.out r hlt
                          rw [hx] at hc hxs
                          have e1 : decide (x < 0) = false := by have := hxs.1; simp; omega
                          have e2 : decide (65536 < x) = false := by have := hxs.2; simp; omega
                          clear hx hxs
                          go_wp2
                          go_round
                          case rel => exact ⟨r + 1, by omega, by go_num⟩
                          case measure => simp [intOf]; omega
                        · obtain rfl : r = q := by omega
                          have hdf : decide (r < r) = false := by simp
                          clear hlt hr
                          go_wp2
                          go_loopw [9, 10] (fun v i wr => ∃ k : Nat, k ≤ n ∧ i = .int .i64 k ∧ MxS w ss ls k v wr) (fun _ i _ => n - (intOf i).toNat)
                          case atStart => exact ⟨0, by omega, rfl, below_drewN (Below.refl _ _) _, World.ownsRow_nil _ _ _ _⟩
                          case round =>
                            obtain ⟨k, hk, rfl, hS⟩ := hrel
                            obtain ⟨sv, cv, rfl, _, _, _⟩ := Sl.all1 hS.own
                            have HSt := Lib.hid hS
                            clear hS
                            obtain ⟨g0, o0, s0, c0, e, hc0, hn0⟩ := HV.out.at_ 0 (by rw [HM.out]; omega)
                            cases e
                            rw [Nat.add_zero, HN0.out] at hc0
                            have hc0r : wr.cell? _ = _ := (HSt.out.below.cell (block_lt_of_cell hc0)).trans hc0
                            have hnl0 := hn0.len
                            rw [HN0.out] at hnl0
                            clear hn0 hc0
                            by_cases hlt : k < n
                            · have hdt : decide (k < n) = true := by simp; omega
                              have HVr := Lib.hid (HV.out.below HSt.out.below)
                              have HSr := Lib.hid (HS.out.below HSt.out.below)
                              go_wp2
                              go_loopw [11, 12] (fun s i wr2 => InS wr ss ls k r s i wr2) (fun _ i _ => r - (intOf i).toNat)
                              case atStart => exact ⟨0, 0, by omega, rfl, rfl, rfl⟩
                              case round =>
                                obtain ⟨q, m2, hq, rfl, rfl, rfl⟩ := hrel
                                have hsm := HSm.out k q hlt (by omega)
                                by_cases hlq : q < r
                                · have hdq : decide (q < r) = true := by simp; omega
                                  obtain ⟨g1, o1, e, hc1⟩ := HSr.out.at_ q (by rw [HL.out]; exact hlq)
                                  cases e
                                  obtain ⟨g2, o2, s2, c2, e, hc2, hn2⟩ := HVr.out.at_ q (by rw [HM.out]; exact hlq)
                                  cases e
                                  have hnq : (ls.getD q []).length = n := (HEq.out q hlq).trans HN0.out
                                  rw [hnq] at hc2
                                  obtain ⟨g3, o3, e, hc3⟩ := Nums.at_ hn2 k (by rw [hnq]; exact hlt)
                                  cases e
                                  have hsm2 := HSm.out k (q + 1) hlt (by omega)
                                  have hst := dotS_take ss (ls.map fun l => l.getD k 0) q (by rw [HL.out]; exact hlq) (by rw [List.length_map, HM.out]; exact hlq)
                                  rw [col_get ls k q (by rw [HM.out]; exact hlq)] at hst
                                  have hx1 := HSh.out q hlq
                                  have hx2 := HAll.out q k hlq hlt
                                  rw [hst] at hsm2
                                  have HSt2 := Lib.hid hst
                                  obtain ⟨x, hx⟩ : ∃ x, ss.getD q 0 = x := ⟨_, rfl⟩
                                  obtain ⟨y, hy⟩ : ∃ x, (ls.getD q []).getD k 0 = x := ⟨_, rfl⟩
                                  obtain ⟨S, hSS⟩ : ∃ S, dotS (ss.take q) ((ls.map fun l => l.getD k 0).take q) = S := ⟨_, rfl⟩
                                  rw [hx] at hc1 hsm2 HSt2 hx1
                                  rw [hy] at hc3 hsm2 HSt2 hx2
                                  rw [hSS] at hsm hsm2 HSt2 ⊢
                                  obtain ⟨a1, a2⟩ := hsm
                                  obtain ⟨b1, b2⟩ := hsm2
                                  have hxy := mul_small (a := x) (b := y) (A := 65536) (B := 2147483648) (by unfold isS at hx1; omega) (by unfold isN at hx2; omega)
                                  obtain ⟨p1, p2⟩ := hxy
                                  clear hx hy hSS hst hx1 hx2 hn2 hnq
                                  go_wp2
                                  have hw1 : IntKind.i64.wrap (x * y) = x * y := IntWalk.i64_in _ (by omega)
                                  have hw2 : IntKind.i64.wrap (S + x * y) = S + x * y := IntWalk.i64_in _ (by omega)
                                  go_quiet (fail)
                                  go_wp2
                                  go_roundw
                                  case rel => exact ⟨q + 1, _, by omega, by go_num, by rw [HSt2.out], rfl⟩
                                  case measure => simp [intOf]; omega
                                · obtain rfl : q = r := by omega
                                  have hdq : decide (q < q) = false := by simp
                                  have HT : Hid (dotS (ss.take q) ((ls.map fun l => l.getD k 0).take q) = mixS ss ls k) := Lib.hid (by rw [List.take_of_length_le (by rw [HL.out]; omega), List.take_of_length_le (by rw [List.length_map, HM.out]; omega)]; rfl)
                                  rw [HT.out] at hsm ⊢
                                  have HRn : Hid (rnd (mixS ss ls k) = rnd (mixS ss ls k)) := Lib.hid rfl
                                  obtain ⟨S, hSS⟩ : ∃ S, mixS ss ls k = S := ⟨_, rfl⟩
                                  rw [hSS] at hsm ⊢
                                  have HSS := Lib.hid hSS
                                  obtain ⟨a1, a2⟩ := hsm
                                  clear hSS hlq hq
                                  go_wp2_with fail
                                  refine (round_any _ S (by omega) (by omega)).mono ?_
                                  rintro e w' ⟨rfl, rfl⟩
                                  go_wp2_with fail
                                  refine (told_any _ (rnd S)).mono ?_
                                  rintro e w' ⟨rfl, rfl⟩
                                  have hin := HFin.out k hlt
                                  rw [HSS.out] at hin
                                  rw [(show over (rnd S) = 0 by unfold over; rw [if_pos hin]), (show orNil (rnd S) = rnd S by unfold orNil; rw [if_pos hin])]
                                  have HQ : Hid (mixL ss ls (k + 1) = mixL ss ls k ++ [rnd S]) := Lib.hid (by rw [mixL_succ, HSS.out])
                                  obtain ⟨R, hR⟩ : ∃ R, rnd S = R := ⟨_, rfl⟩
                                  rw [hR] at HQ ⊢
                                  clear hR hin
                                  have HO := Lib.hid (owns_drewN HSt.out.own m2)
                                  have HB2 := Lib.hid (below_drewN HSt.out.below m2)
                                  have hsz := HB2.out.size
                                  go_wp2_with (refine wpList_push rfl (.tmp 118) (.tmp 120) rfl w.heap.size (.slice sv k cv) k (mixL ss ls k) R rfl HO.out rfl (by omega) hsz ?_; intro v2 w2 hown2 hb2; have HO2 := Lib.hid hown2; have HB3 := Lib.hid (HB2.out.trans hb2); clear hown2 hb2)
                                  go_roundw
                                  case rel => exact ⟨k + 1, by omega, by go_num, HB3.out, by rw [HQ.out]; exact HO2.out⟩
                                  case measure => simp [intOf]; omega
                            · obtain rfl : k = n := by omega
                              have hdf : decide (k < k) = false := by simp
                              go_wp2
                              go_ret2
                              obtain ⟨sp2, cap2, e2, hl2, hnum⟩ := own_nums HSt.out.own
                              cases e2
                              exact ⟨sv, cv, by rw [hl2]; rfl, hnum, HSt.out.below⟩
            · have HX : Hid (mixE ss ls = 17) := Lib.hid (by
                unfold mixE
                rw [if_neg (fun h => h HAl.out), HN1.out, if_neg HSz.out, if_neg (fun h => h HVv.out), if_neg (fun h => h HShP.out), if_neg hf])
              have HY : Hid (mixV ss ls = []) := Lib.hid (by unfold mixV; rw [HX.out, if_neg (by omega)])
              rw [HX.out, HY.out]
              obtain ⟨j, hj, hb, hg⟩ := first_not (P := fun k => isN (rnd (mixS ss ls k))) n hf
              have HB := Lib.hid hb
              have HG := Lib.hid hg
              clear hn HX HY hN hM hsz hf hb hg
              go_enter Tryd.func26, Tryd.ntmps26
              go_wp2
              go_loopw [6] (fun i wr => Rd w N i wr) (fun i _ => N - (intOf i).toNat)
              case atStart => exact ⟨0, 0, by omega, rfl, rfl⟩
              case round =>
                obtain ⟨k, m, hk, rfl, rfl⟩ := hrel
                by_cases hlt : k < N
                · have hdt : decide (k < N) = true := by simp; omega
                  obtain ⟨g, o, s2, c2, e, hc, hn⟩ := HV.out.at_ k (by rw [HM.out]; exact hlt)
                  cases e
                  obtain ⟨g0, o0, s0, c0, e, hc0, hn0⟩ := HV.out.at_ 0 (by rw [HM.out]; omega)
                  cases e
                  rw [Nat.add_zero] at hc0
                  have hnl := hn.len
                  have hnl0 := hn0.len
                  clear hn hn0
                  have he : (ls.getD k []).length = (ls.getD 0 []).length := HEq.out k hlt
                  rw [he] at hc hnl
                  obtain ⟨L0, hL0⟩ : ∃ x, (ls.getD 0 []).length = x := ⟨_, rfl⟩
                  rw [hL0] at hc hc0 hnl hnl0
                  have hxx : ((L0 : Int) != (L0 : Int)) = false := by simp
                  have hyy : (L0 != L0) = false := by simp
                  clear he hL0
                  go_wp2
                  go_quiet (fail)
                  go_wp2
                  go_roundw
                  case rel => exact ⟨k + 1, _, by omega, by go_num, rfl⟩
                  case measure => simp [intOf]; omega
                · obtain rfl : k = N := by omega
                  have hdf : decide (k < k) = false := by simp
                  clear hlt hk
                  go_wp2
                  go_loop [7] (fun i => ∃ q : Nat, q ≤ k ∧ i = .int .i64 q) (fun i => k - (intOf i).toNat)
                  case atStart => exact ⟨0, by omega, rfl⟩
                  case round =>
                    obtain ⟨q, hq, rfl⟩ := hrel
                    by_cases hlt : q < k
                    · have hdt : decide (q < k) = true := by simp; omega
                      obtain ⟨g, o, s2, c2, e, hc, hn⟩ := HV.out.at_ q (by rw [HM.out]; exact hlt)
                      cases e
                      have hnl := hn.len
                      have HNq := Lib.hid (hn.drewN m)
                      have HCk := Lib.hid (rcheck_any (w.drewN m) s2 c2 (ls.getD q []).length (ls.getD q []) rfl HNq.out)
                      rw [show chkV (ls.getD q []) = 0 from HCv.out q hlt] at HCk
                      obtain ⟨L1, hL1⟩ : ∃ x, (ls.getD q []).length = x := ⟨_, rfl⟩
                      rw [hL1] at hc hnl HCk
                      clear hL1 HNq hn
                      go_wp2_with fail
                      refine HCk.out.mono ?_
                      rintro e w' ⟨rfl, rfl⟩
                      go_wp2
                      go_round
                      case rel => exact ⟨q + 1, by omega, by go_num⟩
                      case measure => simp [intOf]; omega
                    · obtain rfl : q = k := by omega
                      have hdf : decide (q < q) = false := by simp
                      clear hlt hq
                      go_wp2
                      go_loop [8] (fun i => ∃ r : Nat, r ≤ q ∧ i = .int .i64 r) (fun i => q - (intOf i).toNat)
                      case atStart => exact ⟨0, by omega, rfl⟩
                      case round =>
                        obtain ⟨r, hr, rfl⟩ := hrel
                        by_cases hlt : r < q
                        · have hdt : decide (r < q) = true := by simp; omega
                          obtain ⟨g, o, e, hc⟩ := HS.out.at_ r (by rw [HL.out]; exact hlt)
                          cases e
                          obtain ⟨x, hx⟩ : ∃ x, ss.getD r 0 = x := ⟨_, rfl⟩
                          have hxs := HSh.out r hlt
                          rw [hx] at hc hxs
                          have e1 : decide (x < 0) = false := by have := hxs.1; simp; omega
                          have e2 : decide (65536 < x) = false := by have := hxs.2; simp; omega
                          clear hx hxs
                          go_wp2
                          go_round
                          case rel => exact ⟨r + 1, by omega, by go_num⟩
                          case measure => simp [intOf]; omega
                        · obtain rfl : r = q := by omega
                          have hdf : decide (r < r) = false := by simp
                          clear hlt hr
                          go_wp2
                          go_loopw [9, 10] (fun v i wr => ∃ k : Nat, k ≤ j ∧ i = .int .i64 k ∧ MxS w ss ls k v wr) (fun _ i _ => n - (intOf i).toNat)
                          case atStart => exact ⟨0, by omega, rfl, below_drewN (Below.refl _ _) _, World.ownsRow_nil _ _ _ _⟩
                          case round =>
                            obtain ⟨k, hk, rfl, hS⟩ := hrel
                            obtain ⟨sv, cv, rfl, _, _, _⟩ := Sl.all1 hS.own
                            have HSt := Lib.hid hS
                            clear hS
                            obtain ⟨g0, o0, s0, c0, e, hc0, hn0⟩ := HV.out.at_ 0 (by rw [HM.out]; omega)
                            cases e
                            rw [Nat.add_zero, HN0.out] at hc0
                            have hc0r : wr.cell? _ = _ := (HSt.out.below.cell (block_lt_of_cell hc0)).trans hc0
                            have hnl0 := hn0.len
                            rw [HN0.out] at hnl0
                            clear hn0 hc0
                            have hlt : k < n := by omega
                            have hdt : decide (k < n) = true := by simp; omega
                            by_cases hkj : k = j
                            · subst hkj
                              have HVr := Lib.hid (HV.out.below HSt.out.below)
                              have HSr := Lib.hid (HS.out.below HSt.out.below)
                              go_wp2
                              go_loopw [11, 12] (fun s i wr2 => InS wr ss ls k r s i wr2) (fun _ i _ => r - (intOf i).toNat)
                              case atStart => exact ⟨0, 0, by omega, rfl, rfl, rfl⟩
                              case round =>
                                obtain ⟨q, m2, hq, rfl, rfl, rfl⟩ := hrel
                                have hsm := HSm.out k q hlt (by omega)
                                by_cases hlq : q < r
                                · have hdq : decide (q < r) = true := by simp; omega
                                  obtain ⟨g1, o1, e, hc1⟩ := HSr.out.at_ q (by rw [HL.out]; exact hlq)
                                  cases e
                                  obtain ⟨g2, o2, s2, c2, e, hc2, hn2⟩ := HVr.out.at_ q (by rw [HM.out]; exact hlq)
                                  cases e
                                  have hnq : (ls.getD q []).length = n := (HEq.out q hlq).trans HN0.out
                                  rw [hnq] at hc2
                                  obtain ⟨g3, o3, e, hc3⟩ := Nums.at_ hn2 k (by rw [hnq]; exact hlt)
                                  cases e
                                  have hsm2 := HSm.out k (q + 1) hlt (by omega)
                                  have hst := dotS_take ss (ls.map fun l => l.getD k 0) q (by rw [HL.out]; exact hlq) (by rw [List.length_map, HM.out]; exact hlq)
                                  rw [col_get ls k q (by rw [HM.out]; exact hlq)] at hst
                                  have hx1 := HSh.out q hlq
                                  have hx2 := HAll.out q k hlq hlt
                                  rw [hst] at hsm2
                                  have HSt2 := Lib.hid hst
                                  obtain ⟨x, hx⟩ : ∃ x, ss.getD q 0 = x := ⟨_, rfl⟩
                                  obtain ⟨y, hy⟩ : ∃ x, (ls.getD q []).getD k 0 = x := ⟨_, rfl⟩
                                  obtain ⟨S, hSS⟩ : ∃ S, dotS (ss.take q) ((ls.map fun l => l.getD k 0).take q) = S := ⟨_, rfl⟩
                                  rw [hx] at hc1 hsm2 HSt2 hx1
                                  rw [hy] at hc3 hsm2 HSt2 hx2
                                  rw [hSS] at hsm hsm2 HSt2 ⊢
                                  obtain ⟨a1, a2⟩ := hsm
                                  obtain ⟨b1, b2⟩ := hsm2
                                  have hxy := mul_small (a := x) (b := y) (A := 65536) (B := 2147483648) (by unfold isS at hx1; omega) (by unfold isN at hx2; omega)
                                  obtain ⟨p1, p2⟩ := hxy
                                  clear hx hy hSS hst hx1 hx2 hn2 hnq
                                  go_wp2
                                  have hw1 : IntKind.i64.wrap (x * y) = x * y := IntWalk.i64_in _ (by omega)
                                  have hw2 : IntKind.i64.wrap (S + x * y) = S + x * y := IntWalk.i64_in _ (by omega)
                                  go_quiet (fail)
                                  go_wp2
                                  go_roundw
                                  case rel => exact ⟨q + 1, _, by omega, by go_num, by rw [HSt2.out], rfl⟩
                                  case measure => simp [intOf]; omega
                                · obtain rfl : q = r := by omega
                                  have hdq : decide (q < q) = false := by simp
                                  have HT : Hid (dotS (ss.take q) ((ls.map fun l => l.getD k 0).take q) = mixS ss ls k) := Lib.hid (by rw [List.take_of_length_le (by rw [HL.out]; omega), List.take_of_length_le (by rw [List.length_map, HM.out]; omega)]; rfl)
                                  rw [HT.out] at hsm ⊢
                                  have HRn : Hid (rnd (mixS ss ls k) = rnd (mixS ss ls k)) := Lib.hid rfl
                                  obtain ⟨S, hSS⟩ : ∃ S, mixS ss ls k = S := ⟨_, rfl⟩
                                  rw [hSS] at hsm ⊢
                                  have HSS := Lib.hid hSS
                                  obtain ⟨a1, a2⟩ := hsm
                                  clear hSS hlq hq
                                  go_wp2_with fail
                                  refine (round_any _ S (by omega) (by omega)).mono ?_
                                  rintro e w' ⟨rfl, rfl⟩
                                  go_wp2_with fail
                                  refine (told_any _ (rnd S)).mono ?_
                                  rintro e w' ⟨rfl, rfl⟩
                                  have hin := HB.out
                                  rw [HSS.out] at hin
                                  rw [(show over (rnd S) = 17 by unfold over; rw [if_neg hin]), (show orNil (rnd S) = 0 by unfold orNil; rw [if_neg hin])]
                                  clear hin
                                  go_wp2
                                  go_ret2
                                  exact AnsE.no (below_drewN HSt.out.below _)
                            · have hk2 : k < j := by omega
                              clear hkj
                              have HVr := Lib.hid (HV.out.below HSt.out.below)
                              have HSr := Lib.hid (HS.out.below HSt.out.below)
                              go_wp2
                              go_loopw [11, 12] (fun s i wr2 => InS wr ss ls k r s i wr2) (fun _ i _ => r - (intOf i).toNat)
                              case atStart => exact ⟨0, 0, by omega, rfl, rfl, rfl⟩
                              case round =>
                                obtain ⟨q, m2, hq, rfl, rfl, rfl⟩ := hrel
                                have hsm := HSm.out k q hlt (by omega)
                                by_cases hlq : q < r
                                · have hdq : decide (q < r) = true := by simp; omega
                                  obtain ⟨g1, o1, e, hc1⟩ := HSr.out.at_ q (by rw [HL.out]; exact hlq)
                                  cases e
                                  obtain ⟨g2, o2, s2, c2, e, hc2, hn2⟩ := HVr.out.at_ q (by rw [HM.out]; exact hlq)
                                  cases e
                                  have hnq : (ls.getD q []).length = n := (HEq.out q hlq).trans HN0.out
                                  rw [hnq] at hc2
                                  obtain ⟨g3, o3, e, hc3⟩ := Nums.at_ hn2 k (by rw [hnq]; exact hlt)
                                  cases e
                                  have hsm2 := HSm.out k (q + 1) hlt (by omega)
                                  have hst := dotS_take ss (ls.map fun l => l.getD k 0) q (by rw [HL.out]; exact hlq) (by rw [List.length_map, HM.out]; exact hlq)
                                  rw [col_get ls k q (by rw [HM.out]; exact hlq)] at hst
                                  have hx1 := HSh.out q hlq
                                  have hx2 := HAll.out q k hlq hlt
                                  rw [hst] at hsm2
                                  have HSt2 := Lib.hid hst
                                  obtain ⟨x, hx⟩ : ∃ x, ss.getD q 0 = x := ⟨_, rfl⟩
                                  obtain ⟨y, hy⟩ : ∃ x, (ls.getD q []).getD k 0 = x := ⟨_, rfl⟩
                                  obtain ⟨S, hSS⟩ : ∃ S, dotS (ss.take q) ((ls.map fun l => l.getD k 0).take q) = S := ⟨_, rfl⟩
                                  rw [hx] at hc1 hsm2 HSt2 hx1
                                  rw [hy] at hc3 hsm2 HSt2 hx2
                                  rw [hSS] at hsm hsm2 HSt2 ⊢
                                  obtain ⟨a1, a2⟩ := hsm
                                  obtain ⟨b1, b2⟩ := hsm2
                                  have hxy := mul_small (a := x) (b := y) (A := 65536) (B := 2147483648) (by unfold isS at hx1; omega) (by unfold isN at hx2; omega)
                                  obtain ⟨p1, p2⟩ := hxy
                                  clear hx hy hSS hst hx1 hx2 hn2 hnq
                                  go_wp2
                                  have hw1 : IntKind.i64.wrap (x * y) = x * y := IntWalk.i64_in _ (by omega)
                                  have hw2 : IntKind.i64.wrap (S + x * y) = S + x * y := IntWalk.i64_in _ (by omega)
                                  go_quiet (fail)
                                  go_wp2
                                  go_roundw
                                  case rel => exact ⟨q + 1, _, by omega, by go_num, by rw [HSt2.out], rfl⟩
                                  case measure => simp [intOf]; omega
                                · obtain rfl : q = r := by omega
                                  have hdq : decide (q < q) = false := by simp
                                  have HT : Hid (dotS (ss.take q) ((ls.map fun l => l.getD k 0).take q) = mixS ss ls k) := Lib.hid (by rw [List.take_of_length_le (by rw [HL.out]; omega), List.take_of_length_le (by rw [List.length_map, HM.out]; omega)]; rfl)
                                  rw [HT.out] at hsm ⊢
                                  have HRn : Hid (rnd (mixS ss ls k) = rnd (mixS ss ls k)) := Lib.hid rfl
                                  obtain ⟨S, hSS⟩ : ∃ S, mixS ss ls k = S := ⟨_, rfl⟩
                                  rw [hSS] at hsm ⊢
                                  have HSS := Lib.hid hSS
                                  obtain ⟨a1, a2⟩ := hsm
                                  clear hSS hlq hq
                                  go_wp2_with fail
                                  refine (round_any _ S (by omega) (by omega)).mono ?_
                                  rintro e w' ⟨rfl, rfl⟩
                                  go_wp2_with fail
                                  refine (told_any _ (rnd S)).mono ?_
                                  rintro e w' ⟨rfl, rfl⟩
                                  have hin := HG.out k hk2
                                  rw [HSS.out] at hin
                                  rw [(show over (rnd S) = 0 by unfold over; rw [if_pos hin]), (show orNil (rnd S) = rnd S by unfold orNil; rw [if_pos hin])]
                                  have HQ : Hid (mixL ss ls (k + 1) = mixL ss ls k ++ [rnd S]) := Lib.hid (by rw [mixL_succ, HSS.out])
                                  obtain ⟨R, hR⟩ : ∃ R, rnd S = R := ⟨_, rfl⟩
                                  rw [hR] at HQ ⊢
                                  clear hR hin
                                  have HO := Lib.hid (owns_drewN HSt.out.own m2)
                                  have HB2 := Lib.hid (below_drewN HSt.out.below m2)
                                  have hsz := HB2.out.size
                                  go_wp2_with (refine wpList_push rfl (.tmp 118) (.tmp 120) rfl w.heap.size (.slice sv k cv) k (mixL ss ls k) R rfl HO.out rfl (by omega) hsz ?_; intro v2 w2 hown2 hb2; have HO2 := Lib.hid hown2; have HB3 := Lib.hid (HB2.out.trans hb2); clear hown2 hb2)
                                  go_roundw
                                  case rel => exact ⟨k + 1, by omega, by go_num, HB3.out, by rw [HQ.out]; exact HO2.out⟩
                                  case measure => simp [intOf]; omega
          · have HX : Hid (mixE ss ls = 10) := Lib.hid (by
              unfold mixE
              rw [if_neg (fun h => h HAl.out), HN1.out, if_neg HSz.out, if_neg (fun h => h HVv.out), if_pos hsh])
            have HY : Hid (mixV ss ls = []) := Lib.hid (by unfold mixV; rw [HX.out, if_neg (by omega)])
            rw [HX.out, HY.out]
            obtain ⟨j, hj, hb, hg⟩ := not_in (p := isS) hsh
            rw [hN] at hj
            have HB := Lib.hid hb
            have HG := Lib.hid hg
            clear hn HX HY hN hM hsz hsh hb hg
            go_enter Tryd.func26, Tryd.ntmps26
            go_wp2
            go_loopw [6] (fun i wr => Rd w N i wr) (fun i _ => N - (intOf i).toNat)
            case atStart => exact ⟨0, 0, by omega, rfl, rfl⟩
            case round =>
              obtain ⟨k, m, hk, rfl, rfl⟩ := hrel
              by_cases hlt : k < N
              · have hdt : decide (k < N) = true := by simp; omega
                obtain ⟨g, o, s2, c2, e, hc, hn⟩ := HV.out.at_ k (by rw [HM.out]; exact hlt)
                cases e
                obtain ⟨g0, o0, s0, c0, e, hc0, hn0⟩ := HV.out.at_ 0 (by rw [HM.out]; omega)
                cases e
                rw [Nat.add_zero] at hc0
                have hnl := hn.len
                have hnl0 := hn0.len
                clear hn hn0
                have he : (ls.getD k []).length = (ls.getD 0 []).length := HEq.out k hlt
                rw [he] at hc hnl
                obtain ⟨L0, hL0⟩ : ∃ x, (ls.getD 0 []).length = x := ⟨_, rfl⟩
                rw [hL0] at hc hc0 hnl hnl0
                have hxx : ((L0 : Int) != (L0 : Int)) = false := by simp
                have hyy : (L0 != L0) = false := by simp
                clear he hL0
                go_wp2
                go_quiet (fail)
                go_wp2
                go_roundw
                case rel => exact ⟨k + 1, _, by omega, by go_num, rfl⟩
                case measure => simp [intOf]; omega
              · obtain rfl : k = N := by omega
                have hdf : decide (k < k) = false := by simp
                clear hlt hk
                go_wp2
                go_loop [7] (fun i => ∃ q : Nat, q ≤ k ∧ i = .int .i64 q) (fun i => k - (intOf i).toNat)
                case atStart => exact ⟨0, by omega, rfl⟩
                case round =>
                  obtain ⟨q, hq, rfl⟩ := hrel
                  by_cases hlt : q < k
                  · have hdt : decide (q < k) = true := by simp; omega
                    obtain ⟨g, o, s2, c2, e, hc, hn⟩ := HV.out.at_ q (by rw [HM.out]; exact hlt)
                    cases e
                    have hnl := hn.len
                    have HNq := Lib.hid (hn.drewN m)
                    have HCk := Lib.hid (rcheck_any (w.drewN m) s2 c2 (ls.getD q []).length (ls.getD q []) rfl HNq.out)
                    rw [show chkV (ls.getD q []) = 0 from HCv.out q hlt] at HCk
                    obtain ⟨L1, hL1⟩ : ∃ x, (ls.getD q []).length = x := ⟨_, rfl⟩
                    rw [hL1] at hc hnl HCk
                    clear hL1 HNq hn
                    go_wp2_with fail
                    refine HCk.out.mono ?_
                    rintro e w' ⟨rfl, rfl⟩
                    go_wp2
                    go_round
                    case rel => exact ⟨q + 1, by omega, by go_num⟩
                    case measure => simp [intOf]; omega
                  · obtain rfl : q = k := by omega
                    have hdf : decide (q < q) = false := by simp
                    clear hlt hq
                    go_wp2
                    go_loop [8] (fun i => ∃ r : Nat, r ≤ j ∧ i = .int .i64 r) (fun i => q - (intOf i).toNat)
                    case atStart => exact ⟨0, by omega, rfl⟩
                    case round =>
                      obtain ⟨r, hr, rfl⟩ := hrel
                      have hlt : r < q := by omega
                      have hdt : decide (r < q) = true := by simp; omega
                      by_cases hkj : r = j
                      · subst hkj
                        obtain ⟨g, o, e, hc⟩ := HS.out.at_ r (by rw [HL.out]; exact hlt)
                        cases e
                        obtain ⟨x, hx⟩ : ∃ x, ss.getD r 0 = x := ⟨_, rfl⟩
                        have hxs := HB.out
                        rw [hx] at hc hxs
                        clear hx
                        by_cases h1 : x < 0
                        · have e1 : decide (x < 0) = true := by simpa using h1
                          clear hxs
                          go_wp2
                          go_ret2
                          exact AnsE.no (below_drewN (Below.refl _ _) _)
                        · have e1 : decide (x < 0) = false := by simpa using h1
                          have e2 : decide (65536 < x) = true := by
                            simp only [decide_eq_true_eq]
                            exact Int.lt_of_not_ge fun h2 => hxs ⟨by omega, by omega⟩
                          clear hxs
                          go_wp2
                          go_ret2
                          exact AnsE.no (below_drewN (Below.refl _ _) _)
                      · have hk2 : r < j := by omega
                        clear hkj
                        obtain ⟨g, o, e, hc⟩ := HS.out.at_ r (by rw [HL.out]; exact hlt)
                        cases e
                        obtain ⟨x, hx⟩ : ∃ x, ss.getD r 0 = x := ⟨_, rfl⟩
                        have hxs := HG.out r hk2
                        rw [hx] at hc hxs
                        have e1 : decide (x < 0) = false := by have := hxs.1; simp; omega
                        have e2 : decide (65536 < x) = false := by have := hxs.2; simp; omega
                        clear hx hxs
                        go_wp2
                        go_round
                        case rel => exact ⟨r + 1, by omega, by go_num⟩
                        case measure => simp [intOf]; omega
        · have HX : Hid (mixE ss ls = 10) := Lib.hid (by
            unfold mixE
            rw [if_neg (fun h => h HAl.out), HN1.out, if_neg HSz.out, if_pos hvv])
          have HY : Hid (mixV ss ls = []) := Lib.hid (by unfold mixV; rw [HX.out, if_neg (by omega)])
          rw [HX.out, HY.out]
          obtain ⟨j, hj, hb, hg⟩ := first_not (P := fun i => ∀ x ∈ ls.getD i [], isN x) N (fun h => hvv (mem_getD (P := fun l => ∀ x ∈ l, isN x) (fun i hi => h i (by omega))))
          have HB : Hid (chkV (ls.getD j []) = 10) := Lib.hid (by unfold chkV; rw [HLn.out j hj, if_neg HSz.out, if_neg hb])
          have HG : Hid (∀ i, i < j → chkV (ls.getD i []) = 0) := Lib.hid (fun i hi => by unfold chkV; rw [HLn.out i (by omega), if_neg HSz.out, if_pos (hg i hi)])
          clear hn HX HY hN hM hsz hvv hb hg
          go_enter Tryd.func26, Tryd.ntmps26
          go_wp2
          go_loopw [6] (fun i wr => Rd w N i wr) (fun i _ => N - (intOf i).toNat)
          case atStart => exact ⟨0, 0, by omega, rfl, rfl⟩
          case round =>
            obtain ⟨k, m, hk, rfl, rfl⟩ := hrel
            by_cases hlt : k < N
            · have hdt : decide (k < N) = true := by simp; omega
              obtain ⟨g, o, s2, c2, e, hc, hn⟩ := HV.out.at_ k (by rw [HM.out]; exact hlt)
              cases e
              obtain ⟨g0, o0, s0, c0, e, hc0, hn0⟩ := HV.out.at_ 0 (by rw [HM.out]; omega)
              cases e
              rw [Nat.add_zero] at hc0
              have hnl := hn.len
              have hnl0 := hn0.len
              clear hn hn0
              have he : (ls.getD k []).length = (ls.getD 0 []).length := HEq.out k hlt
              rw [he] at hc hnl
              obtain ⟨L0, hL0⟩ : ∃ x, (ls.getD 0 []).length = x := ⟨_, rfl⟩
              rw [hL0] at hc hc0 hnl hnl0
              have hxx : ((L0 : Int) != (L0 : Int)) = false := by simp
              have hyy : (L0 != L0) = false := by simp
              clear he hL0
              go_wp2
              go_quiet (fail)
              go_wp2
              go_roundw
              case rel => exact ⟨k + 1, _, by omega, by go_num, rfl⟩
              case measure => simp [intOf]; omega
            · obtain rfl : k = N := by omega
              have hdf : decide (k < k) = false := by simp
              clear hlt hk
              go_wp2
              go_loop [7] (fun i => ∃ q : Nat, q ≤ j ∧ i = .int .i64 q) (fun i => k - (intOf i).toNat)
              case atStart => exact ⟨0, by omega, rfl⟩
              case round =>
                obtain ⟨q, hq, rfl⟩ := hrel
                have hlt : q < k := by omega
                have hdt : decide (q < k) = true := by simp; omega
                by_cases hkj : q = j
                · subst hkj
                  obtain ⟨g, o, s2, c2, e, hc, hn⟩ := HV.out.at_ q (by rw [HM.out]; exact hlt)
                  cases e
                  have hnl := hn.len
                  have HNq := Lib.hid (hn.drewN m)
                  have HCk := Lib.hid (rcheck_any (w.drewN m) s2 c2 (ls.getD q []).length (ls.getD q []) rfl HNq.out)
                  rw [show chkV (ls.getD q []) = 10 from HB.out] at HCk
                  obtain ⟨L1, hL1⟩ : ∃ x, (ls.getD q []).length = x := ⟨_, rfl⟩
                  rw [hL1] at hc hnl HCk
                  clear hL1 HNq hn
                  go_wp2_with fail
                  refine HCk.out.mono ?_
                  rintro e w' ⟨rfl, rfl⟩
                  go_wp2_with fail
                  refine HCk.out.mono ?_
                  rintro e w' ⟨rfl, rfl⟩
                  go_wp2
                  go_ret2
                  exact AnsE.no (below_drewN (Below.refl _ _) _)
                · have hk2 : q < j := by omega
                  clear hkj
                  obtain ⟨g, o, s2, c2, e, hc, hn⟩ := HV.out.at_ q (by rw [HM.out]; exact hlt)
                  cases e
                  have hnl := hn.len
                  have HNq := Lib.hid (hn.drewN m)
                  have HCk := Lib.hid (rcheck_any (w.drewN m) s2 c2 (ls.getD q []).length (ls.getD q []) rfl HNq.out)
                  rw [show chkV (ls.getD q []) = 0 from HG.out q hk2] at HCk
                  obtain ⟨L1, hL1⟩ : ∃ x, (ls.getD q []).length = x := ⟨_, rfl⟩
                  rw [hL1] at hc hnl HCk
                  clear hL1 HNq hn
                  go_wp2_with fail
                  refine HCk.out.mono ?_
                  rintro e w' ⟨rfl, rfl⟩
                  go_wp2
                  go_round
                  case rel => exact ⟨q + 1, by omega, by go_num⟩
                  case measure => simp [intOf]; omega
    · have HX : Hid (mixE ss ls = 13) := Lib.hid (by
        unfold mixE
        rw [if_pos (fun h => hq (fun i hi => h.2.2.2 _ (getD_mem i (by omega))))])
      have HY : Hid (mixV ss ls = []) := Lib.hid (by unfold mixV; rw [HX.out, if_neg (by omega)])
      rw [HX.out, HY.out]
      obtain ⟨j, hj, hb, hg⟩ := first_not (P := fun i => (ls.getD i []).length = (ls.getD 0 []).length) N hq
      have HB := Lib.hid hb
      have HG := Lib.hid hg
      clear HX HY hN hM hq hb hg
      go_enter Tryd.func26, Tryd.ntmps26
      go_wp2
      go_loopw [6] (fun i wr => Rd w j i wr) (fun i _ => N - (intOf i).toNat)
      case atStart => exact ⟨0, 0, by omega, rfl, rfl⟩
      case round =>
        obtain ⟨k, m, hk, rfl, rfl⟩ := hrel
        have hlt : k < N := by omega
        have hdt : decide (k < N) = true := by simp; omega
        by_cases hkj : k = j
        · subst hkj
          obtain ⟨g, o, s2, c2, e, hc, hn⟩ := HV.out.at_ k (by rw [HM.out]; exact hlt)
          cases e
          obtain ⟨g0, o0, s0, c0, e, hc0, hn0⟩ := HV.out.at_ 0 (by rw [HM.out]; omega)
          cases e
          rw [Nat.add_zero] at hc0
          have hnl := hn.len
          have hnl0 := hn0.len
          clear hn hn0
          have he : ((ls.getD k []).length != (ls.getD 0 []).length) = true := by simpa using HB.out
          obtain ⟨L0, hL0⟩ : ∃ x, (ls.getD 0 []).length = x := ⟨_, rfl⟩
          obtain ⟨L1, hL1⟩ : ∃ x, (ls.getD k []).length = x := ⟨_, rfl⟩
          rw [hL0] at hc0 he hnl0
          rw [hL1] at hc he hnl
          have hee : ((L1 : Int) != (L0 : Int)) = true := by simp at he ⊢; omega
          clear hL0 hL1
          go_wp2
          go_quiet (fail)
          go_wp2
          go_ret2
          exact AnsE.no (below_drewN (below_drewN (Below.refl _ _) _) _)
        · have hk2 : k < j := by omega
          clear hkj
          obtain ⟨g, o, s2, c2, e, hc, hn⟩ := HV.out.at_ k (by rw [HM.out]; exact hlt)
          cases e
          obtain ⟨g0, o0, s0, c0, e, hc0, hn0⟩ := HV.out.at_ 0 (by rw [HM.out]; omega)
          cases e
          rw [Nat.add_zero] at hc0
          have hnl := hn.len
          have hnl0 := hn0.len
          clear hn hn0
          have he : (ls.getD k []).length = (ls.getD 0 []).length := by
            have := HG.out k (by omega)
            simpa using this
          rw [he] at hc hnl
          obtain ⟨L0, hL0⟩ : ∃ x, (ls.getD 0 []).length = x := ⟨_, rfl⟩
          rw [hL0] at hc hc0 hnl hnl0
          have hxx : ((L0 : Int) != (L0 : Int)) = false := by simp
          have hyy : (L0 != L0) = false := by simp
          clear he hL0
          go_wp2
          go_quiet (fail)
          go_wp2
          go_roundw
          case rel => exact ⟨k + 1, _, by omega, by go_num, rfl⟩
          case measure => simp [intOf]; omega
  · have HX : Hid (mixE ss ls = 13) := Lib.hid (by
      unfold mixE
      rw [if_pos (fun h => ho ⟨by have := h.1; omega, by have := h.2.1; omega, by have := h.2.2.1; omega⟩)])
    have HY : Hid (mixV ss ls = []) := Lib.hid (by unfold mixV; rw [HX.out, if_neg (by omega)])
    rw [HX.out, HY.out]
    have HO := Lib.hid ho
    clear HX HY hN hM ho
    by_cases k1 : M < 1
    · have e1 : decide ((M : Int) < 1) = true := by simp; omega
      go_enter Tryd.func26, Tryd.ntmps26
      go_wp2
      go_ret2
      exact AnsE.no (Below.refl _ _)
    · have e1 : decide ((M : Int) < 1) = false := by simp; omega
      by_cases k2 : 64 < M
      · have e2 : decide ((64 : Int) < (M : Int)) = true := by simp; omega
        go_enter Tryd.func26, Tryd.ntmps26
        go_wp2
        go_ret2
        exact AnsE.no (Below.refl _ _)
      · have e2 : decide ((64 : Int) < (M : Int)) = false := by simp; omega
        have hne : N ≠ M := fun h => HO.out ⟨by omega, by omega, h⟩
        have e3 : (N != M) = true := by simpa using hne
        have e4 : ((N : Int) != (M : Int)) = true := by simp; omega
        clear hne
        go_enter Tryd.func26, Tryd.ntmps26
        go_wp2
        go_ret2
        exact AnsE.no (Below.refl _ _)
end Go.Proofs.YtchjijifmjbgoaaDoor.Tn
