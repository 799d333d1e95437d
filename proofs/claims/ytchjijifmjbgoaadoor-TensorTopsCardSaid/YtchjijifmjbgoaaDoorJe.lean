import Derived.Test.YtchjijifmjbgoaaDoorJd
namespace Go.Proofs.YtchjijifmjbgoaaDoor.Tn
set_option maxRecDepth 100000
open Go.ChangeShapes Go.WideShapes Go.ChangeAt Go.RowKit Go.Proofs.YtchjijifmjbgoaaDoor.Fx Go.Proofs.YtchjijifmjbgoaaDoor.Rf

/-! ### the landed code: vectors that are gone through together -/
section
variable {α : Type} (EN : α → Value) (df : α)
/-- a slice that reads as rows of things -/
structure VecsA (w : World) (sp : Option Addr) (cap : Nat) (ls : List (List α)) : Prop where
  ex : ∃ vs : List Value, vs.length = ls.length ∧ Sl w sp cap vs ∧ ∀ i v, vs[i]? = some v → ∃ s c, v = .slice s (ls.getD i []).length c ∧ Sl w s c ((ls.getD i []).map EN)
def colA (ls : List (List α)) (i : Nat) : List α := ls.map fun l => l.getD i df
end
section
variable {α : Type} {EN : α → Value} {df : α}
theorem VecsA.at_ {w : World} {sp : Option Addr} {cap : Nat} {ls : List (List α)} (h : VecsA EN w sp cap ls) (k : Nat) (hk : k < ls.length) : ∃ c o s2 c2, sp = some ⟨c, o, none⟩ ∧ w.cell? ⟨c, o + k, none⟩ = some (.slice s2 (ls.getD k []).length c2) ∧ Sl w s2 c2 ((ls.getD k []).map EN) := by
  obtain ⟨vs, h1, h2, h3⟩ := h.ex
  obtain ⟨c, o, rfl, hl⟩ := h2.lies (by omega)
  have hv : vs[k]? = some vs[k] := List.getElem?_eq_getElem (by omega)
  obtain ⟨s2, c2, e, hb⟩ := h3 k _ hv
  have := hl k _ hv
  rw [e] at this
  exact ⟨c, o, s2, c2, rfl, this, hb⟩
theorem VecsA.below {w w' : World} {sp : Option Addr} {cap : Nat} {ls : List (List α)} (h : VecsA EN w sp cap ls) (hb : Below w.heap.size w w') : VecsA EN w' sp cap ls := by
  obtain ⟨vs, h1, h2, h3⟩ := h.ex
  exact ⟨vs, h1, h2.below (Nat.le_refl _) hb, fun i v hv => by
    obtain ⟨s, c, e, hn⟩ := h3 i v hv
    exact ⟨s, c, e, hn.below (Nat.le_refl _) hb⟩⟩
theorem Sl.atA {w : World} {sp : Option Addr} {cap : Nat} {l : List α} (h : Sl w sp cap (l.map EN)) (k : Nat) (hk : k < l.length) : ∃ c o, sp = some ⟨c, o, none⟩ ∧ w.cell? ⟨c, o + k, none⟩ = some (EN (l.getD k df)) := by
  obtain ⟨c, o, rfl, hl⟩ := h.lies (by simp; omega)
  exact ⟨c, o, rfl, hl k _ (by simp [hk])⟩
theorem colA_length (ls : List (List α)) (i : Nat) : (colA df ls i).length = ls.length := by simp [colA]
theorem colA_get (ls : List (List α)) (i k : Nat) (hk : k < ls.length) : (colA df ls i).getD k df = (ls.getD k []).getD i df := by simp [colA, List.getD_eq_getElem?_getD, hk]
theorem take_snocA (l : List α) (k : Nat) (h : k < l.length) : l.take (k + 1) = l.take k ++ [l.getD k df] := by
  have e : l.getD k df = l[k] := by simp [h]
  rw [e, List.take_succ_eq_append_getElem h]
end
theorem vecsA_of {w : World} {sp : Option Addr} {cap : Nat} {ls : List (List Int)} (h : Vecs w sp cap ls) : VecsA (Value.int .i64) w sp cap ls := by
  obtain ⟨vs, h1, h2, h3⟩ := h.ex
  exact ⟨vs, h1, h2, fun i v hv => by
    obtain ⟨s, c, e, hn⟩ := h3 i v hv
    exact ⟨s, c, e, hn⟩⟩
def firstN (E : Nat → Int) (n : Nat) : Int := firstE ((List.range n).map E)
theorem firstN_at {E : Nat → Int} {n k : Nat} (hk : k < n) (h0 : ∀ j, j < k → E j = 0) (h : E k ≠ 0) : firstN E n = E k := by
  have hg : ∀ j, j < n → ((List.range n).map E).getD j 0 = E j := fun j hj => by simp [hj]
  unfold firstN
  rw [firstE_at _ k (by simpa using hk) (fun j hj => by rw [hg j (by omega)]; exact h0 j hj) (by rw [hg k hk]; exact h), hg k hk]
theorem firstN_all {E : Nat → Int} {n : Nat} (h0 : ∀ j, j < n → E j = 0) : firstN E n = 0 := by
  unfold firstN
  refine firstE_all _ fun j hj => ?_
  have hj' : j < n := by simpa using hj
  have : ((List.range n).map E).getD j 0 = E j := by simp [hj']
  rw [this]
  exact h0 j hj'
def mkR (R : Nat → Int) (i n : Nat) : List Int := (List.range i).map R ++ List.replicate (n - i) 0
theorem mkR_length (R : Nat → Int) {i n : Nat} (h : i ≤ n) : (mkR R i n).length = n := by simp [mkR]; omega
theorem mkR_zero (R : Nat → Int) (n : Nat) : mkR R 0 n = List.replicate n 0 := by simp [mkR]
theorem mkR_all (R : Nat → Int) (n : Nat) : mkR R n n = (List.range n).map R := by simp [mkR]
theorem mkR_set (R : Nat → Int) {i n : Nat} (h : i < n) : (mkR R i n).set i (R i) = mkR R (i + 1) n := by
  unfold mkR
  obtain ⟨d, hd⟩ : ∃ d, n - i = d + 1 := ⟨n - i - 1, by omega⟩
  rw [hd, List.replicate_succ, List.set_append_right _ _ (by simp), show n - (i + 1) = d by omega, List.range_succ, List.map_append]
  simp
theorem mkR_at (R : Nat → Int) {i n : Nat} (h : i < n) : (mkR R i n).getD i 0 = 0 := by
  unfold mkR
  rw [List.getD_eq_getElem?_getD, List.getElem?_append_right (by simp)]
  simp [show 0 < n - i by omega]
/-- numbers of the call's own that are answered, and what is wrong -/
def AnsO (w : World) (l : List Int) (err : Int) (e : Ending) (w' : World) : Prop := ∃ v, e = .returned (.tuple #[v, .int .i64 err]) ∧ w'.ownsRow w.heap.size 3 1 v l.length (l.map (Value.int .i64)) ∧ Below w.heap.size w w'
theorem AnsO.ansE {w w' : World} {l : List Int} {err : Int} {e : Ending} (h : AnsO w l err e w') : AnsE w l err e w' := by
  obtain ⟨v, rfl, ho, hb⟩ := h
  obtain ⟨sp, cap, rfl, _, hn⟩ := own_nums ho
  exact ⟨sp, cap, rfl, hn, hb⟩
/-- while a thing is made of each place -/
structure TgS {α : Type} (EN : α → Value) (tN : TypeId) (w : World) (R : Nat → Int) (i n M : Nat) (hs : List α) (W : World) : Prop where
  below : Below w.heap.size w W
  made : W.ownsRow w.heap.size 3 1 (.slice (some ⟨w.heap.size, 0, none⟩) n n) n ((mkR R i n).map (Value.int .i64))
  here : W.ownsRow w.heap.size tN 1 (.slice (some ⟨w.heap.size + 1, 0, none⟩) M M) M (hs.map EN)
section
variable {α : Type} {EN : α → Value} {tN : TypeId} {w : World} {R : Nat → Int} {i n M : Nat} {hs : List α} {W : World}
theorem TgS.len (h : TgS EN tN w R i n M hs W) : hs.length = M := by have := h.here.1; simpa using this
theorem TgS.later {W' : World} (h : TgS EN tN w R i n M hs W) (hb : Below W.heap.size W W') : TgS EN tN w R i n M hs W' :=
  ⟨h.below.trans (hb.mono h.below.size), owns_below h.made hb, owns_below h.here hb⟩
theorem TgS.setHere (h : TgS EN tN w R i n M hs W) (k : Nat) (x : α) : TgS EN tN w R i n M (hs.set k x) (W.setCell ⟨w.heap.size + 1, k, none⟩ (EN x)) := by
  obtain ⟨h1, h2⟩ := h.here.stored k (EN x)
  refine ⟨h.below.trans (Below.ofGrown h2 h.below.size (fun j hj => by cases hj; omega)), h.made.kept h2 (.inr (by simp [Value.ownBlock])), ?_⟩
  rw [List.map_set]
  exact h1
theorem TgS.setMade (h : TgS EN tN w R i n M hs W) (hi : i < n) : TgS EN tN w R (i + 1) n M hs (W.setCell ⟨w.heap.size, i, none⟩ (.int .i64 (R i))) := by
  obtain ⟨h1, h2⟩ := h.made.stored i (.int .i64 (R i))
  refine ⟨h.below.trans (Below.ofGrown h2 h.below.size (fun j hj => by cases hj; omega)), ?_, h.here.kept h2 (.inr (by simp [Value.ownBlock]))⟩
  rw [← mkR_set R hi, List.map_set]
  exact h1
theorem TgS.cellHere (h : TgS EN tN w R i n M hs W) (k : Nat) (hk : k < M) : ∃ v, W.cell? ⟨w.heap.size + 1, k, none⟩ = some v := by
  have hl := h.len
  have hc := h.here.cells (g := w.heap.size + 1) rfl k (EN (hs[k]'(by omega))) (by simp [show k < hs.length by omega])
  rw [add_plain, Nat.zero_add] at hc
  exact ⟨_, hc⟩
theorem TgS.cellMade (h : TgS EN tN w R i n M hs W) (hi : i < n) : W.cell? ⟨w.heap.size, i, none⟩ = some (.int .i64 0) := by
  have hl := mkR_length R (i := i) (n := n) (by omega)
  have hc := h.made.cells (g := w.heap.size) rfl i (.int .i64 0) (by
    have := mkR_at R hi
    rw [List.getD_eq_getElem?_getD, List.getElem?_eq_getElem (by omega)] at this
    simp at this
    simp [this, show i < (mkR R i n).length by omega])
  rw [add_plain, Nat.zero_add] at hc
  exact hc
theorem TgS.slHere (h : TgS EN tN w R i n M hs W) : Sl W (some ⟨w.heap.size + 1, 0, none⟩) M (hs.map EN) := by
  obtain ⟨sp, cap, e, _, hs', _⟩ := Sl.all1 h.here
  simp only [Value.slice.injEq, true_and] at e
  obtain ⟨rfl, rfl⟩ := e
  exact hs'
theorem TgS.slMade (h : TgS EN tN w R n n M hs W) : Nums W (some ⟨w.heap.size, 0, none⟩) n ((List.range n).map R) := by
  obtain ⟨sp, cap, e, _, hs', _⟩ := Sl.all1 h.made
  simp only [Value.slice.injEq, true_and] at e
  obtain ⟨rfl, rfl⟩ := e
  rw [mkR_all] at hs'
  exact hs'
theorem TgS.made_ (w : World) (R : Nat → Int) (n M : Nat) (z : α) (X Y : Array Value) (hX : X.toList = List.replicate n (.int .i64 0)) (hY : Y.toList = List.replicate M (EN z)) (hn : n ≤ 1000000) (hM : M ≤ 1000000) : TgS EN tN w R 0 n M (List.replicate M z) ((w.alloc (.cells X 3)).alloc (.cells Y tN)) := by
  have hx : X.size = n := by rw [← Array.length_toList, hX]; simp
  have hy : Y.size = M := by rw [← Array.length_toList, hY]; simp
  have h1 := World.ownsRow_lit (base := w.heap.size) (e := 3) (size := 1) w X n (Nat.le_refl _) (by unfold maxLen; omega) (by omega)
  have h2 := World.ownsRow_lit (base := w.heap.size) (e := tN) (size := 1) (w.alloc (.cells X 3)) Y M (by simp) (by unfold maxLen; omega) (by omega)
  have hb : Below (w.alloc (.cells X 3)).heap.size (w.alloc (.cells X 3)) ((w.alloc (.cells X 3)).alloc (.cells Y tN)) := (Below.refl _ _).alloc (Nat.le_refl _) _
  refine ⟨((Below.refl _ _).alloc (Nat.le_refl _) _).alloc (by simp) _, ?_, ?_⟩
  · have := owns_below h1 hb
    rw [hX] at this
    rw [mkR_zero, List.map_replicate]
    exact this
  · rw [World.size_alloc, hY] at h2
    rw [List.map_replicate]
    exact h2
end
theorem made_list (z : Value) (n : Nat) (hz : z.cells = #[z]) : (madeCells z.cells n).toList = List.replicate n z := by rw [hz]; exact toList_madeCells_one z n
theorem info3e : (Tryd.prog.info? 3).map (fun i => (i.zero, i.size, i.bytes)) = some (some (.int .i64 0), 1, 8) := by kernel_rfl
set_option maxHeartbeats 4000000 in
theorem tog_ints (w : World) (g : FuncId) (cb : Array Value) (sq : Option Addr) (caq M n : Nat) (ls : List (List Int)) (hM : ls.length = M) (hM1 : 1 ≤ M) (hM2 : M ≤ 1000) (hn : ∀ i, i < M → (ls.getD i []).length = n) (hn2 : n ≤ 1000) (hv : VecsA (Value.int .i64) w sq caq ls) (R E : Nat → Int)
    (eg : ∀ args w, (callFunc g args).run Tryd.prog w = .ok (.enter g args) w)
    (hf : ∀ i, i < n → ∀ W b, Below w.heap.size w W → Sl W (some ⟨b, 0, none⟩) M ((colA (0 : Int) ls i).map (Value.int .i64)) → Calls Tryd.prog g (#[.slice (some ⟨b, 0, none⟩) M M] ++ cb) W fun e w' => e = .returned (.tuple #[.int .i64 (R i), .int .i64 (E i)]) ∧ Below W.heap.size W w') :
    Calls Tryd.prog 49 #[.func (.func g) #[] cb, .slice sq M caq] w (AnsO w (if firstN E n = 0 then (List.range n).map R else []) (firstN E n)) := by
  have HV := Lib.hid hv
  have HM := Lib.hid hM
  have HNn := Lib.hid hn
  have HF := Lib.hid hf
  obtain ⟨c, o, s0, c0, rfl, hc0, _⟩ := HV.out.at_ 0 (by omega)
  rw [hn 0 (by omega), Nat.add_zero] at hc0
  obtain ⟨L, hL⟩ : ∃ L, (if firstN E n = 0 then (List.range n).map R else []) = L := ⟨_, rfl⟩
  rw [hL]
  have HL := Lib.hid hL
  clear hv hM hn hf hL
  go_enter Tryd.func49, Tryd.ntmps49
  go_wp2
  go_step3
  go_wp2_with (first
    | (refine wpList_makeN 22 3 8 (.int .i64 0) Tryd.underlying22 info3 (by decide) rfl (.tmp 15) (.tmp 15) rfl n rfl rfl (by omega) ?_)
    | (refine wpList_makeN 22 3 8 (.int .i64 0) Tryd.underlying22 info3e (by decide) rfl (.tmp 18) (.tmp 18) rfl M rfl rfl (by omega) ?_))
  refine gen_world (Q := fun w => Code.wp _ _ _ _ w) _ (TgS (Value.int .i64) 3 w R 0 n M (List.replicate M (0 : Int))) (by
    have := TgS.made_ (EN := (Value.int .i64)) (tN := 3) w R n M (0 : Int) (madeCells (Value.int .i64 0).cells n) (madeCells ((.int .i64 0) : Value).cells M) (made_list _ _ rfl) (made_list _ _ rfl) (by omega) (by omega)
    exact this) ?_
  intro W hW
  have HW := Lib.hid hW
  clear hW hc0
  go_step3
  go_wp2
  go_loopw [6, 8, 22] (fun md e t wr => ∃ (i : Nat) (hs : List Int), i ≤ n ∧ md = .slice (some ⟨w.heap.size, 0, none⟩) n n ∧ t = .int .i64 i ∧ e = .int .i64 0 ∧ (∀ j, j < i → E j = 0) ∧ TgS (Value.int .i64) 3 w R i n M hs wr) (fun _ _ t _ => n - (intOf t).toNat)
  case atStart => exact ⟨0, _, by omega, rfl, rfl, rfl, fun j hj => absurd hj (by omega), HW.out⟩
  case round =>
    obtain ⟨i, hs0, hi, rfl, rfl, rfl, hE, hS⟩ := hrel
    have HE := Lib.hid hE
    have HS := Lib.hid hS
    clear hE hS HW
    by_cases hlt : i < n
    · have hdt : decide (i < n) = true := by simp; omega
      go_wp2
      go_loopw [27] (fun t wr => ∃ (k : Nat) (hs : List Int), k ≤ M ∧ t = .int .i64 k ∧ hs.take k = (colA (0 : Int) ls i).take k ∧ TgS (Value.int .i64) 3 w R i n M hs wr) (fun t _ => M - (intOf t).toNat)
      case atStart => exact ⟨0, hs0, by omega, rfl, rfl, HS.out⟩
      case round =>
        clear HS
        obtain ⟨k, hs, hk, rfl, hT, hS⟩ := hrel
        have HS := Lib.hid hS
        have HT := Lib.hid hT
        clear hS hT
        by_cases hlt2 : k < M
        · have hdt2 : decide (k < M) = true := by simp; omega
          have hV := HV.out.below HS.out.below
          obtain ⟨c', o', s2, c2, e, hc, hb⟩ := hV.at_ k (by rw [HM.out]; exact hlt2)
          cases e
          rw [HNn.out k hlt2] at hc
          obtain ⟨c3, o3, rfl, hx⟩ := Sl.atA (df := (0 : Int)) hb i (by rw [HNn.out k hlt2]; exact hlt)
          have hcol := colA_get (df := (0 : Int)) ls i k (by rw [HM.out]; exact hlt2)
          obtain ⟨v0, hv0⟩ := HS.out.cellHere k hlt2
          have hfz := HS.out.here.frozenAt k
          have HN2 := Lib.hid (fun x => HS.out.setHere k x)
          have hlen := HS.out.len
          have HT2 : Hid (∀ x, x = (colA (0 : Int) ls i).getD k (0 : Int) → (hs.set k x).take (k + 1) = (colA (0 : Int) ls i).take (k + 1)) := Lib.hid (fun x hxx => by
            rw [take_snocA (df := (0 : Int)) (colA (0 : Int) ls i) k (by rw [colA_length, HM.out]; exact hlt2), take_snocA (df := (0 : Int)) (hs.set k x) k (by rw [List.length_set]; omega), List.take_set_of_le (Nat.le_refl _), HT.out, ← hxx]
            congr 2
            simp [List.getD_eq_getElem?_getD, show k < hs.length by omega])
          rw [← hcol] at hx
          obtain ⟨x, hxe⟩ : ∃ x, (colA (0 : Int) ls i).getD k (0 : Int) = x := ⟨_, rfl⟩
          rw [hxe] at hx HT2
          have HT3 := Lib.hid (HT2.out x rfl)
          have HN3 := Lib.hid (HN2.out x)
          skip
          clear hV hb hcol hxe HT2 HN2 hlen
          go_wp2
          clear hc hx hv0 hfz
          go_roundw
          case rel => exact ⟨k + 1, _, by omega, by go_num, HT3.out, HN3.out⟩
          case measure => simp [intOf]; omega
        · obtain rfl : k = M := by omega
          have hdf : decide (k < k) = false := by simp
          have hcol : hs = colA (0 : Int) ls i := by
            have := HT.out
            rwa [List.take_of_length_le (by rw [HS.out.len]; exact Nat.le_refl _), List.take_of_length_le (by rw [colA_length, HM.out]; exact Nat.le_refl _)] at this
          subst hcol
          have HC := Lib.hid (HF.out i hlt wr (w.heap.size + 1) HS.out.below HS.out.slHere)
          go_wp2_with fail
          refine HC.out.mono ?_
          rintro e w1 ⟨rfl, hb1⟩
          have HS1 := Lib.hid (HS.out.later hb1)
          have hcm := HS1.out.cellMade hlt
          have hfz := HS1.out.made.frozenAt i
          have HS2 := Lib.hid (HS1.out.setMade hlt)
          clear hb1
          by_cases hEi : E i = 0
          · have HE2 : Hid (∀ j, j < i + 1 → E j = 0) := Lib.hid (fun j hj => by
              rcases Nat.lt_or_ge j i with h | h
              · exact HE.out j h
              · obtain rfl : j = i := by omega
                exact hEi)
            rw [hEi]
            obtain ⟨r, hr⟩ : ∃ r, R i = r := ⟨_, rfl⟩
            rw [hr] at HS2 ⊢
            clear hEi hr
            go_wp2
            clear hcm hfz
            go_roundw
            case rel => exact ⟨i + 1, _, by omega, rfl, by go_num, rfl, HE2.out, HS2.out⟩
            case measure => simp [intOf]; omega
          · have hne := ne0 hEi
            have HX := Lib.hid (firstN_at hlt HE.out hEi)
            have HL0 : Hid ([] = L) := Lib.hid (by have := HL.out; rwa [if_neg (by rw [HX.out]; exact hEi)] at this)
            obtain ⟨x, hx⟩ : ∃ x, E i = x := ⟨_, rfl⟩
            have HQ := Lib.hid hx
            rw [hx] at hne ⊢
            obtain ⟨r, hr⟩ : ∃ r, R i = r := ⟨_, rfl⟩
            rw [hr] at HS2 ⊢
            clear hEi hx hr
            go_wp2
            clear hcm hfz
            rw [Exit.noGoto_ret]
            go_ret2
            rw [← HL0.out, HX.out, HQ.out]
            exact ⟨_, rfl, World.ownsRow_nil _ _ _ _, HS2.out.below⟩
    · obtain rfl : i = n := by omega
      have hdf : decide (i < i) = false := by simp
      have HX := Lib.hid (firstN_all HE.out)
      have HL0 : Hid ((List.range i).map R = L) := Lib.hid (by have := HL.out; rwa [if_pos HX.out] at this)
      go_wp2
      rw [Exit.noGoto_ret]
      go_ret2
      rw [← HL0.out, HX.out]
      exact ⟨_, rfl, by have := HS.out.made; rw [mkR_all] at this; simpa using this, HS.out.below⟩
end Go.Proofs.YtchjijifmjbgoaaDoor.Tn
