import Derived.Test.YtkfkjapkcjidnaaRe
import Derived.Test.YtkfkjapkcjidnaaRf
import Derived.Deep.DeepCutAuto
namespace Go.Proofs.Ytkfkjapkcjidnaa.Wg
set_option maxRecDepth 100000
open Go.ChangeShapes Go.WideShapes Go.ChangeAt Go.RowKit Go.Shelf Go.Proofs.Ytkfkjapkcjidnaa.Tn
attribute [local go_sem] Oper.semAt_some

/-! ### Parse of any bytes -/
def zeroM : Md := ⟨⟨0, 0, 0, 0, 0, 0⟩, [], [], ⟨0, 0, []⟩, 0, fun _ _ => ⟨0, 0, []⟩, [], ⟨0, 0, []⟩⟩
theorem zero_ok (W : World) : WvOK W zeroW zeroM :=
  ⟨rfl, ⟨Sl.nil W, fun x hx => by cases hx⟩, rfl, ⟨Nat.le_refl _, by decide, fun _ => rfl, fun h => absurd h (by decide)⟩, rfl, rfl, rfl, Nums.nil W, rfl, fun h => absurd h (by decide), rfl, ⟨Nat.le_refl _, by decide⟩, Nums.nil W, rfl, rfl, rfl, Nums.nil W, rfl⟩
def ParseU (w : World) (l : List Int) (e : Ending) (w' : World) : Prop := ∃ (u : Wv) (M : Md) (E : Int), e = .returned (.tuple #[.agg u.cells, .int .i64 E]) ∧ WvOK w' u M ∧ Below w.heap.size w w' ∧ ((E ≠ 0 ∧ u = zeroW ∧ M = zeroM ∧ ∀ M', Parsed l M' → M'.chk ≠ 0) ∨ (E = 0 ∧ Parsed l M ∧ M.chk = 0 ∧ M.al.length ≤ 1000 ∧ M.ps.length ≤ 400))
/-- a first leaf of not too many letters and pairs -/
def GoodH (h : List Int) : Prop := ∀ cv al ps, HeadIs h cv al ps → al.length ≤ 1000 ∧ ps.length ≤ 400
theorem good_short {h : List Int} (hh : h.length ≤ 1000) : GoodH h := fun cv al ps ⟨a, p, P, h1, h2, h3, h4, h5, h6⟩ => by
  have k1 := piece_le (ps := [a, al, p]) (p := al) (by simp)
  have k2 := piece_le (ps := [a, al, p]) (p := p) (by simp)
  rw [h2] at k1 k2
  refine ⟨by omega, ?_⟩
  rw [h6, prsOf_length]
  omega
theorem parse_any (w : World) (sp : Option Addr) (cap n : Nat) (l : List Int) (hm : l.length = n) (hb : Cd.Bytes w sp cap l) (hml : n ≤ 1000000) (hg : ∀ h ls, Cd.small (h :: ls) → Cd.join (h :: ls) = l → h.length ≤ 100000 ∧ (∀ p ∈ ls, p.length ≤ 100000) ∧ GoodH h) :
    Calls Try.prog 11 #[.slice sp n cap] w (ParseU w l) := by
  have zero : ∀ {e : Ending} {w' : World} {E : Int}, E ≠ 0 → (∀ M', Parsed l M' → M'.chk ≠ 0) → e = .returned (.tuple #[.agg zeroC, .int .i64 E]) → Below w.heap.size w w' → ParseU w l e w' := fun hE hno h1 h2 => ⟨zeroW, zeroM, _, by rw [zeroW_cells]; exact h1, zero_ok _, h2, Or.inl ⟨hE, rfl, rfl, hno⟩⟩
  by_cases hn : ∃ ps, Cd.small ps ∧ Cd.join ps = l
  · obtain ⟨ps, hs, hj⟩ := hn
    cases ps with
    | nil =>
      refine (parse_no1 w sp cap n l hm hb hml hj).mono fun e w' ⟨h1, h2⟩ => zero (by decide) (fun M' ⟨h, ls, k1, k2, _⟩ => ?_) h1 h2
      have := join_one hs k1 (hj.trans k2.symm)
      cases this
    | cons h ls =>
      obtain ⟨g1, g2, g3⟩ := hg h ls hs hj
      by_cases hh : ∃ cv al ps, HeadIs h cv al ps
      · obtain ⟨cv, al, ps, hy⟩ := hh
        obtain ⟨g4, g5⟩ := g3 cv al ps hy
        have uniq : ∀ M', Parsed l M' → ReadOK cv ls ∧ M' = mdR cv al ps ls := fun M' ⟨h', ls', k1, k2, k3, k4, k5⟩ => by
          have e := join_one hs k1 (hj.trans k2.symm)
          injection e with e1 e2
          subst e1 e2
          obtain ⟨q1, q2, q3⟩ := hy.one k3
          rw [← q1] at k4
          rw [← q1, ← q2, ← q3] at k5
          exact ⟨k4, k5⟩
        by_cases hok : ReadOK cv ls
        · by_cases hE : (mdR cv al ps ls).chk = 0
          · exact (parse_ok w sp cap n l hm hb hml h ls hs hj g1 cv al ps hy g2 hok g4 g5 hE).mono fun e w' ⟨v, n2, β, h1, h2, _, _, _, _, h3⟩ => ⟨v, _, 0, h1, h2, h3, Or.inr ⟨rfl, ⟨h, ls, hs, hj, hy, hok, rfl⟩, hE, g4, g5⟩⟩
          · exact (parse_chk w sp cap n l hm hb hml h ls hs hj g1 cv al ps hy g2 hok g4 g5 _ rfl hE).mono fun e w' ⟨h1, h2⟩ => zero hE (fun M' hM => by rw [(uniq M' hM).2]; exact hE) h1 h2
        · exact (parse_noR w sp cap n l hm hb hml h ls hs hj g1 cv al ps hy g2 hok).mono fun e w' ⟨h1, h2⟩ => zero (by decide) (fun M' hM => absurd (uniq M' hM).1 hok) h1 h2
      · refine (parse_noH w sp cap n l hm hb hml h ls hs hj g1 (fun cv al ps hy => hh ⟨cv, al, ps, hy⟩)).mono fun e w' ⟨h1, h2⟩ => zero (by decide) (fun M' ⟨h', ls', k1, k2, k3, _⟩ => ?_) h1 h2
        have e := join_one hs k1 (hj.trans k2.symm)
        injection e with e1 e2
        subst e1
        exact absurd ⟨_, _, _, k3⟩ hh
  · exact (parse_no0 w sp cap n l hm hb hml (fun ps h1 h2 => hn ⟨ps, h1, h2⟩)).mono fun e w' ⟨h1, h2⟩ => zero (by decide) (fun M' ⟨h', ls', k1, k2, _⟩ => absurd ⟨_, k1, k2⟩ hn) h1 h2
/-- pieces whose bytes begin the bytes of others are the first ones of these -/
theorem join_prefix : ∀ (qs ps : List (List Int)) (k : Nat), Cd.small ps → Cd.small qs → Cd.join qs = (Cd.join ps).take k → ∀ q ∈ qs, q ∈ ps
  | [], _, _, _, _, _ => fun q hq => by cases hq
  | q :: qs, [], k, _, _, h => by
    rw [Cd.join_cons] at h
    have := congrArg List.length h
    simp [Cd.join, Cd.be_length] at this
  | q :: qs, p :: ps, k, hp, hq, h => by
    rw [Cd.join_cons, Cd.join_cons] at h
    have hlen := congrArg List.length h
    simp only [List.length_append, List.length_take, Cd.be_length] at hlen
    have h4 : (4 : Nat) ≤ k := by omega
    have e4 := congrArg (List.take 4) h
    rw [List.take_take, show min 4 k = 4 by omega, List.take_left' (Cd.be_length 4 _), List.take_left' (Cd.be_length 4 _)] at e4
    have el : q.length = p.length := Cd.be4_inj (hq q (by simp)) (hp p (by simp)) e4
    have ed := congrArg (List.drop 4) h
    rw [List.drop_take, List.drop_left' (Cd.be_length 4 _), List.drop_left' (Cd.be_length 4 _)] at ed
    have hk : q.length ≤ k - 4 := by omega
    have eq : q = p := by
      have e5 := congrArg (List.take q.length) ed
      rw [List.take_take, show min q.length (k - 4) = q.length by omega, List.take_left' rfl, el, List.take_left' rfl] at e5
      exact e5
    have er : Cd.join qs = (Cd.join ps).take (k - 4 - q.length) := by
      have e6 := congrArg (List.drop q.length) ed
      rw [List.drop_take, List.drop_left' rfl] at e6
      rw [show q.length = p.length from el, List.drop_left' rfl] at e6
      rw [el]
      exact e6
    intro x hx
    rcases List.mem_cons.1 hx with rfl | hx
    · rw [eq]; simp
    · exact List.mem_cons_of_mem _ (join_prefix qs ps _ (fun l hl => hp l (by simp [hl])) (fun l hl => hq l (by simp [hl])) er x hx)
/-! ### no model -/
theorem run_buildW0 (W : World) : (Instr.build 31 #[]).run Try.prog W = .ok (.agg zeroW.cells) W := by kernel_rfl
theorem exec_buildW0 {a : Act} {o : Oper} {W : World} (ho : o.op = .build 31 #[]) : (execOp a.eval o).run Try.prog W = .ok (.value (.agg zeroW.cells)) W := by
  unfold execOp
  simp [ho, run_buildW0]
theorem none_any (w : World) : Calls Try.prog 12 #[.agg zeroW.cells] w fun e w' => e = .returned (.bool true) ∧ Below w.heap.size w w' := by
  have HX0 := Lib.hid (FwI.new w zeroW)
  have HS := Lib.hid (fun W => same_yes W zeroW zeroW zeroM zeroM (zero_ok W) (zero_ok W) ⟨rfl, rfl, rfl, rfl, fun _ _ _ => ⟨rfl, fun _ => ⟨rfl, rfl⟩⟩⟩ (by decide) (by decide))
  go_enter Try.func12, Try.ntmps12
  go_upto_region 1 with fail
  refine gen_w (Q := fun w => Code.wp _ _ _ _ w) _ (FwI w zeroW) HX0.out ?_
  clear HX0
  intro w1 hx
  have HX := Lib.hid hx
  clear hx
  go_wp2_with (first
    | (refine wpList_load_row rfl 31 (.tmp 1) rfl w.heap.size rfl 31 zeroW.cells (0, 0) _ HX.out.row Try.underlying31 rfl size_wts ?_)
    | (refine wpList_exec rfl (.agg zeroW.cells) (exec_buildW0 rfl) ?_)
    | (go_at_call 19; refine (HS.out w1).mono ?_; rintro e w2 ⟨rfl, hb2⟩; have HX2 := Lib.hid (HX.out.later hb2); clear hb2))
  go_ret
  exact ⟨rfl, HX2.out.below⟩
/-! ### a model's bytes, turned -/
def turnF (LD : List (List Int)) (at_ : Int) (leaf : List Int) (aw : Bool) (i : Nat) : List (List Int) := if (i : Int) ≠ at_ then [LD.getD i []] else if aw then [] else [leaf]
def turnL (LD : List (List Int)) (at_ : Int) (leaf : List Int) (aw : Bool) (j : Nat) : List (List Int) := (List.range j).flatMap (turnF LD at_ leaf aw)
theorem turnL_succ (LD : List (List Int)) (at_ : Int) (leaf : List Int) (aw : Bool) (j : Nat) : turnL LD at_ leaf aw (j + 1) = turnL LD at_ leaf aw j ++ turnF LD at_ leaf aw j := by simp [turnL, List.range_succ]
theorem turnL_mem {LD : List (List Int)} {at_ : Int} {leaf : List Int} {aw : Bool} {j : Nat} (hj : j ≤ LD.length) {p : List Int} (h : p ∈ turnL LD at_ leaf aw j) : p ∈ LD ∨ p = leaf := by
  unfold turnL at h
  obtain ⟨i, hi, hp⟩ := List.mem_flatMap.1 h
  have hi := List.mem_range.1 hi
  unfold turnF at hp
  split at hp
  · rw [List.mem_singleton] at hp
    rw [hp, List.getD_eq_getElem?_getD, List.getElem?_eq_getElem (by omega)]
    exact Or.inl (List.getElem_mem _)
  · split at hp
    · cases hp
    · exact Or.inr (List.mem_singleton.1 hp)
theorem turnL_len (LD : List (List Int)) (at_ : Int) (leaf : List Int) (aw : Bool) (j : Nat) : (turnL LD at_ leaf aw j).length ≤ j := by
  induction j with
  | zero => simp [turnL]
  | succ j ih =>
    rw [turnL_succ, List.length_append]
    have : (turnF LD at_ leaf aw j).length ≤ 1 := by unfold turnF; split; · simp
                                                     split <;> simp
    omega
theorem turnL_join (LD : List (List Int)) (at_ : Int) (leaf : List Int) (aw : Bool) (j : Nat) (hj : j ≤ LD.length) : (Cd.join (turnL LD at_ leaf aw j)).length ≤ (Cd.join (LD.take j)).length + (if at_ < (j : Int) then leaf.length + 4 else 0) := by
  induction j with
  | zero => simp [turnL]
  | succ j ih =>
    have h := ih (by omega)
    rw [turnL_succ, Cd.join_append, List.length_append, List.take_add_one, List.getElem?_eq_getElem (by omega), Option.toList_some, Cd.join_append, List.length_append]
    unfold turnF
    have e1 : (Cd.join [LD.getD j []]).length = (Cd.join [LD[j]]).length := by rw [List.getD_eq_getElem?_getD, List.getElem?_eq_getElem (by omega)]; rfl
    by_cases ha : (j : Int) = at_
    · rw [if_neg (fun h9 => h9 ha)]
      rw [if_neg (show ¬ at_ < (j : Int) by omega)] at h
      have e2 : (Cd.join (if aw = true then [] else [leaf])).length ≤ leaf.length + 4 := by
        split
        · simp [Cd.join]
        · rw [Cd.join_cons]
          simp only [List.length_append, Cd.be_length]
          have : (Cd.join []).length = 0 := rfl
          omega
      rw [if_pos (show at_ < ((j + 1 : Nat) : Int) by omega)]
      omega
    · rw [if_pos ha, e1]
      by_cases hb : at_ < (j : Int)
      · rw [if_pos hb] at h; rw [if_pos (by omega)]; omega
      · rw [if_neg hb] at h; rw [if_neg (by omega)]; omega
theorem turnL_same {LD : List (List Int)} {at_ : Int} {leaf : List Int} {aw : Bool} (h : at_ < 0 ∨ (LD.length : Int) ≤ at_) : turnL LD at_ leaf aw LD.length = LD := by
  have : ∀ j, j ≤ LD.length → turnL LD at_ leaf aw j = LD.take j := fun j => by
    induction j with
    | zero => intro _; simp [turnL]
    | succ j ih =>
      intro hj
      rw [turnL_succ, ih (by omega), List.take_add_one, List.getElem?_eq_getElem (by omega)]
      unfold turnF
      rw [if_pos (by omega), List.getD_eq_getElem?_getD, List.getElem?_eq_getElem (by omega)]
      rfl
  rw [this _ (Nat.le_refl _), List.take_length]
/-- the bytes of pieces, so many of which are cut -/
def cutB (b : List Int) (cu : Int) : List Int := if cu < 0 ∨ (b.length : Int) < cu then b else b.take (b.length - cu.toNat)
theorem cutB_take (b : List Int) (cu : Int) : ∃ k, cutB b cu = b.take k := by
  unfold cutB
  split
  · exact ⟨b.length, by rw [List.take_length]⟩
  · exact ⟨_, rfl⟩
theorem bytes_take {W : World} {sp : Option Addr} {cap : Nat} {b : List Int} (h : Cd.Bytes W sp cap b) (k : Nat) : Cd.Bytes W sp cap (b.take k) := by
  refine ⟨⟨?_, h.sl.max, h.sl.nul, fun h0 => ?_⟩, fun x hx => h.rng x (List.mem_of_mem_take hx)⟩
  · have := h.sl.le
    simp only [List.length_map, List.length_take] at this ⊢
    omega
  · simp only [List.length_map, List.length_take] at h0
    obtain ⟨c, o, e, hl⟩ := h.sl.lies (by simp only [List.length_map]; omega)
    refine ⟨c, o, e, fun i v hv => hl i v ?_⟩
    rw [List.map_take, List.getElem?_take] at hv
    split at hv
    · exact hv
    · cases hv
theorem run_headU (sp : Option Addr) (m cap k : Nat) (hk : k ≤ cap) (w : World) : (Instr.slice 24 (.slice sp m cap) none (some (.int .i64 (k : Int))) none).run Try.prog w = .ok (.slice sp k cap) w := by
  cases hq : Try.prog.info? 5 with
  | none => have := Cd.size5; simp [hq] at this
  | some i =>
    have hi : i.size = 1 := by have := Cd.size5; simpa [hq] using this
    have hadd : sp.map (fun x => x.add 0) = sp := by
      rcases sp with _ | ⟨b, o, s⟩
      · rfl
      · cases s <;> rfl
    simp only [Instr.slice, run_underlying Try.underlying24, Instr.sliceBounds, Instr.sliceBound, asIntOf, sizeOf, typeInfo, Sem.run_bind, Result.andThen_ok, Sem.run_pure, Sem.run_ite]
    simp [hq, hi, hk, hadd]
structure TrI (w : World) (at_ : Int) (st : Option Addr) (nt ct : Nat) (aw : Bool) (cu : Int) (W : World) : Prop where
  below : Below w.heap.size w W
  row : W.heap[w.heap.size]? = some (.cells #[.int .i64 at_, .slice st nt ct, .bool aw, .int .i64 cu] 33 (0, 0))
section
variable {w W W' : World} {at_ cu : Int} {st : Option Addr} {nt ct : Nat} {aw : Bool}
theorem TrI.later (h : TrI w at_ st nt ct aw cu W) (hb : Below W.heap.size W W') : TrI w at_ st nt ct aw cu W' := ⟨h.below.trans (hb.mono h.below.size), (hb.block _ (Array.getElem?_eq_some_iff.1 h.row).1).trans h.row⟩
theorem TrI.new (w : World) (at_ : Int) (st : Option Addr) (nt ct : Nat) (aw : Bool) (cu : Int) : TrI w at_ st nt ct aw cu (w.alloc (.cells #[.int .i64 at_, .slice st nt ct, .bool aw, .int .i64 cu] 33)) := ⟨(Below.refl _ _).alloc (Nat.le_refl _) _, heap_alloc_new _ _⟩
theorem TrI.cell (h : TrI w at_ st nt ct aw cu W) (j : Nat) : W.cell? ⟨w.heap.size, j, none⟩ = (#[.int .i64 at_, .slice st nt ct, .bool aw, .int .i64 cu] : Array Value)[j]? := by rw [cell_of_row _ _ _ _ _ _ h.row]
end
set_option maxHeartbeats 8000000 in
theorem turned_any (w : World) (sL : Option Addr) (capL LN : Nat) (LD : List (List Int)) (hP : Cd.Pieces w sL capL LD) (hLN : LD.length = LN) (hLn : LN ≤ 3000) (at_ : Int) (st : Option Addr) (nt ct : Nat) (leaf : List Int) (hL : Cd.Bytes w st ct leaf) (hnt : leaf.length = nt) (aw : Bool) (cu : Int) (hj : (Cd.join LD).length + leaf.length + 4 ≤ 990000) :
    Calls Try.prog 9 #[.slice sL LN capL, .agg #[.int .i64 at_, .slice st nt ct, .bool aw, .int .i64 cu]] w fun e w' => ∃ sp cap, e = .returned (.slice sp (cutB (Cd.join (turnL LD at_ leaf aw LN)) cu).length cap) ∧ Cd.Bytes w' sp cap (cutB (Cd.join (turnL LD at_ leaf aw LN)) cu) ∧ Below w.heap.size w w' := by
  have HX0 := Lib.hid (TrI.new w at_ st nt ct aw cu)
  have HP := Lib.hid hP
  have HLN := Lib.hid hLN
  have HLb := Lib.hid hLn
  have HL := Lib.hid hL
  have HNt := Lib.hid hnt
  have HJ : Hid ((Cd.join (turnL LD at_ leaf aw LN)).length ≤ 990000) := Lib.hid (by
    have h1 := turnL_join LD at_ leaf aw LN (by omega)
    rw [← hLN, List.take_length, hLN] at h1
    split at h1 <;> omega)
  clear hP hLN hLn hL hnt hj
  go_enter Try.func9, Try.ntmps9
  go_upto_region 1 with fail
  refine gen_w (Q := fun w => Code.wp _ _ _ _ w) _ (TrI w at_ st nt ct aw cu) HX0.out ?_
  clear HX0
  intro w1 hx
  have HX1 := Lib.hid hx
  clear hx
  have HBg : Hid (w.heap.size + 1 ≤ w1.heap.size) := Lib.hid (Array.getElem?_eq_some_iff.1 HX1.out.row).1
  go_wp2
  go_loopw [5, 6] (fun ov iv wr => ∃ i : Nat, i ≤ LN ∧ iv = .int .i64 (i : Int) ∧ LvG w.heap.size (w.heap.size + 1) ov (turnL LD at_ leaf aw i) wr ∧ TrI w at_ st nt ct aw cu wr) (fun _ iv _ => LN - (intOf iv).toNat)
  case atStart => exact ⟨0, by omega, rfl, LvG.nil _ HBg.out, HX1.out⟩
  case round =>
  obtain ⟨i, hi, rfl, hlv, hx⟩ := hrel
  have HLv := Lib.hid hlv
  have HX := Lib.hid hx
  clear hlv hx HX1
  have c0 : wr.cell? ⟨w.heap.size, 0, none⟩ = some (.int .i64 at_) := HX.out.cell 0
  have c1 : wr.cell? ⟨w.heap.size, 1, none⟩ = some (.slice st nt ct) := HX.out.cell 1
  have c2 : wr.cell? ⟨w.heap.size, 2, none⟩ = some (.bool aw) := HX.out.cell 2
  by_cases hlt : i < LN
  · have d1 : decide (i < LN) = true := by simpa using hlt
    have d2 : decide ((i : Int) < (LN : Int)) = true := by simp; omega
    have hw5 : IntKind.i64.wrap ((i : Int) + 1) = (i : Int) + 1 := IntWalk.i64_in _ (by have := HLb.out; omega)
    have HLt := Lib.hid hlt
    have HTl : Hid ((turnL LD at_ leaf aw i).length ≤ 3000) := Lib.hid (by have := turnL_len LD at_ leaf aw i; have := HLb.out; omega)
    by_cases hat : (i : Int) = at_
    · have e1 : ((i : Int) != at_) = false := by rw [hat]; simp
      have HFt : Hid (turnF LD at_ leaf aw i = if aw then [] else [leaf]) := Lib.hid (by unfold turnF; rw [if_neg (by omega)])
      clear hlt hi hat
      cases aw with
      | true =>
        go_wp2
        go_roundw
        case rel => exact ⟨i + 1, by have := HLt.out; omega, by go_num, by rw [turnL_succ, HFt.out]; simpa using HLv.out, HX.out⟩
        case measure => simp [intOf]; have := HLt.out; omega
      | false =>
        have hu : PcT w.heap.size w (.slice st nt ct) leaf := by have h9 := PcT.old HL.out; rw [HNt.out] at h9; exact h9
        have HU := Lib.hid (hu.later (W' := wr) (by exact HX.out.below))
        clear hu
        go_wp2_with (refine wpList_push_lvg rfl (.tmp 28) (.tmp 31) rfl w.heap.size (w.heap.size + 1) (by omega) _ (turnL LD at_ leaf false i) [leaf] [.slice st nt ct] rfl (HLv.out.later ((Below.refl wr.heap.size wr).alloc (Nat.le_refl _) _)) (some ⟨wr.heap.size, 0, none⟩) 1 1 rfl rfl rfl (Sl.new wr _ _ 24 (0, 0) rfl (by simp)) (fun j u hj => by
          rcases j with _ | j
          · obtain rfl : .slice st nt ct = u := by simpa using hj
            exact HU.out.later ((Below.refl wr.heap.size wr).alloc (Nat.le_refl _) _)
          · simp at hj) (by have := HTl.out; omega) ?_; intro v4 w4 hl4 hg4; have HL4 := Lib.hid hl4; have hb4 := ((HLv.out.later ((Below.refl wr.heap.size wr).alloc (Nat.le_refl _) (.cells #[.slice st nt ct] 24))).lv (by omega)).below hg4; have HX4 : Hid (TrI w at_ st nt ct false cu w4) := Lib.hid ⟨(HX.out.later ((Below.refl wr.heap.size wr).alloc (Nat.le_refl _) _)).below.trans (hb4.mono (by omega)), (hb4.block _ (by omega)).trans (HX.out.later ((Below.refl wr.heap.size wr).alloc (Nat.le_refl _) _)).row⟩; clear hl4 hg4 hb4)
        go_roundw
        case rel => exact ⟨i + 1, by have := HLt.out; omega, by go_num, by rw [turnL_succ, HFt.out]; exact HL4.out, HX4.out⟩
        case measure => simp [intOf]; have := HLt.out; omega
    · have e1 : ((i : Int) != at_) = true := by rw [bne_iff_ne]; exact hat
      have HFt : Hid (turnF LD at_ leaf aw i = [LD.getD i []]) := Lib.hid (by unfold turnF; rw [if_pos hat])
      obtain ⟨cc, oo, s2, c2', e, hcell, hby⟩ := HP.out.at_ i (by rw [HLN.out]; exact hlt)
      obtain ⟨p, hp⟩ : ∃ p, LD.getD i [] = p := ⟨_, rfl⟩
      rw [hp] at HFt hcell hby
      obtain ⟨np, hnp⟩ : ∃ np, p.length = np := ⟨_, rfl⟩
      have hu : PcT w.heap.size w (.slice s2 np c2') p := by have h9 := PcT.old hby; rw [hnp] at h9; exact h9
      rw [hnp] at hcell
      have hcr : wr.cell? ⟨cc, oo + i, none⟩ = some (.slice s2 np c2') := (HX.out.below.cell (block_lt_of_cell hcell)).trans hcell
      have HU := Lib.hid (hu.later (W' := wr) (by exact HX.out.below))
      subst e
      clear hlt hi hat hu hcell hby hp hnp
      go_wp2_with (refine wpList_push_lvg rfl (.tmp 18) (.tmp 23) rfl w.heap.size (w.heap.size + 1) (by omega) _ (turnL LD at_ leaf aw i) [p] [.slice s2 np c2'] rfl (HLv.out.later ((Below.refl wr.heap.size wr).alloc (Nat.le_refl _) _)) (some ⟨wr.heap.size, 0, none⟩) 1 1 rfl rfl rfl (Sl.new wr _ _ 24 (0, 0) rfl (by simp)) (fun j u hj => by
          rcases j with _ | j
          · obtain rfl : .slice s2 np c2' = u := by simpa using hj
            exact HU.out.later ((Below.refl wr.heap.size wr).alloc (Nat.le_refl _) _)
          · simp at hj) (by have := HTl.out; omega) ?_; intro v4 w4 hl4 hg4; have HL4 := Lib.hid hl4; have hb4 := ((HLv.out.later ((Below.refl wr.heap.size wr).alloc (Nat.le_refl _) (.cells #[.slice s2 np c2'] 24))).lv (by omega)).below hg4; have HX4 : Hid (TrI w at_ st nt ct aw cu w4) := Lib.hid ⟨(HX.out.later ((Below.refl wr.heap.size wr).alloc (Nat.le_refl _) _)).below.trans (hb4.mono (by omega)), (hb4.block _ (by omega)).trans (HX.out.later ((Below.refl wr.heap.size wr).alloc (Nat.le_refl _) _)).row⟩; clear hl4 hg4 hb4)
      go_roundw
      case rel => exact ⟨i + 1, by have := HLt.out; omega, by go_num, by rw [turnL_succ, HFt.out]; exact HL4.out, HX4.out⟩
      case measure => simp [intOf]; have := HLt.out; omega
  · obtain rfl : i = LN := by omega
    have d1 : decide (i < i) = false := by simp
    have d2 : decide ((i : Int) < (i : Int)) = false := by simp
    have c3 : wr.cell? ⟨w.heap.size, 3, none⟩ = some (.int .i64 cu) := HX.out.cell 3
    obtain ⟨sp, cap, rfl, hpc⟩ := (HLv.out.lv (by omega)).pieces
    have HJn := Lib.hid (Cd.ref_join wr sp cap _ (turnL LD at_ leaf aw i) rfl hpc HJ.out)
    obtain ⟨TL, hTL⟩ : ∃ TL, turnL LD at_ leaf aw i = TL := ⟨_, rfl⟩
    have HTL := Lib.hid hTL
    rw [hTL] at HJn ⊢
    obtain ⟨TN, hTN⟩ : ∃ TN, TL.length = TN := ⟨_, rfl⟩
    rw [hTN] at HJn ⊢
    obtain ⟨JB, hJB⟩ : ∃ JB, Cd.join TL = JB := ⟨_, rfl⟩
    rw [hJB] at HJn
    have HJB := Lib.hid hJB
    obtain ⟨JN, hJN⟩ : ∃ JN, JB.length = JN := ⟨_, rfl⟩
    rw [hJN] at HJn
    have HJN := Lib.hid hJN
    have HJl : Hid (JN ≤ 990000) := Lib.hid (by have := HJ.out; rw [hTL, hJB, hJN] at this; exact this)
    clear hTL hTN hJB hJN hpc hlt hi c0 c1 c2 HLv HJ
    go_upto_region 10 with (go_at_call 17; refine HJn.out.mono ?_; rintro e w4 ⟨s4, c4, rfl, hy4, hb4⟩; have HX4 := Lib.hid (HX.out.later hb4); have HY4 := Lib.hid hy4; clear hb4 hy4)
    clear c3
    have c3 : w4.cell? ⟨w.heap.size, 3, none⟩ = some (.int .i64 cu) := HX4.out.cell 3
    by_cases hc0 : cu < 0
    · have f1 : decide (cu < 0) = true := by simpa using hc0
      have HCu : Hid (cutB JB cu = JB) := Lib.hid (by unfold cutB; rw [if_pos (Or.inl hc0)])
      clear hc0
      go_wp2
      go_ret
      exact ⟨s4, c4, by rw [HTL.out, HJB.out, HCu.out, HJN.out]; rfl, by rw [HTL.out, HJB.out, HCu.out]; exact HY4.out, HX4.out.below⟩
    · have f1 : decide (cu < 0) = false := by simpa using hc0
      by_cases hc1 : (JN : Int) < cu
      · have f2 : decide ((JN : Int) < cu) = true := by simpa using hc1
        have HCu : Hid (cutB JB cu = JB) := Lib.hid (by unfold cutB; rw [if_pos (Or.inr (by rw [HJN.out]; exact hc1))])
        clear hc0 hc1
        go_wp2
        go_ret
        exact ⟨s4, c4, by rw [HTL.out, HJB.out, HCu.out, HJN.out]; rfl, by rw [HTL.out, HJB.out, HCu.out]; exact HY4.out, HX4.out.below⟩
      · have f2 : decide ((JN : Int) < cu) = false := by simpa using hc1
        obtain ⟨k, hk⟩ : ∃ k : Nat, JN - cu.toNat = k := ⟨_, rfl⟩
        have hw : IntKind.i64.wrap ((JN : Int) - cu) = (k : Int) := by rw [IntWalk.i64_in _ (by have := HJl.out; omega)]; omega
        have hkc : k ≤ c4 := by have := HY4.out.sl.le; rw [List.length_map, HJN.out] at this; omega
        have HKc := Lib.hid hkc
        have HCu : Hid (cutB JB cu = JB.take k) := Lib.hid (by unfold cutB; rw [if_neg (by rw [HJN.out]; omega), HJN.out, hk])
        have HKl : Hid ((JB.take k).length = k) := Lib.hid (by rw [List.length_take, HJN.out]; omega)
        clear hc0 hc1 hk hkc
        go_wp2_with (refine wpList_exec rfl (.slice s4 k c4) (Cd.exec_cut 24 5 (.tmp 46) none (some (.tmp 51)) rfl Try.underlying24 _ (run_headU s4 JN c4 k HKc.out _)) ?_)
        go_ret
        exact ⟨s4, c4, by rw [HTL.out, HJB.out, HCu.out, HKl.out]; rfl, by rw [HTL.out, HJB.out, HCu.out]; exact bytes_take HY4.out k, HX4.out.below⟩
end Go.Proofs.Ytkfkjapkcjidnaa.Wg
namespace Go.Proofs.Ytkfkjapkcjidnaa.Wg
set_option maxRecDepth 100000
open Go.ChangeShapes Go.WideShapes Go.ChangeAt Go.RowKit Go.Shelf Go.Proofs.Ytkfkjapkcjidnaa.Tn
attribute [local go_sem] Oper.semAt_some

/-! ### WeightsParses -/
section
variable {a : Act} {o : Oper} {W : World}
theorem exec_eqP (x y : Operand) (ho : o.op = .binOp .eql 3 x y 3) (u v : Int) (r : Bool) (hr : (u == v) = r) (hx : a.eval x = .int .i64 u) (hy : a.eval y = .int .i64 v) : (execOp a.eval o).run Try.prog W = .ok (.value (.bool r)) W := by
  unfold execOp
  have hg : (eqGuard .eql 3 x y (.int .i64 u) (.int .i64 v)).run Try.prog W = .ok () W := by
    unfold eqGuard
    simp
  have hb : (binOp .eql 3 (.int .i64 u) (.int .i64 v)).run Try.prog W = .ok (.bool (u == v)) W := by simp [go_sem]
  rw [← hr]
  simp [ho, hx, hy, hg, hb]
theorem exec_neE (x y : Operand) (ho : o.op = .binOp .neq 35 x y 35) (u v : Int) (r : Bool) (hr : (u != v) = r) (hx : a.eval x = .int .i64 u) (hy : a.eval y = .int .i64 v) : (execOp a.eval o).run Try.prog W = .ok (.value (.bool r)) W := by
  unfold execOp
  have hg : (eqGuard .neq 35 x y (.int .i64 u) (.int .i64 v)).run Try.prog W = .ok () W := by
    unfold eqGuard
    simp
  have hb : (binOp .neq 35 (.int .i64 u) (.int .i64 v)).run Try.prog W = .ok (.bool (u != v)) W := by simp [go_sem]
  rw [← hr]
  simp [ho, hx, hy, hg, hb]
theorem exec_lsP (x y : Operand) (ho : o.op = .binOp .lss 3 x y 3) (u v : Int) (r : Bool) (hr : decide (u < v) = r) (hx : a.eval x = .int .i64 u) (hy : a.eval y = .int .i64 v) : (execOp a.eval o).run Try.prog W = .ok (.value (.bool r)) W := by
  unfold execOp
  have hg : (eqGuard .lss 3 x y (.int .i64 u) (.int .i64 v)).run Try.prog W = .ok () W := by
    unfold eqGuard
    simp
  have hb : (binOp .lss 3 (.int .i64 u) (.int .i64 v)).run Try.prog W = .ok (.bool (decide (u < v))) W := by simp [go_sem]
  rw [← hr]
  simp [ho, hx, hy, hg, hb]
theorem exec_gtP (x y : Operand) (ho : o.op = .binOp .gtr 3 x y 3) (u v : Int) (r : Bool) (hr : decide (v < u) = r) (hx : a.eval x = .int .i64 u) (hy : a.eval y = .int .i64 v) : (execOp a.eval o).run Try.prog W = .ok (.value (.bool r)) W := by
  unfold execOp
  have hg : (eqGuard .gtr 3 x y (.int .i64 u) (.int .i64 v)).run Try.prog W = .ok () W := by
    unfold eqGuard
    simp
  have hb : (binOp .gtr 3 (.int .i64 u) (.int .i64 v)).run Try.prog W = .ok (.bool (decide (v < u))) W := by simp [go_sem]
  rw [← hr]
  simp [ho, hx, hy, hg, hb]
theorem run_lenS (ty : TypeId) (s : Option Addr) (n c : Nat) (W : World) : (Builtin.len_ #[39] ty #[.slice s n c]).run Try.prog W = .ok (.int .i64 (n : Int)) W := by
  simp [Builtin.len_, run_underlying Try.underlying39, goInt]
theorem exec_lenS (x : Operand) (ho : o.op = .call { callee := .builtin .len, args := #[x], argTypes := #[39] }) (s : Option Addr) (n c : Nat) (hx : a.eval x = .slice s n c) : (execOp a.eval o).run Try.prog W = .ok (.value (.int .i64 (n : Int))) W := by
  simp [execOp, ho, resolve, invoke, builtin, hx, Result.andThen, run_lenS]
theorem run_tf0 (g : Nat) (W : World) : (Instr.fieldAt 33 (.pointer (some ⟨g, 0, none⟩)) 0).run Try.prog W = .ok (.pointer (some ⟨g, 0, none⟩)) W := by kernel_rfl
theorem run_tf3 (g : Nat) (W : World) : (Instr.fieldAt 33 (.pointer (some ⟨g, 0, none⟩)) 3).run Try.prog W = .ok (.pointer (some ⟨g, 3, none⟩)) W := by kernel_rfl
theorem exec_tf0 (x : Operand) (ho : o.op = .fieldAddr 33 x 0) (g : Nat) (hx : a.eval x = .pointer (some ⟨g, 0, none⟩)) : (execOp a.eval o).run Try.prog W = .ok (.value (.pointer (some ⟨g, 0, none⟩))) W := by
  unfold execOp
  simp only [ho, hx, Sem.run_bind, run_tf0, Result.andThen_ok, Sem.run_pure]
theorem exec_tf3 (x : Operand) (ho : o.op = .fieldAddr 33 x 3) (g : Nat) (hx : a.eval x = .pointer (some ⟨g, 0, none⟩)) : (execOp a.eval o).run Try.prog W = .ok (.value (.pointer (some ⟨g, 3, none⟩))) W := by
  unfold execOp
  simp only [ho, hx, Sem.run_bind, run_tf3, Result.andThen_ok, Sem.run_pure]
theorem size_trn (a : Int) (s : Option Addr) (n c : Nat) (b : Bool) (d : Int) : (Try.prog.info? 33).map (·.size) = some (#[.int .i64 a, .slice s n c, .bool b, .int .i64 d] : Array Value).size := by kernel_rfl
end
def tcC (at_ : Int) (st : Option Addr) (nt ct : Nat) (aw : Bool) (cu : Int) : Array Value := #[.int .i64 at_, .slice st nt ct, .bool aw, .int .i64 cu]
structure PsI (w : World) (v : Wv) (tc : Array Value) (W : World) : Prop where
  below : Below w.heap.size w W
  row : W.heap[w.heap.size]? = some (.cells v.cells 31 (0, 0))
  trn : W.heap[w.heap.size + 1]? = some (.cells tc 33 (0, 0))
section
variable {w W W' : World} {v : Wv} {tc : Array Value}
theorem PsI.later (h : PsI w v tc W) (hb : Below W.heap.size W W') : PsI w v tc W' := ⟨h.below.trans (hb.mono h.below.size), (hb.block _ (Array.getElem?_eq_some_iff.1 h.row).1).trans h.row, (hb.block _ (Array.getElem?_eq_some_iff.1 h.trn).1).trans h.trn⟩
theorem PsI.new (w : World) (v : Wv) (tc : Array Value) : PsI w v tc ((w.alloc (.cells v.cells 31)).alloc (.cells tc 33)) := by
  have h1 : Below w.heap.size w (w.alloc (.cells v.cells 31)) := (Below.refl _ _).alloc (Nat.le_refl _) _
  have r1 := heap_alloc_new w (.cells v.cells 31)
  have s1 : (w.alloc (.cells v.cells 31)).heap.size = w.heap.size + 1 := by simp
  obtain ⟨w1, e1⟩ : ∃ w1, w.alloc (.cells v.cells 31) = w1 := ⟨_, rfl⟩
  rw [e1] at h1 r1 s1 ⊢
  have h2 : Below w1.heap.size w1 (w1.alloc (.cells tc 33)) := (Below.refl _ _).alloc (Nat.le_refl _) _
  have r2 := heap_alloc_new w1 (.cells tc 33)
  rw [s1] at r2
  exact ⟨h1.trans (h2.mono h1.size), (h2.block _ (by omega)).trans r1, r2⟩
theorem PsI.tr (h : PsI w v tc W) (j : Nat) : W.cell? ⟨w.heap.size + 1, j, none⟩ = tc[j]? := by rw [cell_of_row _ _ _ _ _ _ h.trn]
end
/-- the pieces of a model's bytes that were turned are not too long -/
theorem turn_good {m : Md} (hE : m.chk = 0) (hF : FewM m) (hi : i64 (flatP m.ps)) {at_ cu : Int} {leaf : List Int} {aw : Bool} (hl : leaf.length ≤ 1000) {h : List Int} {ls : List (List Int)} (hs : Cd.small (h :: ls)) (hj : Cd.join (h :: ls) = cutB (Cd.join (turnL (leavesD m) at_ leaf aw (leavesD m).length)) cu) :
    h.length ≤ 100000 ∧ (∀ p ∈ ls, p.length ≤ 100000) ∧ GoodH h := by
  obtain ⟨hH, _⟩ := chk_zero hE
  obtain ⟨hck, _⟩ := headE_zero hH
  have hO := Cfg.ok_of_chk hck
  obtain ⟨k, hk⟩ := cutB_take (Cd.join (turnL (leavesD m) at_ leaf aw (leavesD m).length)) cu
  have h1 := hF.al
  have h2 := hF.ps
  have hh := few_head hF
  have hg : ∀ p ∈ turnL (leavesD m) at_ leaf aw (leavesD m).length, p.length ≤ 1400 ∧ GoodH p := fun p hp => by
    rcases turnL_mem (Nat.le_refl _) hp with h | h
    · rw [leavesD_eq] at h
      rcases List.mem_cons.1 h with rfl | h
      · refine ⟨hh, fun cv al ps hy => ?_⟩
        obtain ⟨_, q2, q3⟩ := hy.one (HeadIs.of (cfg_i64 hO) hi (show m.al.length ≤ 1000000 by omega) (show m.ps.length ≤ 1000000 by omega))
        rw [q2, q3]
        omega
      · have := few_leaf hE h
        exact ⟨by omega, good_short (by omega)⟩
    · rw [h]
      exact ⟨by omega, good_short hl⟩
  rw [hk] at hj
  have hmem := join_prefix (h :: ls) _ k (fun p hp => by have := (hg p hp).1; omega) hs hj
  exact ⟨by have := (hg h (hmem h (by simp))).1; omega, fun p hp => by have := (hg p (hmem p (by simp [hp]))).1; omega, (hg h (hmem h (by simp))).2⟩
theorem few_many {m : Md} (hE : m.chk = 0) : (leavesD m).length ≤ 3000 := by
  obtain ⟨hH, _⟩ := chk_zero hE
  obtain ⟨hck, _⟩ := headE_zero hH
  have := Cfg.rows_le (Cfg.ok_of_chk hck)
  rw [leavesD_len]
  omega
theorem back_parsed {m : Md} (hE : m.chk = 0) (hF : FewM m) (hi : i64 (flatP m.ps)) : ∃ M, Parsed (Cd.join (leavesD m)) M ∧ M.chk = 0 := by
  obtain ⟨hok, hsame⟩ := read_back hE
  have hO := Cfg.ok_of_chk hok.1
  have h1 := hF.al
  have h2 := hF.ps
  have hh := few_head hF
  refine ⟨mdR m.cfg m.al m.ps (leavesT m), ⟨headB m.cfg m.al m.ps, leavesT m, fun l hl => ?_, rfl, HeadIs.of (cfg_i64 hO) hi (show m.al.length ≤ 1000000 by omega) (show m.ps.length ≤ 1000000 by omega), hok, rfl⟩, by rw [← hsame.chk]; exact hE⟩
  rcases List.mem_cons.1 hl with rfl | hl
  · omega
  · have := few_leaf hE hl
    omega
set_option maxHeartbeats 16000000 in
theorem parses_walk (w : World) (v : Wv) (m : Md) (hv : WvOK w v m) (hi : i64 (flatP m.ps)) (at_ : Int) (st : Option Addr) (nt ct : Nat) (leaf : List Int) (hL : Bp.Byts w st ct leaf) (hnt : leaf.length = nt) (aw : Bool) (cu : Int) (sb : Option Addr) (cb nb : Nat) (b : List Int) (hb : Bp.Byts w sb cb b) (hnb : b.length = nb) : Calls Try.prog 3 #[.agg v.cells, .agg #[.int .i64 at_, .slice st nt ct, .bool aw, .int .i64 cu], .slice sb nb cb] w fun e w' => e = .returned (.bool true) ∧ Below w.heap.size w w' := by
  have HX0 := Lib.hid (PsI.new w v (tcC at_ st nt ct aw cu))
  have HV := Lib.hid hv
  have HI := Lib.hid hi
  have HLf := Lib.hid (cdBytes hL)
  have HNt := Lib.hid hnt
  have HBb := Lib.hid (cdBytes hb)
  have HNb := Lib.hid hnb
  have hnm : nb ≤ 9223372036854775807 := by rw [← hnb]; exact (cdBytes hb).len
  have hnm2 : nt ≤ 9223372036854775807 := by rw [← hnt]; exact (cdBytes hL).len
  clear hv hi hL hnt hb hnb
  unfold tcC at HX0
  go_enter Try.func3, Try.ntmps3
  go_upto_region 1 with fail
  refine gen_w (Q := fun w => Code.wp _ _ _ _ w) _ (PsI w v (tcC at_ st nt ct aw cu)) HX0.out ?_
  clear HX0
  intro w0 hx
  have HX := Lib.hid hx
  clear hx
  go_wp2_with (refine wpList_load_row rfl 31 (.tmp 3) rfl w.heap.size rfl 31 v.cells (0, 0) _ HX.out.row Try.underlying31 rfl size_wts ?_)
  refine (few_any _ v m (HV.out.later HX.out.below)).mono ?_
  rintro e w1 ⟨fb, rfl, hb1, hf⟩
  have HX1 := Lib.hid (HX.out.later hb1)
  have t1 : w1.cell? ⟨w.heap.size + 1, 1, none⟩ = some (.slice st nt ct) := HX1.out.tr 1
  clear hb1 HX
  cases fb with
  | false =>
    clear hf hnm hnm2
    go_wp2_with (go_at_call 8; refine (awake_any _).mono ?_; rintro e wz ⟨rfl, hbz⟩; have HBz := Lib.hid hbz; clear hbz)
    go_ret
    exact ⟨rfl, (HX1.out.later HBz.out).below⟩
  | true =>
    have HF := Lib.hid (hf rfl)
    clear hf
    by_cases hlt : 1000 < nt
    · have d1 : decide ((1000 : Int) < (nt : Int)) = true := by simp; omega
      have d2 : decide (1000 < nt) = true := by simpa using hlt
      clear hlt hnm
      go_wp2_with (go_at_call 8; refine (awake_any _).mono ?_; rintro e wz ⟨rfl, hbz⟩; have HBz := Lib.hid hbz; clear hbz)
      go_ret
      exact ⟨rfl, (HX1.out.later HBz.out).below⟩
    · have d1 : decide ((1000 : Int) < (nt : Int)) = false := by simp; omega
      have d2 : decide (1000 < nt) = false := by simpa using hlt
      have HTl : Hid (nt ≤ 1000) := Lib.hid (by omega)
      clear hlt
      by_cases hlb : 1000 < nb
      · have d3 : decide ((1000 : Int) < (nb : Int)) = true := by simp; omega
        have d4 : decide (1000 < nb) = true := by simpa using hlb
        clear hlb
        go_wp2_with (go_at_call 8; refine (awake_any _).mono ?_; rintro e wz ⟨rfl, hbz⟩; have HBz := Lib.hid hbz; clear hbz)
        go_ret
        exact ⟨rfl, (HX1.out.later HBz.out).below⟩
      · have d3 : decide ((1000 : Int) < (nb : Int)) = false := by simp; omega
        have d4 : decide (1000 < nb) = false := by simpa using hlb
        have HBl : Hid (nb ≤ 1000) := Lib.hid (by omega)
        have hal : m.al.length ≤ 300 := by have := HF.out.1; rw [← HV.out.na]; exact this
        have hps : m.ps.length ≤ 60 := by have := HF.out.2.1; rw [← HV.out.np]; exact this
        have hn4 := HF.out.2.2.2.2.2.1
        have HRt := Lib.hid (fun W (h : PsI w v (tcC at_ st nt ct aw cu) W) => right_any W v m (HV.out.later h.below) (by omega) (by omega) (by omega))
        clear hlb
        by_cases hE : m.chk = 0
        · rw [hE] at HRt
          have hfm := few_m HV.out HF.out hE
          have HE := Lib.hid hE
          have HFm := Lib.hid hfm
          have hbl := few_bytes hE hfm
          have HLw := Lib.hid (fun W (h : PsI w v (tcC at_ st nt ct aw cu) W) => leavesW_any W v m (HV.out.later h.below) hE (by omega) (by omega) HI.out)
          have HTu := Lib.hid (fun W sL capL (h : PsI w v (tcC at_ st nt ct aw cu) W) (hp : Cd.Pieces W sL capL (leavesD m)) => turned_any W sL capL (leavesD m).length (leavesD m) hp rfl (few_many hE) at_ st nt ct leaf (HLf.out.below h.below) HNt.out aw cu (by rw [HNt.out]; have := HTl.out; omega))
          have HGd := Lib.hid (fun h ls (hs : Cd.small (h :: ls)) hj => turn_good (at_ := at_) (cu := cu) (aw := aw) hE hfm HI.out (show leaf.length ≤ 1000 by rw [HNt.out]; exact HTl.out) hs hj)
          have HBk := Lib.hid (back_parsed hE hfm HI.out)
          have hjl : (Cd.join (turnL (leavesD m) at_ leaf aw (leavesD m).length)).length ≤ 990000 := by
            have h1 := turnL_join (leavesD m) at_ leaf aw (leavesD m).length (Nat.le_refl _)
            rw [List.take_length, HNt.out] at h1
            have := HTl.out
            split at h1 <;> omega
          have HSm : Hid (cu = 0 → (at_ < 0 ∨ ((leavesD m).length : Int) < at_) → cutB (Cd.join (turnL (leavesD m) at_ leaf aw (leavesD m).length)) cu = Cd.join (leavesD m)) := Lib.hid fun h1 h2 => by
            rw [turnL_same (by omega)]
            unfold cutB
            rw [h1, if_neg (by omega)]
            exact List.take_length
          obtain ⟨CB, hCB⟩ : ∃ CB, cutB (Cd.join (turnL (leavesD m) at_ leaf aw (leavesD m).length)) cu = CB := ⟨_, rfl⟩
          have hcl : CB.length ≤ 990000 := by
            obtain ⟨k, hk⟩ := cutB_take (Cd.join (turnL (leavesD m) at_ leaf aw (leavesD m).length)) cu
            rw [← hCB, hk, List.length_take]
            omega
          rw [hCB] at HTu HGd HSm
          obtain ⟨CN, hCN⟩ : ∃ CN, CB.length = CN := ⟨_, rfl⟩
          rw [hCN] at HTu hcl
          have HCN := Lib.hid hCN
          have HCl := Lib.hid hcl
          obtain ⟨LD, hLD⟩ : ∃ LD, leavesD m = LD := ⟨_, rfl⟩
          rw [hLD] at HLw HTu HBk HSm
          obtain ⟨LN, hLN⟩ : ∃ LN, LD.length = LN := ⟨_, rfl⟩
          rw [hLN] at HTu HSm
          have HLN := Lib.hid hLN
          clear hal hps hn4 hfm hbl hE hjl hCB hcl hCN hLD hLN hnm hnm2
          go_upto_region 3 with (first
            | (refine wpList_load_rowG rfl 31 (.tmp 3) rfl w.heap.size rfl 31 v.cells (0, 0) _ HX1.out.row Try.underlying31 rfl size_wts ?_)
            | (go_at_call 7; refine (HRt.out _ HX1.out).mono ?_; rintro e w2 ⟨rfl, hb2⟩; have HX2 := Lib.hid (HX1.out.later hb2); clear hb2))
          clear HX1 HRt d1 d2 d3 d4 t1
          refine Tn.wp_region_spec (C := fun W => Below w2.heap.size w2 W) (Le := fun A B => Below A.heap.size A B) 4
            (fun _ j W v' => (j = 0 → v' = .agg v.cells) ∧ (j = 1 → ∃ sL cL, v' = .slice sL LN cL ∧ Cd.Pieces W sL cL LD) ∧ (j = 2 → v' = .agg (tcC at_ st nt ct aw cu)) ∧ (j = 3 → ∃ sC cC, v' = .slice sC CN cC ∧ Cd.Bytes W sC cC CB))
            (by kernel_rfl) (by kernel_rfl) ⟨rfl, rfl, rfl, Nat.le_refl _, fun _ _ => rfl⟩ (fun _ _ _ _ _ _ h => h)
            (fun _ _ A B v' hl h => ⟨h.1, (fun e => by obtain ⟨s, c, h1, h2⟩ := h.2.1 e; exact ⟨s, c, h1, h2.below hl⟩), h.2.2.1, (fun e => by obtain ⟨s, c, h1, h2⟩ := h.2.2.2 e; exact ⟨s, c, h1, h2.below hl⟩)⟩)
            (fun j v' => (j = 0 → v' = .agg v.cells) ∧ (j = 1 → ∃ sL cL, v' = .slice sL LN cL) ∧ (j = 2 → v' = .agg (tcC at_ st nt ct aw cu)) ∧ (j = 3 → ∃ sC cC, v' = .slice sC CN cC)) (fun _ _ _ _ h => ⟨h.1, (fun e => by obtain ⟨s, c, h1, _⟩ := h.2.1 e; exact ⟨s, c, h1⟩), h.2.2.1, (fun e => by obtain ⟨s, c, h1, _⟩ := h.2.2.2 e; exact ⟨s, c, h1⟩)⟩)
            (fun j => if j = 0 then .agg v.cells else if j = 1 then .slice none LN 0 else if j = 2 then .agg (tcC at_ st nt ct aw cu) else .slice none CN 0) (fun j => ⟨fun e => by rw [if_pos e], fun e => by rw [if_neg (by omega), if_pos e]; exact ⟨_, _, rfl⟩, fun e => by rw [if_neg (by omega), if_neg (by omega), if_pos e], fun e => by rw [if_neg (by omega), if_neg (by omega), if_neg (by omega)]; exact ⟨_, _, rfl⟩⟩) ?_ ?_
          · intro u hu
            have e0 : u 0 = .agg v.cells := (hu 0).1 rfl
            obtain ⟨sL, cL, e1⟩ := (hu 1).2.1 rfl
            have e2 : u 2 = .agg (tcC at_ st nt ct aw cu) := (hu 2).2.2.1 rfl
            simp only [List.take_succ_cons, List.take_zero]
            refine Tn.spec_cons (fun Y hC hd => ⟨by rfl, Tn.gives_val (.agg v.cells) Y (exec_load_row 31 (.tmp 3) rfl w.heap.size rfl 31 v.cells (0, 0) _ (HX2.out.later hC).row Try.underlying31 rfl size_wts) ⟨hC, Below.refl _ _, fun _ => rfl, (fun e => by omega), (fun e => by omega), (fun e => by omega)⟩⟩) ?_
            simp only [Act.put, List.setIfInBounds_toArray, List.set_cons_succ, List.set_cons_zero, Nat.reduceAdd]
            rw [e0]
            refine Tn.spec_cons (fun Y hC hd => ⟨by rfl, Tn.gives_call _ _ (Tn.exec_call1 10 (.tmp 36) #[31] _ rfl rfl (cf Try.func10 (by kernel_rfl) (by kernel_rfl) _ _)) ((HLw.out Y (HX2.out.later hC)).mono fun e2 Y' ⟨val, base, e3, hlv, _, hb3⟩ => by
              obtain ⟨sp, cap, ev, hpc⟩ := hlv.pieces
              rw [HLN.out] at ev
              exact ⟨_, e3, hC.trans (hb3.mono hC.size), hb3, (fun e => by omega), (fun _ => ⟨sp, cap, ev, hpc⟩), (fun e => by omega), (fun e => by omega)⟩)⟩) ?_
            simp only [Act.put, List.setIfInBounds_toArray, List.set_cons_succ, List.set_cons_zero, Nat.reduceAdd]
            rw [e1]
            refine Tn.spec_cons (fun Y hC hd => ⟨by rfl, Tn.gives_val (.agg (tcC at_ st nt ct aw cu)) Y (exec_load_row 33 (.tmp 4) rfl (w.heap.size + 1) rfl 33 (tcC at_ st nt ct aw cu) (0, 0) _ (HX2.out.later hC).trn Try.underlying33 rfl (size_trn _ _ _ _ _ _)) ⟨hC, Below.refl _ _, (fun e => by omega), (fun e => by omega), (fun _ => rfl), (fun e => by omega)⟩⟩) ?_
            simp only [Act.put, List.setIfInBounds_toArray, List.set_cons_succ, List.set_cons_zero, Nat.reduceAdd]
            rw [e2]
            refine Tn.spec_cons (fun Y hC hd => ⟨by rfl, Tn.gives_call _ _ (exec_call2 9 (.tmp 37) (.tmp 38) #[39, 33] _ _ rfl rfl rfl (cf Try.func9 (by kernel_rfl) (by kernel_rfl) _ _)) ?_⟩) ?_
            · obtain ⟨sL', cL', e1', hpc⟩ := (hd ⟨1, .data⟩ (by simp) (by kernel_rfl)).2.1 rfl
              rw [e1] at e1'
              injection e1' with q1 _ q3
              subst q1 q3
              refine (HTu.out Y sL cL (HX2.out.later hC) hpc).mono fun e2 Y' ⟨s4, c4, e3, hy, hb3⟩ => ?_
              exact ⟨_, e3, hC.trans (hb3.mono hC.size), hb3, (fun e => by omega), (fun e => by omega), (fun e => by omega), (fun _ => ⟨s4, c4, rfl, hy⟩)⟩
            simp only [Act.put, List.setIfInBounds_toArray, List.set_cons_succ, List.set_cons_zero, Nat.reduceAdd]
            exact Tn.spec_nil
          intro u Y hu hC hP
          have e0 : u 0 = .agg v.cells := (hu 0).1 rfl
          obtain ⟨sL, cL, e1⟩ := (hu 1).2.1 rfl
          have e2 : u 2 = .agg (tcC at_ st nt ct aw cu) := (hu 2).2.2.1 rfl
          obtain ⟨sC, cC, e3, hy⟩ := (hP 3 (by omega)).2.2.2 rfl
          simp only [List.take_succ_cons, List.take_zero, List.drop_succ_cons, List.drop_zero, Tn.putAll, Act.put, List.setIfInBounds_toArray, List.set_cons_succ, List.set_cons_zero, Nat.reduceAdd]
          rw [e0, e1, e2, e3]
          have hx3 := HX2.out.later hC
          clear hu hP e0 e1 e2 e3 hC HX2
          go_upto_region 4 with fail
          refine gen_w (Q := fun w => Code.wp _ _ _ _ w) _ (fun W => PsI w v (tcC at_ st nt ct aw cu) W ∧ Cd.Bytes W sC cC CB) ⟨hx3, hy⟩ ?_
          clear hx3 hy
          rintro w3 ⟨hx3, hy⟩
          have HX3 := Lib.hid hx3
          have HY3 := Lib.hid hy
          clear hx3 hy
          have hpa := parse_any w3 sC cC CN CB HCN.out HY3.out (by have := HCl.out; omega) HGd.out
          have HPa := Lib.hid hpa
          clear hpa HTu HGd
          go_upto_region 5 with (first
            | (go_at_call 11; refine HPa.out.mono ?_; rintro e w4 ⟨u, M, E, rfl, hwv, hb4, hcase⟩; have HX4 := Lib.hid (HX3.out.later hb4); have HY4 := Lib.hid (HY3.out.below hb4); have HW4 := Lib.hid hwv; have HCs := Lib.hid hcase; clear hb4 hwv hcase)
            | (refine wpList_store_newW rfl 31 (.tmp 8) (.tmp 43) rfl u.cells zeroC 31 rfl rfl rfl size_wts rfl (wv_one u) ?_))
          have hal : Below w4.heap.size w4 (w4.alloc (.cells u.cells 31)) := (Below.refl _ _).alloc (Nat.le_refl _) _
          have HX5 := Lib.hid (HX4.out.later hal)
          have HY5 := Lib.hid (HY4.out.below hal)
          have HW5 := Lib.hid (HW4.out.later hal)
          have HR5 := Lib.hid (heap_alloc_new w4 (.cells u.cells 31))
          obtain ⟨xb, hxb⟩ : ∃ xb, w4.heap.size = xb := ⟨_, rfl⟩
          obtain ⟨w5, hw5⟩ : ∃ w5, w4.alloc (.cells u.cells 31) = w5 := ⟨_, rfl⟩
          rw [hw5] at HX5 HY5 HW5 HR5 ⊢
          rw [hxb] at HR5 ⊢
          clear hw5 hxb hal HX4 HY4 HW4 HX3 HY3 HPa
          rcases HCs.out with ⟨hE, hu, hM, hno⟩ | ⟨hE, hpd, hM0, hal, hps⟩
          · subst hu hM
            have n1 : (E == 0) = false := by simpa using hE
            have n2 : (E != 0) = true := by simpa using hE
            have HE0 := Lib.hid hE
            have HNo : Hid (¬ (cu = 0 ∧ (at_ < 0 ∨ (LN : Int) < at_))) := Lib.hid fun ⟨h1, h2⟩ => by
              obtain ⟨M, hp, hc⟩ := HBk.out
              rw [← HSm.out h1 h2] at hp
              exact hno M hp hc
            clear hE hno HCs HSm HBk
            go_upto_region 7 with (first
              | (refine wpList_load_rowG rfl 31 (.tmp 8) rfl xb rfl 31 zeroW.cells (0, 0) _ HR5.out Try.underlying31 rfl size_wts ?_)
              | (go_at_call 12; refine (none_any _).mono ?_; rintro e w6 ⟨rfl, hb6⟩; have HX6 := Lib.hid (HX5.out.later hb6); have HR6 := Lib.hid ((hb6.block _ (Array.getElem?_eq_some_iff.1 HR5.out).1).trans HR5.out); clear hb6))
            have hz : zeroM.chk ≠ 0 := by
              have h1 : zeroM.cfg.chk ≠ 0 := fun h => by
                have := (Cfg.ok_of_chk h).v
                exact absurd this (by decide)
              rw [chk_no (by rw [headE_cfg h1]; exact h1), headE_cfg h1]
              exact h1
            have HEn := Lib.hid (fun W => encode_no W zeroW zeroM (zero_ok W) (by decide) (by decide) hz)
            obtain ⟨E7, hE7⟩ : ∃ E7, zeroM.chk = E7 := ⟨_, rfl⟩
            rw [hE7] at HEn
            clear hz hE7
            go_upto_region 8 with (first
              | (refine wpList_load_rowG rfl 31 (.tmp 8) rfl xb rfl 31 zeroW.cells (0, 0) _ HR6.out Try.underlying31 rfl size_wts ?_)
              | (go_at_call 13; refine (HEn.out _).mono ?_; rintro e w7 ⟨rfl, hb7⟩; have HX7 := Lib.hid (HX6.out.later hb7); clear hb7))
            clear HX5 HX6 HR5 HR6 HEn HY5
            go_upto_region 10 with fail
            clear n1 n2
            go_cut [93] (fun s wc => s = .bool false ∧ PsI w v (tcC at_ st nt ct aw cu) wc)
            case first =>
              by_cases hc : cu = 0
              · have z1 : (cu == 0) = true := by rw [hc]; rfl
                by_cases ha : at_ < 0
                · exact absurd ⟨hc, Or.inl ha⟩ HNo.out
                · have z2 : decide (at_ < 0) = false := by simpa using ha
                  obtain ⟨GT, hGT⟩ : ∃ GT, decide ((LN : Int) < at_) = GT := ⟨_, rfl⟩
                  have hg : GT = false := by rw [← hGT]; have := HNo.out; simp only [decide_eq_false_iff_not]; intro h9; exact this ⟨hc, Or.inr h9⟩
                  have HG0 := Lib.hid hg
                  have HGT := Lib.hid hGT
                  have HZ1 := Lib.hid z1
                  have HZ2 := Lib.hid z2
                  clear hc ha hGT z1 z2 hg
                  refine Tn.wp_region_spec (C := fun W => Below w7.heap.size w7 W) (Le := fun A B => Below A.heap.size A B) 17
                    (fun _ j W v' => (j < 11 → v' = ([.pointer (some ⟨w.heap.size + 1, 3, none⟩), .int .i64 cu, .bool true, .bool true, .pointer (some ⟨w.heap.size + 1, 0, none⟩), .int .i64 at_, .bool false, .bool false, .pointer (some ⟨w.heap.size + 1, 0, none⟩), .int .i64 at_, .agg v.cells] : List Value).getD j undef) ∧ (j = 11 → ∃ sL cL, v' = .slice sL LN cL) ∧ (12 ≤ j → j < 17 → v' = ([.int .i64 (LN : Int), .bool GT, .bool GT, .bool GT, .bool GT] : List Value).getD (j - 12) undef))
                    (by kernel_rfl) (by kernel_rfl) ⟨rfl, rfl, rfl, Nat.le_refl _, fun _ _ => rfl⟩ (fun _ _ _ _ _ _ h => h)
                    (fun _ _ A B v' hl h => h)
                    (fun j v' => (j < 11 → v' = ([.pointer (some ⟨w.heap.size + 1, 3, none⟩), .int .i64 cu, .bool true, .bool true, .pointer (some ⟨w.heap.size + 1, 0, none⟩), .int .i64 at_, .bool false, .bool false, .pointer (some ⟨w.heap.size + 1, 0, none⟩), .int .i64 at_, .agg v.cells] : List Value).getD j undef) ∧ (j = 11 → ∃ sL cL, v' = .slice sL LN cL) ∧ (12 ≤ j → j < 17 → v' = ([.int .i64 (LN : Int), .bool GT, .bool GT, .bool GT, .bool GT] : List Value).getD (j - 12) undef)) (fun _ _ _ _ h => h)
                    (fun j => if j < 11 then ([.pointer (some ⟨w.heap.size + 1, 3, none⟩), .int .i64 cu, .bool true, .bool true, .pointer (some ⟨w.heap.size + 1, 0, none⟩), .int .i64 at_, .bool false, .bool false, .pointer (some ⟨w.heap.size + 1, 0, none⟩), .int .i64 at_, .agg v.cells] : List Value).getD j undef else if j = 11 then .slice none LN 0 else ([.int .i64 (LN : Int), .bool GT, .bool GT, .bool GT, .bool GT] : List Value).getD (j - 12) undef) (fun j => ⟨fun e => by rw [if_pos e], fun e => by rw [if_neg (by omega), if_pos e]; exact ⟨_, _, rfl⟩, fun e _ => by rw [if_neg (by omega), if_neg (by omega)]⟩) ?_ ?_
                  · intro u hu
                    have e0 : u 0 = .pointer (some ⟨w.heap.size + 1, 3, none⟩) := (hu 0).1 (by decide)
                    have e1 : u 1 = .int .i64 cu := (hu 1).1 (by decide)
                    have e2 : u 2 = .bool true := (hu 2).1 (by decide)
                    have e3 : u 3 = .bool true := (hu 3).1 (by decide)
                    have e4 : u 4 = .pointer (some ⟨w.heap.size + 1, 0, none⟩) := (hu 4).1 (by decide)
                    have e5 : u 5 = .int .i64 at_ := (hu 5).1 (by decide)
                    have e6 : u 6 = .bool false := (hu 6).1 (by decide)
                    have e7 : u 7 = .bool false := (hu 7).1 (by decide)
                    have e8 : u 8 = .pointer (some ⟨w.heap.size + 1, 0, none⟩) := (hu 8).1 (by decide)
                    have e9 : u 9 = .int .i64 at_ := (hu 9).1 (by decide)
                    have e10 : u 10 = .agg v.cells := (hu 10).1 (by decide)
                    obtain ⟨sL, cL, e11⟩ := (hu 11).2.1 rfl
                    have e12 : u 12 = .int .i64 (LN : Int) := (hu 12).2.2 (by decide) (by decide)
                    have e13 : u 13 = .bool GT := (hu 13).2.2 (by decide) (by decide)
                    have e14 : u 14 = .bool GT := (hu 14).2.2 (by decide) (by decide)
                    have e15 : u 15 = .bool GT := (hu 15).2.2 (by decide) (by decide)
                    have e16 : u 16 = .bool GT := (hu 16).2.2 (by decide) (by decide)
                    simp only [List.take_succ_cons, List.take_zero]
                    refine Tn.spec_cons (fun Y hC hd => ⟨by rfl, Tn.gives_val (.pointer (some ⟨w.heap.size + 1, 3, none⟩)) Y (exec_tf3 (.tmp 4) rfl (w.heap.size + 1) rfl) ⟨hC, Below.refl _ _, fun _ => rfl, (fun e => by omega), (fun e => by omega)⟩⟩) ?_
                    simp only [Act.put, List.setIfInBounds_toArray, List.set_cons_succ, List.set_cons_zero, Nat.reduceAdd]
                    rw [e0]
                    refine Tn.spec_cons (fun Y hC hd => ⟨by rfl, Tn.gives_val (.int .i64 cu) Y (Bp.exec_load1 3 (.tmp 74) rfl ⟨w.heap.size + 1, 3, none⟩ rfl _ ((HX7.out.later hC).tr 3) _ Try.underlying3 rfl) ⟨hC, Below.refl _ _, fun _ => rfl, (fun e => by omega), (fun e => by omega)⟩⟩) ?_
                    simp only [Act.put, List.setIfInBounds_toArray, List.set_cons_succ, List.set_cons_zero, Nat.reduceAdd]
                    rw [e1]
                    refine Tn.spec_cons (fun Y hC hd => ⟨by rfl, Tn.gives_val (.bool true) Y (exec_eqP (.tmp 75) (.const (.int .i64 0)) rfl cu 0 true HZ1.out rfl rfl) ⟨hC, Below.refl _ _, fun _ => rfl, (fun e => by omega), (fun e => by omega)⟩⟩) ?_
                    simp only [Act.put, List.setIfInBounds_toArray, List.set_cons_succ, List.set_cons_zero, Nat.reduceAdd]
                    rw [e2]
                    refine Tn.spec_cons (fun Y hC hd => ⟨by rfl, Tn.gives_val (.bool true) Y (by rfl) ⟨hC, Below.refl _ _, fun _ => rfl, (fun e => by omega), (fun e => by omega)⟩⟩) ?_
                    simp only [Act.put, List.setIfInBounds_toArray, List.set_cons_succ, List.set_cons_zero, Nat.reduceAdd]
                    rw [e3]
                    refine Tn.spec_cons (fun Y hC hd => ⟨by rfl, Tn.gives_val (.pointer (some ⟨w.heap.size + 1, 0, none⟩)) Y (exec_tf0 (.tmp 4) rfl (w.heap.size + 1) rfl) ⟨hC, Below.refl _ _, fun _ => rfl, (fun e => by omega), (fun e => by omega)⟩⟩) ?_
                    simp only [Act.put, List.setIfInBounds_toArray, List.set_cons_succ, List.set_cons_zero, Nat.reduceAdd]
                    rw [e4]
                    refine Tn.spec_cons (fun Y hC hd => ⟨by rfl, Tn.gives_val (.int .i64 at_) Y (Bp.exec_load1 3 (.tmp 78) rfl ⟨w.heap.size + 1, 0, none⟩ rfl _ ((HX7.out.later hC).tr 0) _ Try.underlying3 rfl) ⟨hC, Below.refl _ _, fun _ => rfl, (fun e => by omega), (fun e => by omega)⟩⟩) ?_
                    simp only [Act.put, List.setIfInBounds_toArray, List.set_cons_succ, List.set_cons_zero, Nat.reduceAdd]
                    rw [e5]
                    refine Tn.spec_cons (fun Y hC hd => ⟨by rfl, Tn.gives_val (.bool false) Y (exec_lsP (.tmp 79) (.const (.int .i64 0)) rfl at_ 0 false HZ2.out rfl rfl) ⟨hC, Below.refl _ _, fun _ => rfl, (fun e => by omega), (fun e => by omega)⟩⟩) ?_
                    simp only [Act.put, List.setIfInBounds_toArray, List.set_cons_succ, List.set_cons_zero, Nat.reduceAdd]
                    rw [e6]
                    refine Tn.spec_cons (fun Y hC hd => ⟨by rfl, Tn.gives_val (.bool false) Y (by rfl) ⟨hC, Below.refl _ _, fun _ => rfl, (fun e => by omega), (fun e => by omega)⟩⟩) ?_
                    simp only [Act.put, List.setIfInBounds_toArray, List.set_cons_succ, List.set_cons_zero, Nat.reduceAdd]
                    rw [e7]
                    refine Tn.spec_cons (fun Y hC hd => ⟨by rfl, Tn.gives_val (.pointer (some ⟨w.heap.size + 1, 0, none⟩)) Y (exec_tf0 (.tmp 4) rfl (w.heap.size + 1) rfl) ⟨hC, Below.refl _ _, fun _ => rfl, (fun e => by omega), (fun e => by omega)⟩⟩) ?_
                    simp only [Act.put, List.setIfInBounds_toArray, List.set_cons_succ, List.set_cons_zero, Nat.reduceAdd]
                    rw [e8]
                    refine Tn.spec_cons (fun Y hC hd => ⟨by rfl, Tn.gives_val (.int .i64 at_) Y (Bp.exec_load1 3 (.tmp 82) rfl ⟨w.heap.size + 1, 0, none⟩ rfl _ ((HX7.out.later hC).tr 0) _ Try.underlying3 rfl) ⟨hC, Below.refl _ _, fun _ => rfl, (fun e => by omega), (fun e => by omega)⟩⟩) ?_
                    simp only [Act.put, List.setIfInBounds_toArray, List.set_cons_succ, List.set_cons_zero, Nat.reduceAdd]
                    rw [e9]
                    refine Tn.spec_cons (fun Y hC hd => ⟨by rfl, Tn.gives_val (.agg v.cells) Y (exec_load_row 31 (.tmp 3) rfl w.heap.size rfl 31 v.cells (0, 0) _ (HX7.out.later hC).row Try.underlying31 rfl size_wts) ⟨hC, Below.refl _ _, fun _ => rfl, (fun e => by omega), (fun e => by omega)⟩⟩) ?_
                    simp only [Act.put, List.setIfInBounds_toArray, List.set_cons_succ, List.set_cons_zero, Nat.reduceAdd]
                    rw [e10]
                    refine Tn.spec_cons (fun Y hC hd => ⟨by rfl, Tn.gives_call _ _ (Tn.exec_call1 10 (.tmp 84) #[31] _ rfl rfl (cf Try.func10 (by kernel_rfl) (by kernel_rfl) _ _)) ((HLw.out Y (HX7.out.later hC)).mono fun e2 Y' ⟨val, base, e3, hlv, _, hb3⟩ => by
                      obtain ⟨sp, cap, ev, _⟩ := hlv.pieces
                      rw [HLN.out] at ev
                      exact ⟨_, e3, hC.trans (hb3.mono hC.size), hb3, (fun e => by omega), (fun _ => ⟨sp, cap, ev⟩), (fun e => by omega)⟩)⟩) ?_
                    simp only [Act.put, List.setIfInBounds_toArray, List.set_cons_succ, List.set_cons_zero, Nat.reduceAdd]
                    rw [e11]
                    refine Tn.spec_cons (fun Y hC hd => ⟨by rfl, Tn.gives_val (.int .i64 (LN : Int)) Y (exec_lenS (.tmp 85) rfl sL LN cL rfl) ⟨hC, Below.refl _ _, (fun e => by omega), (fun e => by omega), (fun _ _ => rfl)⟩⟩) ?_
                    simp only [Act.put, List.setIfInBounds_toArray, List.set_cons_succ, List.set_cons_zero, Nat.reduceAdd]
                    rw [e12]
                    refine Tn.spec_cons (fun Y hC hd => ⟨by rfl, Tn.gives_val (.bool GT) Y (exec_gtP (.tmp 83) (.tmp 86) rfl at_ (LN : Int) GT HGT.out rfl rfl) ⟨hC, Below.refl _ _, (fun e => by omega), (fun e => by omega), (fun _ _ => rfl)⟩⟩) ?_
                    simp only [Act.put, List.setIfInBounds_toArray, List.set_cons_succ, List.set_cons_zero, Nat.reduceAdd]
                    rw [e13]
                    refine Tn.spec_cons (fun Y hC hd => ⟨by rfl, Tn.gives_val (.bool GT) Y (by rfl) ⟨hC, Below.refl _ _, (fun e => by omega), (fun e => by omega), (fun _ _ => rfl)⟩⟩) ?_
                    simp only [Act.put, List.setIfInBounds_toArray, List.set_cons_succ, List.set_cons_zero, Nat.reduceAdd]
                    rw [e14]
                    refine Tn.spec_cons (fun Y hC hd => ⟨by rfl, Tn.gives_val (.bool GT) Y (by rfl) ⟨hC, Below.refl _ _, (fun e => by omega), (fun e => by omega), (fun _ _ => rfl)⟩⟩) ?_
                    simp only [Act.put, List.setIfInBounds_toArray, List.set_cons_succ, List.set_cons_zero, Nat.reduceAdd]
                    rw [e15]
                    refine Tn.spec_cons (fun Y hC hd => ⟨by rfl, Tn.gives_val (.bool GT) Y (by rfl) ⟨hC, Below.refl _ _, (fun e => by omega), (fun e => by omega), (fun _ _ => rfl)⟩⟩) ?_
                    simp only [Act.put, List.setIfInBounds_toArray, List.set_cons_succ, List.set_cons_zero, Nat.reduceAdd]
                    rw [e16]
                    exact Tn.spec_nil
                  intro u Y hu hC hP
                  simp only [List.take_succ_cons, List.take_zero, List.drop_succ_cons, List.drop_zero, Tn.putAll, Act.put, List.setIfInBounds_toArray, List.set_cons_succ, List.set_cons_zero, Nat.reduceAdd]
                  have e0 : u 0 = .pointer (some ⟨w.heap.size + 1, 3, none⟩) := (hu 0).1 (by decide)
                  have e1 : u 1 = .int .i64 cu := (hu 1).1 (by decide)
                  have e2 : u 2 = .bool true := (hu 2).1 (by decide)
                  have e3 : u 3 = .bool true := (hu 3).1 (by decide)
                  have e4 : u 4 = .pointer (some ⟨w.heap.size + 1, 0, none⟩) := (hu 4).1 (by decide)
                  have e5 : u 5 = .int .i64 at_ := (hu 5).1 (by decide)
                  have e6 : u 6 = .bool false := (hu 6).1 (by decide)
                  have e7 : u 7 = .bool false := (hu 7).1 (by decide)
                  have e8 : u 8 = .pointer (some ⟨w.heap.size + 1, 0, none⟩) := (hu 8).1 (by decide)
                  have e9 : u 9 = .int .i64 at_ := (hu 9).1 (by decide)
                  have e10 : u 10 = .agg v.cells := (hu 10).1 (by decide)
                  obtain ⟨sL, cL, e11⟩ := (hu 11).2.1 rfl
                  have e12 : u 12 = .int .i64 (LN : Int) := (hu 12).2.2 (by decide) (by decide)
                  have e13 : u 13 = .bool GT := (hu 13).2.2 (by decide) (by decide)
                  have e14 : u 14 = .bool GT := (hu 14).2.2 (by decide) (by decide)
                  have e15 : u 15 = .bool GT := (hu 15).2.2 (by decide) (by decide)
                  have e16 : u 16 = .bool GT := (hu 16).2.2 (by decide) (by decide)
                  rw [e0, e1, e2, e3, e4, e5, e6, e7, e8, e9, e10, e11, e12, e13, e14, e15, e16]
                  have HXY := Lib.hid (HX7.out.later hC)
                  clear hu hC hP e0 e1 e2 e3 e4 e5 e6 e7 e8 e9 e10 e11 e12 e13 e14 e15 e16
                  obtain rfl := HG0.out
                  go_wp2
                  go_meet
                  exact ⟨rfl, HXY.out⟩
              · have z1 : (cu == 0) = false := by simpa using hc
                clear hc
                have t3 : w7.cell? ⟨w.heap.size + 1, 3, none⟩ = some (.int .i64 cu) := HX7.out.tr 3
                have t0 : w7.cell? ⟨w.heap.size + 1, 0, none⟩ = some (.int .i64 at_) := HX7.out.tr 0
                go_quiet (fail)
                go_wp2
                go_meet
                exact ⟨rfl, HX7.out.later (drawn_below _)⟩
            obtain ⟨rfl, hxc⟩ := hcut
            have HXc := Lib.hid hxc
            clear hxc HX7 HE0 HNo
            have HPb := Lib.hid (parse_any wc sb cb nb b HNb.out (HBb.out.below HXc.out.below) (by have := HBl.out; omega) (fun h ls hs hj => by
              have k1 := piece_le (ps := h :: ls) (p := h) (by simp)
              rw [hj, HNb.out] at k1
              have := HBl.out
              refine ⟨by omega, fun p hp => ?_, good_short (by omega)⟩
              have k2 := piece_le (ps := h :: ls) (p := p) (by simp [hp])
              rw [hj, HNb.out] at k2
              omega))
            go_upto_region 13 with (first
              | (go_at_call 11; refine HPb.out.mono ?_; rintro e wa ⟨u2, M2, E2, rfl, hwv, hba, hcase⟩; have HXa := Lib.hid (HXc.out.later hba); have HWa := Lib.hid hwv; have HCs2 := Lib.hid hcase; clear hba hwv hcase)
              | (refine wpList_store_newW rfl 31 (.tmp 12) (.tmp 97) rfl u2.cells zeroC 31 rfl rfl rfl size_wts rfl (wv_one u2) ?_))
            have hal : Below wa.heap.size wa (wa.alloc (.cells u2.cells 31)) := (Below.refl _ _).alloc (Nat.le_refl _) _
            have HXb := Lib.hid (HXa.out.later hal)
            have HWb := Lib.hid (HWa.out.later hal)
            have HRb := Lib.hid (heap_alloc_new wa (.cells u2.cells 31))
            obtain ⟨xc, hxc⟩ : ∃ xc, wa.heap.size = xc := ⟨_, rfl⟩
            obtain ⟨wb, hwb⟩ : ∃ wb, wa.alloc (.cells u2.cells 31) = wb := ⟨_, rfl⟩
            rw [hwb] at HXb HWb HRb ⊢
            rw [hxc] at HRb ⊢
            clear hwb hxc hal HXa HWa HPb HXc
            rcases HCs2.out with ⟨hE, hu, hM, hno⟩ | ⟨hE, hpd, hM0, hal, hps⟩
            · subst hu hM
              have n1 : (E2 == 0) = false := by simpa using hE
              have n2 : (E2 != 0) = true := by simpa using hE
              clear hE hno HCs2
              go_wp2_with (first
                | (refine wpList_load_rowG rfl 31 (.tmp 12) rfl xc rfl 31 zeroW.cells (0, 0) _ HRb.out Try.underlying31 rfl size_wts ?_)
                | (go_at_call 12; refine (none_any _).mono ?_; rintro e wd ⟨rfl, hbd⟩; have HXd := Lib.hid (HXb.out.later hbd); clear hbd)
                | (go_at_call 8; refine (awake_any _).mono ?_; rintro e wz ⟨rfl, hbz⟩; have HBz := Lib.hid hbz; clear hbz))
              go_ret
              exact ⟨rfl, (HXd.out.later HBz.out).below⟩
            · subst hE
              have hcb := Parsed.back HBb.out.rng hpd
              have HEn2 := Lib.hid (encode_any wb u2 M2 HWb.out hal hps hM0 (by rw [hcb, HNb.out]; have := HBl.out; omega))
              rw [hcb, HNb.out] at HEn2
              clear hpd hM0 hal hps hcb HCs2
              have dt : decide (b = b) = true := by simp
              go_wp2_with (first
                | (refine wpList_load_rowG rfl 31 (.tmp 12) rfl xc rfl 31 u2.cells (0, 0) _ HRb.out Try.underlying31 rfl size_wts ?_)
                | (go_at_call 13; refine HEn2.out.mono ?_; rintro e wd ⟨sD, cD, rfl, hyD, hbd⟩; have HXd := Lib.hid (HXb.out.later hbd); have HDd := Lib.hid hyD; clear hbd hyD)
                | (go_at_call 14; refine (Cd.bytes_any _ sD sb nb nb cD cb b b HNb.out HNb.out HDd.out (HBb.out.below HXd.out.below)).mono ?_; rintro e wf ⟨rfl, qf, rfl⟩; have HXf := Lib.hid (HXd.out.later (drawn_below qf)))
                | (go_at_call 8; refine (awake_any _).mono ?_; rintro e wz ⟨rfl, hbz⟩; have HBz := Lib.hid hbz; clear hbz))
              go_ret
              exact ⟨rfl, (HXf.out.later HBz.out).below⟩
          · subst hE
            have HM0 := Lib.hid hM0
            have HPd := Lib.hid hpd
            have hcb := Parsed.back HY5.out.rng hpd
            have HCb := Lib.hid hcb
            have hM4 : u.nl ≤ 1000000 := by
              obtain ⟨hH, _⟩ := chk_zero hM0
              obtain ⟨hck, _, _, hnl⟩ := headE_zero hH
              have := (Cfg.ok_of_chk hck).l
              have := HW5.out.nl
              omega
            have HEn := Lib.hid (fun W (h : Below w5.heap.size w5 W) => encode_any W u M (HW5.out.later h) hal hps hM0 (by rw [hcb, HCN.out]; have := HCl.out; omega))
            have HRt2 := Lib.hid (fun W (h : Below w5.heap.size w5 W) => right_any W u M (HW5.out.later h) (by omega) (by omega) hM4)
            rw [hcb, HCN.out] at HEn
            rw [hM0] at HRt2
            clear hpd hM0 hal hps hcb hM4 HCs HSm HBk
            go_upto_region 8 with (first
              | (refine wpList_load_rowG rfl 31 (.tmp 8) rfl xb rfl 31 u.cells (0, 0) _ HR5.out Try.underlying31 rfl size_wts ?_)
              | (go_at_call 13; refine (HEn.out w5 (Below.refl _ _)).mono ?_; rintro e w7 ⟨sD, cD, rfl, hyD, hb7⟩; have HX7 := Lib.hid (HX5.out.later hb7); have HY7 := Lib.hid (HY5.out.below hb7); have HD7 := Lib.hid hyD; have HB7 := Lib.hid hb7; clear hb7 hyD))
            have dt : decide (CB = CB) = true := by simp
            go_upto_region 10 with (first
              | (refine wpList_load_rowG rfl 31 (.tmp 8) rfl xb rfl 31 u.cells (0, 0) _ ((HB8.out.block _ (Array.getElem?_eq_some_iff.1 HR5.out).1).trans HR5.out) Try.underlying31 rfl size_wts ?_)
              | (go_at_call 14; refine (Cd.bytes_any _ sC sD CN CN cC cD CB CB HCN.out HCN.out HY7.out HD7.out).mono ?_; rintro e w8 ⟨rfl, q8, rfl⟩; have HB8 := Lib.hid (HB7.out.trans ((drawn_below q8).mono HB7.out.size)); have HX8 := Lib.hid (HX7.out.later (drawn_below q8)))
              | (go_at_call 7; refine (HRt2.out _ HB8.out).mono ?_; rintro e w9 ⟨rfl, hb9⟩; have HX9 := Lib.hid (HX8.out.later hb9); clear hb9))
            clear dt HX5 HX7 HX8 HEn HRt2 HY5 HY7 HD7 HB7 HB8 HR5 HW5
            go_cut [93] (fun s wc => s = .bool false ∧ PsI w v (tcC at_ st nt ct aw cu) wc)
            case first =>
              by_cases hc : cu = 0
              · have z1 : (cu == 0) = true := by rw [hc]; rfl
                by_cases ha : at_ < 0
                · have z2 : decide (at_ < 0) = true := by simpa using ha
                  clear hc ha
                  have t3 : w9.cell? ⟨w.heap.size + 1, 3, none⟩ = some (.int .i64 cu) := HX9.out.tr 3
                  have t0 : w9.cell? ⟨w.heap.size + 1, 0, none⟩ = some (.int .i64 at_) := HX9.out.tr 0
                  go_quiet (fail)
                  go_wp2
                  go_meet
                  exact ⟨rfl, HX9.out.later (drawn_below _)⟩
                · have z2 : decide (at_ < 0) = false := by simpa using ha
                  obtain ⟨GT, hGT⟩ : ∃ GT, decide ((LN : Int) < at_) = GT := ⟨_, rfl⟩
                  have HGT := Lib.hid hGT
                  have HZ1 := Lib.hid z1
                  have HZ2 := Lib.hid z2
                  clear hc ha hGT z1 z2
                  refine Tn.wp_region_spec (C := fun W => Below w9.heap.size w9 W) (Le := fun A B => Below A.heap.size A B) 17
                    (fun _ j W v' => (j < 11 → v' = ([.pointer (some ⟨w.heap.size + 1, 3, none⟩), .int .i64 cu, .bool true, .bool true, .pointer (some ⟨w.heap.size + 1, 0, none⟩), .int .i64 at_, .bool false, .bool false, .pointer (some ⟨w.heap.size + 1, 0, none⟩), .int .i64 at_, .agg v.cells] : List Value).getD j undef) ∧ (j = 11 → ∃ sL cL, v' = .slice sL LN cL) ∧ (12 ≤ j → j < 17 → v' = ([.int .i64 (LN : Int), .bool GT, .bool GT, .bool GT, .bool GT] : List Value).getD (j - 12) undef))
                    (by kernel_rfl) (by kernel_rfl) ⟨rfl, rfl, rfl, Nat.le_refl _, fun _ _ => rfl⟩ (fun _ _ _ _ _ _ h => h)
                    (fun _ _ A B v' hl h => h)
                    (fun j v' => (j < 11 → v' = ([.pointer (some ⟨w.heap.size + 1, 3, none⟩), .int .i64 cu, .bool true, .bool true, .pointer (some ⟨w.heap.size + 1, 0, none⟩), .int .i64 at_, .bool false, .bool false, .pointer (some ⟨w.heap.size + 1, 0, none⟩), .int .i64 at_, .agg v.cells] : List Value).getD j undef) ∧ (j = 11 → ∃ sL cL, v' = .slice sL LN cL) ∧ (12 ≤ j → j < 17 → v' = ([.int .i64 (LN : Int), .bool GT, .bool GT, .bool GT, .bool GT] : List Value).getD (j - 12) undef)) (fun _ _ _ _ h => h)
                    (fun j => if j < 11 then ([.pointer (some ⟨w.heap.size + 1, 3, none⟩), .int .i64 cu, .bool true, .bool true, .pointer (some ⟨w.heap.size + 1, 0, none⟩), .int .i64 at_, .bool false, .bool false, .pointer (some ⟨w.heap.size + 1, 0, none⟩), .int .i64 at_, .agg v.cells] : List Value).getD j undef else if j = 11 then .slice none LN 0 else ([.int .i64 (LN : Int), .bool GT, .bool GT, .bool GT, .bool GT] : List Value).getD (j - 12) undef) (fun j => ⟨fun e => by rw [if_pos e], fun e => by rw [if_neg (by omega), if_pos e]; exact ⟨_, _, rfl⟩, fun e _ => by rw [if_neg (by omega), if_neg (by omega)]⟩) ?_ ?_
                  · intro u hu
                    have e0 : u 0 = .pointer (some ⟨w.heap.size + 1, 3, none⟩) := (hu 0).1 (by decide)
                    have e1 : u 1 = .int .i64 cu := (hu 1).1 (by decide)
                    have e2 : u 2 = .bool true := (hu 2).1 (by decide)
                    have e3 : u 3 = .bool true := (hu 3).1 (by decide)
                    have e4 : u 4 = .pointer (some ⟨w.heap.size + 1, 0, none⟩) := (hu 4).1 (by decide)
                    have e5 : u 5 = .int .i64 at_ := (hu 5).1 (by decide)
                    have e6 : u 6 = .bool false := (hu 6).1 (by decide)
                    have e7 : u 7 = .bool false := (hu 7).1 (by decide)
                    have e8 : u 8 = .pointer (some ⟨w.heap.size + 1, 0, none⟩) := (hu 8).1 (by decide)
                    have e9 : u 9 = .int .i64 at_ := (hu 9).1 (by decide)
                    have e10 : u 10 = .agg v.cells := (hu 10).1 (by decide)
                    obtain ⟨sL, cL, e11⟩ := (hu 11).2.1 rfl
                    have e12 : u 12 = .int .i64 (LN : Int) := (hu 12).2.2 (by decide) (by decide)
                    have e13 : u 13 = .bool GT := (hu 13).2.2 (by decide) (by decide)
                    have e14 : u 14 = .bool GT := (hu 14).2.2 (by decide) (by decide)
                    have e15 : u 15 = .bool GT := (hu 15).2.2 (by decide) (by decide)
                    have e16 : u 16 = .bool GT := (hu 16).2.2 (by decide) (by decide)
                    simp only [List.take_succ_cons, List.take_zero]
                    refine Tn.spec_cons (fun Y hC hd => ⟨by rfl, Tn.gives_val (.pointer (some ⟨w.heap.size + 1, 3, none⟩)) Y (exec_tf3 (.tmp 4) rfl (w.heap.size + 1) rfl) ⟨hC, Below.refl _ _, fun _ => rfl, (fun e => by omega), (fun e => by omega)⟩⟩) ?_
                    simp only [Act.put, List.setIfInBounds_toArray, List.set_cons_succ, List.set_cons_zero, Nat.reduceAdd]
                    rw [e0]
                    refine Tn.spec_cons (fun Y hC hd => ⟨by rfl, Tn.gives_val (.int .i64 cu) Y (Bp.exec_load1 3 (.tmp 74) rfl ⟨w.heap.size + 1, 3, none⟩ rfl _ ((HX9.out.later hC).tr 3) _ Try.underlying3 rfl) ⟨hC, Below.refl _ _, fun _ => rfl, (fun e => by omega), (fun e => by omega)⟩⟩) ?_
                    simp only [Act.put, List.setIfInBounds_toArray, List.set_cons_succ, List.set_cons_zero, Nat.reduceAdd]
                    rw [e1]
                    refine Tn.spec_cons (fun Y hC hd => ⟨by rfl, Tn.gives_val (.bool true) Y (exec_eqP (.tmp 75) (.const (.int .i64 0)) rfl cu 0 true HZ1.out rfl rfl) ⟨hC, Below.refl _ _, fun _ => rfl, (fun e => by omega), (fun e => by omega)⟩⟩) ?_
                    simp only [Act.put, List.setIfInBounds_toArray, List.set_cons_succ, List.set_cons_zero, Nat.reduceAdd]
                    rw [e2]
                    refine Tn.spec_cons (fun Y hC hd => ⟨by rfl, Tn.gives_val (.bool true) Y (by rfl) ⟨hC, Below.refl _ _, fun _ => rfl, (fun e => by omega), (fun e => by omega)⟩⟩) ?_
                    simp only [Act.put, List.setIfInBounds_toArray, List.set_cons_succ, List.set_cons_zero, Nat.reduceAdd]
                    rw [e3]
                    refine Tn.spec_cons (fun Y hC hd => ⟨by rfl, Tn.gives_val (.pointer (some ⟨w.heap.size + 1, 0, none⟩)) Y (exec_tf0 (.tmp 4) rfl (w.heap.size + 1) rfl) ⟨hC, Below.refl _ _, fun _ => rfl, (fun e => by omega), (fun e => by omega)⟩⟩) ?_
                    simp only [Act.put, List.setIfInBounds_toArray, List.set_cons_succ, List.set_cons_zero, Nat.reduceAdd]
                    rw [e4]
                    refine Tn.spec_cons (fun Y hC hd => ⟨by rfl, Tn.gives_val (.int .i64 at_) Y (Bp.exec_load1 3 (.tmp 78) rfl ⟨w.heap.size + 1, 0, none⟩ rfl _ ((HX9.out.later hC).tr 0) _ Try.underlying3 rfl) ⟨hC, Below.refl _ _, fun _ => rfl, (fun e => by omega), (fun e => by omega)⟩⟩) ?_
                    simp only [Act.put, List.setIfInBounds_toArray, List.set_cons_succ, List.set_cons_zero, Nat.reduceAdd]
                    rw [e5]
                    refine Tn.spec_cons (fun Y hC hd => ⟨by rfl, Tn.gives_val (.bool false) Y (exec_lsP (.tmp 79) (.const (.int .i64 0)) rfl at_ 0 false HZ2.out rfl rfl) ⟨hC, Below.refl _ _, fun _ => rfl, (fun e => by omega), (fun e => by omega)⟩⟩) ?_
                    simp only [Act.put, List.setIfInBounds_toArray, List.set_cons_succ, List.set_cons_zero, Nat.reduceAdd]
                    rw [e6]
                    refine Tn.spec_cons (fun Y hC hd => ⟨by rfl, Tn.gives_val (.bool false) Y (by rfl) ⟨hC, Below.refl _ _, fun _ => rfl, (fun e => by omega), (fun e => by omega)⟩⟩) ?_
                    simp only [Act.put, List.setIfInBounds_toArray, List.set_cons_succ, List.set_cons_zero, Nat.reduceAdd]
                    rw [e7]
                    refine Tn.spec_cons (fun Y hC hd => ⟨by rfl, Tn.gives_val (.pointer (some ⟨w.heap.size + 1, 0, none⟩)) Y (exec_tf0 (.tmp 4) rfl (w.heap.size + 1) rfl) ⟨hC, Below.refl _ _, fun _ => rfl, (fun e => by omega), (fun e => by omega)⟩⟩) ?_
                    simp only [Act.put, List.setIfInBounds_toArray, List.set_cons_succ, List.set_cons_zero, Nat.reduceAdd]
                    rw [e8]
                    refine Tn.spec_cons (fun Y hC hd => ⟨by rfl, Tn.gives_val (.int .i64 at_) Y (Bp.exec_load1 3 (.tmp 82) rfl ⟨w.heap.size + 1, 0, none⟩ rfl _ ((HX9.out.later hC).tr 0) _ Try.underlying3 rfl) ⟨hC, Below.refl _ _, fun _ => rfl, (fun e => by omega), (fun e => by omega)⟩⟩) ?_
                    simp only [Act.put, List.setIfInBounds_toArray, List.set_cons_succ, List.set_cons_zero, Nat.reduceAdd]
                    rw [e9]
                    refine Tn.spec_cons (fun Y hC hd => ⟨by rfl, Tn.gives_val (.agg v.cells) Y (exec_load_row 31 (.tmp 3) rfl w.heap.size rfl 31 v.cells (0, 0) _ (HX9.out.later hC).row Try.underlying31 rfl size_wts) ⟨hC, Below.refl _ _, fun _ => rfl, (fun e => by omega), (fun e => by omega)⟩⟩) ?_
                    simp only [Act.put, List.setIfInBounds_toArray, List.set_cons_succ, List.set_cons_zero, Nat.reduceAdd]
                    rw [e10]
                    refine Tn.spec_cons (fun Y hC hd => ⟨by rfl, Tn.gives_call _ _ (Tn.exec_call1 10 (.tmp 84) #[31] _ rfl rfl (cf Try.func10 (by kernel_rfl) (by kernel_rfl) _ _)) ((HLw.out Y (HX9.out.later hC)).mono fun e2 Y' ⟨val, base, e3, hlv, _, hb3⟩ => by
                      obtain ⟨sp, cap, ev, _⟩ := hlv.pieces
                      rw [HLN.out] at ev
                      exact ⟨_, e3, hC.trans (hb3.mono hC.size), hb3, (fun e => by omega), (fun _ => ⟨sp, cap, ev⟩), (fun e => by omega)⟩)⟩) ?_
                    simp only [Act.put, List.setIfInBounds_toArray, List.set_cons_succ, List.set_cons_zero, Nat.reduceAdd]
                    rw [e11]
                    refine Tn.spec_cons (fun Y hC hd => ⟨by rfl, Tn.gives_val (.int .i64 (LN : Int)) Y (exec_lenS (.tmp 85) rfl sL LN cL rfl) ⟨hC, Below.refl _ _, (fun e => by omega), (fun e => by omega), (fun _ _ => rfl)⟩⟩) ?_
                    simp only [Act.put, List.setIfInBounds_toArray, List.set_cons_succ, List.set_cons_zero, Nat.reduceAdd]
                    rw [e12]
                    refine Tn.spec_cons (fun Y hC hd => ⟨by rfl, Tn.gives_val (.bool GT) Y (exec_gtP (.tmp 83) (.tmp 86) rfl at_ (LN : Int) GT HGT.out rfl rfl) ⟨hC, Below.refl _ _, (fun e => by omega), (fun e => by omega), (fun _ _ => rfl)⟩⟩) ?_
                    simp only [Act.put, List.setIfInBounds_toArray, List.set_cons_succ, List.set_cons_zero, Nat.reduceAdd]
                    rw [e13]
                    refine Tn.spec_cons (fun Y hC hd => ⟨by rfl, Tn.gives_val (.bool GT) Y (by rfl) ⟨hC, Below.refl _ _, (fun e => by omega), (fun e => by omega), (fun _ _ => rfl)⟩⟩) ?_
                    simp only [Act.put, List.setIfInBounds_toArray, List.set_cons_succ, List.set_cons_zero, Nat.reduceAdd]
                    rw [e14]
                    refine Tn.spec_cons (fun Y hC hd => ⟨by rfl, Tn.gives_val (.bool GT) Y (by rfl) ⟨hC, Below.refl _ _, (fun e => by omega), (fun e => by omega), (fun _ _ => rfl)⟩⟩) ?_
                    simp only [Act.put, List.setIfInBounds_toArray, List.set_cons_succ, List.set_cons_zero, Nat.reduceAdd]
                    rw [e15]
                    refine Tn.spec_cons (fun Y hC hd => ⟨by rfl, Tn.gives_val (.bool GT) Y (by rfl) ⟨hC, Below.refl _ _, (fun e => by omega), (fun e => by omega), (fun _ _ => rfl)⟩⟩) ?_
                    simp only [Act.put, List.setIfInBounds_toArray, List.set_cons_succ, List.set_cons_zero, Nat.reduceAdd]
                    rw [e16]
                    exact Tn.spec_nil
                  intro u Y hu hC hP
                  simp only [List.take_succ_cons, List.take_zero, List.drop_succ_cons, List.drop_zero, Tn.putAll, Act.put, List.setIfInBounds_toArray, List.set_cons_succ, List.set_cons_zero, Nat.reduceAdd]
                  have e0 : u 0 = .pointer (some ⟨w.heap.size + 1, 3, none⟩) := (hu 0).1 (by decide)
                  have e1 : u 1 = .int .i64 cu := (hu 1).1 (by decide)
                  have e2 : u 2 = .bool true := (hu 2).1 (by decide)
                  have e3 : u 3 = .bool true := (hu 3).1 (by decide)
                  have e4 : u 4 = .pointer (some ⟨w.heap.size + 1, 0, none⟩) := (hu 4).1 (by decide)
                  have e5 : u 5 = .int .i64 at_ := (hu 5).1 (by decide)
                  have e6 : u 6 = .bool false := (hu 6).1 (by decide)
                  have e7 : u 7 = .bool false := (hu 7).1 (by decide)
                  have e8 : u 8 = .pointer (some ⟨w.heap.size + 1, 0, none⟩) := (hu 8).1 (by decide)
                  have e9 : u 9 = .int .i64 at_ := (hu 9).1 (by decide)
                  have e10 : u 10 = .agg v.cells := (hu 10).1 (by decide)
                  obtain ⟨sL, cL, e11⟩ := (hu 11).2.1 rfl
                  have e12 : u 12 = .int .i64 (LN : Int) := (hu 12).2.2 (by decide) (by decide)
                  have e13 : u 13 = .bool GT := (hu 13).2.2 (by decide) (by decide)
                  have e14 : u 14 = .bool GT := (hu 14).2.2 (by decide) (by decide)
                  have e15 : u 15 = .bool GT := (hu 15).2.2 (by decide) (by decide)
                  have e16 : u 16 = .bool GT := (hu 16).2.2 (by decide) (by decide)
                  rw [e0, e1, e2, e3, e4, e5, e6, e7, e8, e9, e10, e11, e12, e13, e14, e15, e16]
                  have HXY := Lib.hid (HX9.out.later hC)
                  clear hu hC hP e0 e1 e2 e3 e4 e5 e6 e7 e8 e9 e10 e11 e12 e13 e14 e15 e16
                  cases GT with
                  | false =>
                    go_wp2
                    go_meet
                    exact ⟨rfl, HXY.out⟩
                  | true =>
                    go_wp2
                    go_meet
                    exact ⟨rfl, HXY.out⟩
              · have z1 : (cu == 0) = false := by simpa using hc
                clear hc
                have t3 : w9.cell? ⟨w.heap.size + 1, 3, none⟩ = some (.int .i64 cu) := HX9.out.tr 3
                have t0 : w9.cell? ⟨w.heap.size + 1, 0, none⟩ = some (.int .i64 at_) := HX9.out.tr 0
                go_quiet (fail)
                go_wp2
                go_meet
                exact ⟨rfl, HX9.out.later (drawn_below _)⟩
            obtain ⟨rfl, hxc⟩ := hcut
            have HXc := Lib.hid hxc
            clear hxc HX9
            have HPb := Lib.hid (parse_any wc sb cb nb b HNb.out (HBb.out.below HXc.out.below) (by have := HBl.out; omega) (fun h ls hs hj => by
              have k1 := piece_le (ps := h :: ls) (p := h) (by simp)
              rw [hj, HNb.out] at k1
              have := HBl.out
              refine ⟨by omega, fun p hp => ?_, good_short (by omega)⟩
              have k2 := piece_le (ps := h :: ls) (p := p) (by simp [hp])
              rw [hj, HNb.out] at k2
              omega))
            go_upto_region 13 with (first
              | (go_at_call 11; refine HPb.out.mono ?_; rintro e wa ⟨u2, M2, E2, rfl, hwv, hba, hcase⟩; have HXa := Lib.hid (HXc.out.later hba); have HWa := Lib.hid hwv; have HCs2 := Lib.hid hcase; clear hba hwv hcase)
              | (refine wpList_store_newW rfl 31 (.tmp 12) (.tmp 97) rfl u2.cells zeroC 31 rfl rfl rfl size_wts rfl (wv_one u2) ?_))
            have hal : Below wa.heap.size wa (wa.alloc (.cells u2.cells 31)) := (Below.refl _ _).alloc (Nat.le_refl _) _
            have HXb := Lib.hid (HXa.out.later hal)
            have HWb := Lib.hid (HWa.out.later hal)
            have HRb := Lib.hid (heap_alloc_new wa (.cells u2.cells 31))
            obtain ⟨xc, hxc⟩ : ∃ xc, wa.heap.size = xc := ⟨_, rfl⟩
            obtain ⟨wb, hwb⟩ : ∃ wb, wa.alloc (.cells u2.cells 31) = wb := ⟨_, rfl⟩
            rw [hwb] at HXb HWb HRb ⊢
            rw [hxc] at HRb ⊢
            clear hwb hxc hal HXa HWa HPb HXc
            rcases HCs2.out with ⟨hE, hu, hM, hno⟩ | ⟨hE, hpd, hM0, hal, hps⟩
            · subst hu hM
              have n1 : (E2 == 0) = false := by simpa using hE
              have n2 : (E2 != 0) = true := by simpa using hE
              clear hE hno HCs2
              go_wp2_with (first
                | (refine wpList_load_rowG rfl 31 (.tmp 12) rfl xc rfl 31 zeroW.cells (0, 0) _ HRb.out Try.underlying31 rfl size_wts ?_)
                | (go_at_call 12; refine (none_any _).mono ?_; rintro e wd ⟨rfl, hbd⟩; have HXd := Lib.hid (HXb.out.later hbd); clear hbd)
                | (go_at_call 8; refine (awake_any _).mono ?_; rintro e wz ⟨rfl, hbz⟩; have HBz := Lib.hid hbz; clear hbz))
              go_ret
              exact ⟨rfl, (HXd.out.later HBz.out).below⟩
            · subst hE
              have hcb := Parsed.back HBb.out.rng hpd
              have HEn2 := Lib.hid (encode_any wb u2 M2 HWb.out hal hps hM0 (by rw [hcb, HNb.out]; have := HBl.out; omega))
              rw [hcb, HNb.out] at HEn2
              clear hpd hM0 hal hps hcb HCs2
              have dt : decide (b = b) = true := by simp
              go_wp2_with (first
                | (refine wpList_load_rowG rfl 31 (.tmp 12) rfl xc rfl 31 u2.cells (0, 0) _ HRb.out Try.underlying31 rfl size_wts ?_)
                | (go_at_call 13; refine HEn2.out.mono ?_; rintro e wd ⟨sD, cD, rfl, hyD, hbd⟩; have HXd := Lib.hid (HXb.out.later hbd); have HDd := Lib.hid hyD; clear hbd hyD)
                | (go_at_call 14; refine (Cd.bytes_any _ sD sb nb nb cD cb b b HNb.out HNb.out HDd.out (HBb.out.below HXd.out.below)).mono ?_; rintro e wf ⟨rfl, qf, rfl⟩; have HXf := Lib.hid (HXd.out.later (drawn_below qf)))
                | (go_at_call 8; refine (awake_any _).mono ?_; rintro e wz ⟨rfl, hbz⟩; have HBz := Lib.hid hbz; clear hbz))
              go_ret
              exact ⟨rfl, (HXf.out.later HBz.out).below⟩
        · obtain ⟨E, hEE⟩ : ∃ E, m.chk = E := ⟨_, rfl⟩
          rw [hEE] at HRt hE
          have n1 : (E == 0) = false := by simpa using hE
          have n2 : (E != 0) = true := by simpa using hE
          clear hal hps hn4 hE hEE hnm hnm2
          go_wp2_with (first
            | (refine wpList_load_rowG rfl 31 (.tmp 3) rfl w.heap.size rfl 31 v.cells (0, 0) _ HX1.out.row Try.underlying31 rfl size_wts ?_)
            | (go_at_call 7; refine (HRt.out _ HX1.out).mono ?_; rintro e w2 ⟨rfl, hb2⟩; have HX2 := Lib.hid (HX1.out.later hb2); clear hb2)
            | (go_at_call 8; refine (awake_any _).mono ?_; rintro e wz ⟨rfl, hbz⟩; have HBz := Lib.hid hbz; clear hbz))
          go_ret
          exact ⟨rfl, (HX2.out.later HBz.out).below⟩
end Go.Proofs.Ytkfkjapkcjidnaa.Wg
