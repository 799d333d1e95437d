import Derived.Test.YtchjijifmjbgoaaDoorGd
namespace Go.Proofs.YtchjijifmjbgoaaDoor.Tn
open Go.ChangeShapes Go.WideShapes Go.ChangeAt Go.RowKit Go.Proofs.YtchjijifmjbgoaaDoor.Fx Go.Proofs.YtchjijifmjbgoaaDoor.Rf

section
variable {W : World} {ops : Array Oper} {rest : List Oper} {o : Oper} {a : Act} {Q : Exit → Act → World → Prop}
/-- append of one number to a row of the call's own -/
theorem wpList_push (hgd : o.guard = none) (s x : Operand) (ho : o.op = .call { callee := .builtin .append, args := #[s, x], argTypes := #[22, 22] }) (base : Nat) (v : Value) (n : Nat) (l : List Int) (y : Int) (hs : a.eval s = v) (hown : W.ownsRow base 3 1 v n (l.map (Value.int .i64)))
    (hx : a.eval x = .slice (some ⟨W.heap.size, 0, none⟩) 1 1) (hn : n ≤ 999999) (hbase : base ≤ W.heap.size)
    (h : ∀ v' w', w'.ownsRow base 3 1 v' (n + 1) ((l ++ [y]).map (Value.int .i64)) → Below base W w' → wpList Tryd.prog ops Q rest (a.put o.dst v') w') : wpList Tryd.prog ops Q (o :: rest) a (W.alloc (.cells #[.int .i64 y] 3)) := by
  have hb : Below W.heap.size W (W.alloc (.cells #[.int .i64 y] 3)) := (Below.refl _ _).alloc (Nat.le_refl _) _
  have hsl : Sl (W.alloc (.cells #[.int .i64 y] 3)) (some ⟨W.heap.size, 0, none⟩) 1 [.int .i64 y] := Sl.new W [.int .i64 y] #[.int .i64 y] 3 (0, 0) rfl (by simp)
  have ho' := owns_below hown hb
  refine wpList_append_sl 22 3 8 (.int .i64 0) Tryd.underlying22 info3 rfl (by decide) hgd s x ho base v n 1 (l.map (Value.int .i64)) [.int .i64 y] hs ho' (some ⟨W.heap.size, 0, none⟩) 1 hx rfl hsl (fun v hv => by simp at hv; subst hv; rfl) (by omega) (by simp; omega) ?_
  intro v' w' h1 h2
  refine h v' w' (by rw [List.map_append]; exact h1) ((hb.mono hbase).trans (Below.ofGrown h2 (by simp; omega) (fun k hk => (ho'.lt k hk).1)))
end
/-- a slice of numbers that is answered -/
def AnsN (w : World) (l : List Int) (e : Ending) (w' : World) : Prop := ∃ sp cap, e = .returned (.slice sp l.length cap) ∧ Nums w' sp cap l ∧ Below w.heap.size w w'
theorem fold_take (l : List Int) (a : Int) (k : Nat) (h : k < l.length) : (l.take (k + 1)).foldl max a = max ((l.take k).foldl max a) (l.getD k 0) := by
  rw [take_snoc l k h, List.foldl_append]
  rfl
theorem fold_in {l : List Int} (h : ∀ x ∈ l, isN x) {a : Int} (ha : isN a) (k : Nat) : isN ((l.take k).foldl max a) := by
  rcases (fold_max (l.take k) a).2.2 with h1 | h1
  · rw [h1]; exact ha
  · exact h _ (List.mem_of_mem_take h1)
theorem sum_take (l : List Int) (k : Nat) (h : k < l.length) : (l.take (k + 1)).sum = (l.take k).sum + l.getD k 0 := by
  rw [take_snoc l k h, List.sum_append]
  simp
theorem exs_get {l : List Int} (i : Nat) (hi : i < l.length) : (exs l).getD i 0 = ex (l.getD i 0 - mostL l) := by simp [exs, hi]
theorem exs_length (l : List Int) : (exs l).length = l.length := by simp [exs]
theorem sum_take_in {l : List Int} (h : ∀ e ∈ l, 0 ≤ e ∧ e ≤ 65536) (hl : l.length ≤ 512) (k : Nat) : 0 ≤ (l.take k).sum ∧ (l.take k).sum ≤ 33554432 := by
  have h1 := sum_in (A := 65536) (l.take k) (fun e he => h e (List.mem_of_mem_take he))
  have h2 : ((l.take k).length : Int) ≤ 512 := by simp; omega
  have h3 : ((l.take k).length : Int) * 65536 ≤ 512 * 65536 := Int.mul_le_mul_of_nonneg_right h2 (by omega)
  omega
/-- while the exponents are collected -/
structure SmA (w : World) (l : List Int) (k : Nat) (v : Value) (wr : World) : Prop where
  below : Below w.heap.size w wr
  own : wr.ownsRow w.heap.size 3 1 v k (((exs l).take k).map (Value.int .i64))
/-- while they become shares -/
def smk (l : List Int) (k : Nat) : List Int := (smx l).take k ++ (exs l).drop k
theorem smk_length (l : List Int) (k : Nat) (h : k ≤ l.length) : (smk l k).length = l.length := by simp [smk, smx_length, exs_length]; omega
theorem smk_get (l : List Int) (k : Nat) (h : k < l.length) : (smk l k).getD k 0 = ex (l.getD k 0 - mostL l) := by
  unfold smk
  rw [List.getD_eq_getElem?_getD, List.getElem?_append_right (by simp; omega)]
  have : k - ((smx l).take k).length = 0 := by simp [smx_length]; omega
  rw [this]
  have h2 := exs_get (l := l) k h
  rw [List.getD_eq_getElem?_getD] at h2
  simpa using h2
theorem smk_set (l : List Int) (k : Nat) (h : k < l.length) : (smk l k).set k ((smx l).getD k 0) = smk l (k + 1) := by
  unfold smk
  rw [take_snoc (smx l) k (by rw [smx_length]; exact h), List.set_append_right _ _ (by simp; omega)]
  have e : k - ((smx l).take k).length = 0 := by simp [smx_length]; omega
  rw [e, List.append_assoc]
  congr 1
  rw [List.drop_eq_getElem_cons (show k < (exs l).length by rw [exs_length]; exact h)]
  rfl
structure SmB (w : World) (l : List Int) (N k : Nat) (v : Value) (wr : World) : Prop where
  below : Below w.heap.size w wr
  own : wr.ownsRow w.heap.size 3 1 v N ((smk l k).map (Value.int .i64))
set_option maxRecDepth 100000 in
set_option maxHeartbeats 4000000 in
theorem rsoftmax_any (w : World) (sp : Option Addr) (cap N : Nat) (l : List Int) (hN : l.length = N) (hl : Nums w sp cap l) (h0 : 1 ≤ N) (h5 : N ≤ 512) (hi : ∀ x ∈ l, isN x) :
    Calls Tryd.prog 24 #[.slice sp N cap] w (AnsN w (smx l)) := by
  have HL := Lib.hid hl
  have HN := Lib.hid hN
  have HI := Lib.hid (fun i h => in_of (p := isN) hi i h)
  have HF := Lib.hid (fun k => fold_in hi (in_of hi 0 (by omega)) k)
  have HLe := Lib.hid (most_le l)
  clear hl hN hi
  obtain ⟨g, o, rfl, hc0⟩ := HL.out.at_ 0 (by rw [HN.out]; omega)
  obtain ⟨z, hz⟩ : ∃ z, l.getD 0 0 = z := ⟨_, rfl⟩
  rw [hz, Nat.add_zero] at hc0
  rw [hz] at HF
  have HZ := Lib.hid hz
  clear hz
  have hN0 : 0 < N := by omega
  go_enter Tryd.func24, Tryd.ntmps24
  go_wp2
  go_loop [3, 4] (fun m i => ∃ k : Nat, k ≤ N ∧ i = .int .i64 k ∧ m = .int .i64 ((l.take k).foldl max z)) (fun _ i => N - (intOf i).toNat)
  case atStart => exact ⟨0, by omega, rfl, rfl⟩
  case round =>
    obtain ⟨k, hk, rfl, rfl⟩ := hrel
    by_cases hlt : k < N
    · have hdt : decide (k < N) = true := by simp; omega
      obtain ⟨g', o', e, hc⟩ := HL.out.at_ k (by rw [HN.out]; exact hlt)
      cases e
      have HT := Lib.hid (fold_take l z k (by rw [HN.out]; exact hlt))
      obtain ⟨x, hx⟩ : ∃ x, l.getD k 0 = x := ⟨_, rfl⟩
      obtain ⟨m, hm⟩ : ∃ m, (l.take k).foldl max z = m := ⟨_, rfl⟩
      rw [hx] at hc HT
      rw [hm] at HT ⊢
      clear hx hm
      by_cases hxm : x ≤ m
      · have HT2 : Hid ((l.take (k + 1)).foldl max z = m) := Lib.hid (by rw [HT.out]; exact Int.max_eq_left hxm)
        go_wp2
        all_goals go_round
        all_goals first
          | (case rel => exact ⟨k + 1, by omega, by go_num, by rw [HT2.out]⟩)
          | (case measure => simp [intOf]; omega)
      · have HT2 : Hid ((l.take (k + 1)).foldl max z = x) := Lib.hid (by rw [HT.out]; exact Int.max_eq_right (by omega))
        go_wp2
        all_goals go_round
        all_goals first
          | (case rel => exact ⟨k + 1, by omega, by go_num, by rw [HT2.out]⟩)
          | (case measure => simp [intOf]; omega)
    · obtain rfl : k = N := by omega
      have hdf : decide (k < k) = false := by simp
      have HT : Hid ((l.take k).foldl max z = mostL l) := Lib.hid (by rw [List.take_of_length_le (by rw [HN.out]; omega), mostL, HZ.out])
      have hM := HF.out k
      rw [HT.out] at hM ⊢
      obtain ⟨m, hm⟩ : ∃ m, mostL l = m := ⟨_, rfl⟩
      rw [hm] at hM HLe ⊢
      have HMo := Lib.hid hm
      obtain ⟨hm1, hm2⟩ : -2147483648 ≤ m ∧ m ≤ 2147483647 := hM
      clear hm HT HF hlt hk
      go_wp2
      go_loopw [5, 6, 7] (fun v s i wr => ∃ j : Nat, j ≤ k ∧ i = .int .i64 j ∧ s = .int .i64 ((exs l).take j).sum ∧ SmA w l j v wr) (fun _ _ i _ => k - (intOf i).toNat)
      case atStart => exact ⟨0, by omega, rfl, rfl, Below.refl _ _, World.ownsRow_nil _ _ _ _⟩
      case round =>
        obtain ⟨j, hj, rfl, rfl, hS⟩ := hrel
        obtain ⟨sv, cv, rfl, _, _, _⟩ := Sl.all1 hS.own
        have HS := Lib.hid hS
        have hss := sum_take_in (l := exs l) exs_in (by rw [exs_length, HN.out]; omega) j
        clear hS
        by_cases hlt : j < k
        · have hdt : decide (j < k) = true := by simp; omega
          obtain ⟨g', o', e, hc⟩ := HL.out.at_ j (by rw [HN.out]; exact hlt)
          cases e
          have hcr : wr.cell? ⟨g, o + j, none⟩ = _ := (HS.out.below.cell (p := ⟨g, o + j, none⟩) (block_lt_of_cell hc)).trans hc
          have HT := Lib.hid (sum_take (exs l) j (by rw [exs_length, HN.out]; exact hlt))
          have HQ := Lib.hid (take_snoc (exs l) j (by rw [exs_length, HN.out]; exact hlt))
          have hex := exs_get (l := l) j (by rw [HN.out]; exact hlt)
          have hxi := HI.out j (by rw [HN.out]; exact hlt)
          have hxm := HLe.out (l.getD j 0) (by rw [List.getD_eq_getElem?_getD, List.getElem?_eq_getElem (by rw [HN.out]; exact hlt)]; exact List.getElem_mem _)
          rw [hex] at HT HQ
          rw [HMo.out] at HT HQ
          obtain ⟨x, hx⟩ : ∃ x, l.getD j 0 = x := ⟨_, rfl⟩
          rw [hx] at hcr hxi hxm HT HQ
          obtain ⟨x1, x2⟩ : -2147483648 ≤ x ∧ x ≤ 2147483647 := ⟨hxi.1, hxi.2⟩
          obtain ⟨S, hS⟩ : ∃ S, ((exs l).take j).sum = S := ⟨_, rfl⟩
          rw [hS] at hss HT ⊢
          obtain ⟨s1, s2⟩ := hss
          have hE := ex_le (x - m)
          have hwsz := HS.out.below.size
          clear hx hS hex hxi hc
          go_wp2_with fail
          refine (rexp_any wr (x - m) (by omega) (by omega)).mono ?_
          rintro e w1 ⟨rfl, hb1⟩
          obtain ⟨E, hEE⟩ : ∃ E, ex (x - m) = E := ⟨_, rfl⟩
          rw [hEE] at hE HT HQ ⊢
          obtain ⟨E1, E2⟩ := hE
          have HO := Lib.hid (owns_below HS.out.own hb1)
          have HB := Lib.hid (HS.out.below.trans (hb1.mono hwsz))
          have hsz := HB.out.size
          clear hEE hb1 hcr
          go_wp2_with (refine wpList_push rfl (.tmp 38) (.tmp 40) rfl w.heap.size (.slice sv j cv) j ((exs l).take j) E rfl HO.out rfl (by omega) hsz ?_; intro v2 w2 hown2 hb2; have HO2 := Lib.hid hown2; have HB2 := Lib.hid (HB.out.trans hb2); clear hown2 hb2)
          go_roundw
          case rel => exact ⟨j + 1, by omega, by go_num, by rw [HT.out], HB2.out, by rw [HQ.out]; exact HO2.out⟩
          case measure => simp [intOf]; omega
        · obtain rfl : j = k := by omega
          have hdf : decide (j < j) = false := by simp
          have hT : (exs l).take j = exs l := List.take_of_length_le (by rw [exs_length, HN.out]; omega)
          rw [hT]
          have ho := HS.out.own
          rw [hT] at ho
          have hss := exs_sum (l := l) (by rw [HN.out]; omega) (by rw [HN.out]; omega)
          have HBl := Lib.hid HS.out.below
          rcases ho.2 with ⟨e, h0'⟩ | ⟨gb, cb, cur, e, hbg, _⟩
          · exfalso; omega
          simp only [Value.slice.injEq, true_and] at e
          obtain ⟨rfl, rfl⟩ := e
          have HO := Lib.hid ho
          have HG : Hid (∀ i, i < j → (smx l).getD i 0 = ex (l.getD i 0 - m) * 65536 / (exs l).sum) := Lib.hid (fun i hi => by rw [smx_get i (by rw [HN.out]; exact hi), HMo.out])
          have HK : Hid (∀ i, i < j → (smk l i).getD i 0 = ex (l.getD i 0 - m)) := Lib.hid (fun i hi => by rw [smk_get l i (by rw [HN.out]; exact hi), HMo.out])
          obtain ⟨S, hS⟩ : ∃ S, (exs l).sum = S := ⟨_, rfl⟩
          rw [hS] at hss HG ⊢
          obtain ⟨s1, s2⟩ := hss
          clear hT ho hS HS HI HLe
          go_wp2
          go_loopw [9] (fun i wr => ∃ q : Nat, q ≤ j ∧ i = .int .i64 q ∧ SmB w l j q (.slice (some ⟨gb, 0, none⟩) j cv) wr) (fun i _ => j - (intOf i).toNat)
          case atStart => exact ⟨0, by omega, rfl, HBl.out, HO.out⟩
          case round =>
            obtain ⟨q, hq, rfl, hS⟩ := hrel
            have HS := Lib.hid hS
            clear hS
            by_cases hlt : q < j
            · have hdt : decide (q < j) = true := by simp; omega
              have hck := HS.out.own.cells (g := gb) rfl q (.int .i64 ((smk l q).getD q 0)) (by
                have := smk_length l q (by rw [HN.out]; omega)
                simp [this, HN.out, hlt])
              rw [add_plain, Nat.zero_add, HK.out q hlt] at hck
              have hfk := HS.out.own.frozenAt q
              have hgq := HG.out q hlt
              have hE := ex_le (l.getD q 0 - m)
              have HST := Lib.hid (smk_set l q (by rw [HN.out]; exact hlt))
              have HW := Lib.hid (HS.out.own.stored q (.int .i64 ((smx l).getD q 0)))
              rw [hgq] at HST HW
              obtain ⟨E, hEE⟩ : ∃ E, ex (l.getD q 0 - m) = E := ⟨_, rfl⟩
              rw [hEE] at hE hck HST HW
              obtain ⟨E1, E2⟩ := hE
              clear hgq hEE
              go_wp2
              clear hck hfk
              go_roundw
              case rel =>
                refine ⟨q + 1, by omega, by go_num, HS.out.below.trans (Below.ofGrown HW.out.2 HS.out.below.size (fun k hk => (HS.out.own.lt k hk).1)), ?_⟩
                rw [← HST.out, List.map_set]
                exact HW.out.1
              case measure => simp [intOf]; omega
            · obtain rfl : q = j := by omega
              have hdf : decide (q < q) = false := by simp
              have hfin : smk l q = smx l := by unfold smk; rw [List.take_of_length_le (by rw [smx_length, HN.out]; omega), List.drop_eq_nil_of_le (by rw [exs_length, HN.out]; omega), List.append_nil]
              have hown := HS.out.own
              rw [hfin] at hown
              have HO2 := Lib.hid hown
              have HN2 := Lib.hid (show (smx l).length = q by rw [smx_length]; exact HN.out)
              clear hfin hown
              go_wp2
              go_ret
              obtain ⟨sp2, cap2, e2, _, hnum⟩ := own_nums HO2.out
              exact ⟨sp2, cap2, by rw [HN2.out, ← e2]; rfl, hnum, HS.out.below⟩
end Go.Proofs.YtchjijifmjbgoaaDoor.Tn
