import Derived.Test.YtchjijifmjbgoaaDoorJe
namespace Go.Proofs.YtchjijifmjbgoaaDoor.Tn
set_option maxRecDepth 100000
open Go.ChangeShapes Go.WideShapes Go.ChangeAt Go.RowKit Go.Proofs.YtchjijifmjbgoaaDoor.Fx Go.Proofs.YtchjijifmjbgoaaDoor.Rf

abbrev SlV := Option Addr × Nat × Nat
def enS (x : SlV) : Value := .slice x.1 x.2.1 x.2.2
theorem info22 : (Tryd.prog.info? 22).map (fun i => (i.zero, i.size, i.bytes)) = some (some (.slice none 0 0), 1, 24) := by kernel_rfl
set_option maxHeartbeats 4000000 in
theorem tog_rows (w : World) (g : FuncId) (cb : Array Value) (sq : Option Addr) (caq M n : Nat) (ls : List (List SlV)) (hM : ls.length = M) (hM1 : 1 ≤ M) (hM2 : M ≤ 1000) (hn : ∀ i, i < M → (ls.getD i []).length = n) (hn2 : n ≤ 1000) (hv : VecsA enS w sq caq ls) (R E : Nat → Int)
    (eg : ∀ args w, (callFunc g args).run Tryd.prog w = .ok (.enter g args) w)
    (hf : ∀ i, i < n → ∀ W b, Below w.heap.size w W → Sl W (some ⟨b, 0, none⟩) M ((colA ((none, 0, 0) : SlV) ls i).map enS) → Calls Tryd.prog g (#[.slice (some ⟨b, 0, none⟩) M M] ++ cb) W fun e w' => e = .returned (.tuple #[.int .i64 (R i), .int .i64 (E i)]) ∧ Below W.heap.size W w') :
    Calls Tryd.prog 46 #[.func (.func g) #[] cb, .slice sq M caq] w (AnsO w (if firstN E n = 0 then (List.range n).map R else []) (firstN E n)) := by
  have HV := Lib.hid hv
  have HM := Lib.hid hM
  have HNn := Lib.hid hn
  have HF := Lib.hid hf
  obtain ⟨c, o, s0, c0, rfl, hc0, _⟩ := HV.out.at_ 0 (by omega)
  rw [hn 0 (by omega), Nat.add_zero] at hc0
  obtain ⟨L, hL⟩ : ∃ L, (if firstN E n = 0 then (List.range n).map R else []) = L := ⟨_, rfl⟩
  rw [hL]
  have HL := Lib.hid hL
  clear hv hM hn hf hL
  go_enter Tryd.func46, Tryd.ntmps46
  go_wp2
  go_step3
  go_wp2_with (first
    | (refine wpList_makeN 22 3 8 (.int .i64 0) Tryd.underlying22 info3 (by decide) rfl (.tmp 15) (.tmp 15) rfl n rfl rfl (by omega) ?_)
    | (refine wpList_makeN 38 22 24 (.slice none 0 0) Tryd.underlying38 info22 (by decide) rfl (.tmp 18) (.tmp 18) rfl M rfl rfl (by omega) ?_))
  refine gen_world (Q := fun w => Code.wp _ _ _ _ w) _ (TgS enS 22 w R 0 n M (List.replicate M ((none, 0, 0) : SlV))) (by
    have := TgS.made_ (EN := enS) (tN := 22) w R n M ((none, 0, 0) : SlV) (madeCells (Value.int .i64 0).cells n) (madeCells ((.slice none 0 0) : Value).cells M) (made_list _ _ rfl) (made_list _ _ rfl) (by omega) (by omega)
    exact this) ?_
  intro W hW
  have HW := Lib.hid hW
  clear hW hc0
  go_step3
  go_wp2
  go_loopw [6, 8, 22] (fun md e t wr => ∃ (i : Nat) (hs : List SlV), i ≤ n ∧ md = .slice (some ⟨w.heap.size, 0, none⟩) n n ∧ t = .int .i64 i ∧ e = .int .i64 0 ∧ (∀ j, j < i → E j = 0) ∧ TgS enS 22 w R i n M hs wr) (fun _ _ t _ => n - (intOf t).toNat)
  case atStart => exact ⟨0, _, by omega, rfl, rfl, rfl, fun j hj => absurd hj (by omega), HW.out⟩
  case round =>
    obtain ⟨i, hs0, hi, rfl, rfl, rfl, hE, hS⟩ := hrel
    have HE := Lib.hid hE
    have HS := Lib.hid hS
    clear hE hS HW
    by_cases hlt : i < n
    · have hdt : decide (i < n) = true := by simp; omega
      go_wp2
      go_loopw [27] (fun t wr => ∃ (k : Nat) (hs : List SlV), k ≤ M ∧ t = .int .i64 k ∧ hs.take k = (colA ((none, 0, 0) : SlV) ls i).take k ∧ TgS enS 22 w R i n M hs wr) (fun t _ => M - (intOf t).toNat)
      case atStart => exact ⟨0, hs0, by omega, rfl, rfl, HS.out⟩
      case round =>
        clear HS
        obtain ⟨k, hs, hk, rfl, hT, hS⟩ := hrel
        have HS := Lib.hid hS
        have HT := Lib.hid hT
        clear hS hT
        by_cases hlt2 : k < M
        · have hdt2 : decide (k < M) = true := by simp; omega
          have hV := HV.out.below HS.out.below
          obtain ⟨c', o', s2, c2, e, hc, hb⟩ := hV.at_ k (by rw [HM.out]; exact hlt2)
          cases e
          rw [HNn.out k hlt2] at hc
          obtain ⟨c3, o3, rfl, hx⟩ := Sl.atA (df := ((none, 0, 0) : SlV)) hb i (by rw [HNn.out k hlt2]; exact hlt)
          have hcol := colA_get (df := ((none, 0, 0) : SlV)) ls i k (by rw [HM.out]; exact hlt2)
          obtain ⟨v0, hv0⟩ := HS.out.cellHere k hlt2
          have hfz := HS.out.here.frozenAt k
          have HN2 := Lib.hid (fun x => HS.out.setHere k x)
          have hlen := HS.out.len
          have HT2 : Hid (∀ x, x = (colA ((none, 0, 0) : SlV) ls i).getD k ((none, 0, 0) : SlV) → (hs.set k x).take (k + 1) = (colA ((none, 0, 0) : SlV) ls i).take (k + 1)) := Lib.hid (fun x hxx => by
            rw [take_snocA (df := ((none, 0, 0) : SlV)) (colA ((none, 0, 0) : SlV) ls i) k (by rw [colA_length, HM.out]; exact hlt2), take_snocA (df := ((none, 0, 0) : SlV)) (hs.set k x) k (by rw [List.length_set]; omega), List.take_set_of_le (Nat.le_refl _), HT.out, ← hxx]
            congr 2
            simp [List.getD_eq_getElem?_getD, show k < hs.length by omega])
          rw [← hcol] at hx
          obtain ⟨x, hxe⟩ : ∃ x, (colA ((none, 0, 0) : SlV) ls i).getD k ((none, 0, 0) : SlV) = x := ⟨_, rfl⟩
          rw [hxe] at hx HT2
          have HT3 := Lib.hid (HT2.out x rfl)
          have HN3 := Lib.hid (HN2.out x)
          obtain ⟨sx, mx, cx⟩ := x
          dsimp only [enS] at hx
          clear hV hb hcol hxe HT2 HN2 hlen
          go_wp2
          clear hc hx hv0 hfz
          go_roundw
          case rel => exact ⟨k + 1, _, by omega, by go_num, HT3.out, HN3.out⟩
          case measure => simp [intOf]; omega
        · obtain rfl : k = M := by omega
          have hdf : decide (k < k) = false := by simp
          have hcol : hs = colA ((none, 0, 0) : SlV) ls i := by
            have := HT.out
            rwa [List.take_of_length_le (by rw [HS.out.len]; exact Nat.le_refl _), List.take_of_length_le (by rw [colA_length, HM.out]; exact Nat.le_refl _)] at this
          subst hcol
          have HC := Lib.hid (HF.out i hlt wr (w.heap.size + 1) HS.out.below HS.out.slHere)
          go_wp2_with fail
          refine HC.out.mono ?_
          rintro e w1 ⟨rfl, hb1⟩
          have HS1 := Lib.hid (HS.out.later hb1)
          have hcm := HS1.out.cellMade hlt
          have hfz := HS1.out.made.frozenAt i
          have HS2 := Lib.hid (HS1.out.setMade hlt)
          clear hb1
          by_cases hEi : E i = 0
          · have HE2 : Hid (∀ j, j < i + 1 → E j = 0) := Lib.hid (fun j hj => by
              rcases Nat.lt_or_ge j i with h | h
              · exact HE.out j h
              · obtain rfl : j = i := by omega
                exact hEi)
            rw [hEi]
            obtain ⟨r, hr⟩ : ∃ r, R i = r := ⟨_, rfl⟩
            rw [hr] at HS2 ⊢
            clear hEi hr
            go_wp2
            clear hcm hfz
            go_roundw
            case rel => exact ⟨i + 1, _, by omega, rfl, by go_num, rfl, HE2.out, HS2.out⟩
            case measure => simp [intOf]; omega
          · have hne := ne0 hEi
            have HX := Lib.hid (firstN_at hlt HE.out hEi)
            have HL0 : Hid ([] = L) := Lib.hid (by have := HL.out; rwa [if_neg (by rw [HX.out]; exact hEi)] at this)
            obtain ⟨x, hx⟩ : ∃ x, E i = x := ⟨_, rfl⟩
            have HQ := Lib.hid hx
            rw [hx] at hne ⊢
            obtain ⟨r, hr⟩ : ∃ r, R i = r := ⟨_, rfl⟩
            rw [hr] at HS2 ⊢
            clear hEi hx hr
            go_wp2
            clear hcm hfz
            rw [Exit.noGoto_ret]
            go_ret2
            rw [← HL0.out, HX.out, HQ.out]
            exact ⟨_, rfl, World.ownsRow_nil _ _ _ _, HS2.out.below⟩
    · obtain rfl : i = n := by omega
      have hdf : decide (i < i) = false := by simp
      have HX := Lib.hid (firstN_all HE.out)
      have HL0 : Hid ((List.range i).map R = L) := Lib.hid (by have := HL.out; rwa [if_pos HX.out] at this)
      go_wp2
      rw [Exit.noGoto_ret]
      go_ret2
      rw [← HL0.out, HX.out]
      exact ⟨_, rfl, by have := HS.out.made; rw [mkR_all] at this; simpa using this, HS.out.below⟩
end Go.Proofs.YtchjijifmjbgoaaDoor.Tn
