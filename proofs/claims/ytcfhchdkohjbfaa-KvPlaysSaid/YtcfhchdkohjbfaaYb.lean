/- Pools of rows in pages (Y): open, take. -/
import Derived.Test.YtcfhchdkohjbfaaYa
import Derived.Test.YtcfhchdkohjbfaaIa
import Derived.Deep.RegionHeld3
namespace Go.Proofs.Ytcfhchdkohjbfaa.Kv.Y
set_option maxRecDepth 100000
open Go.ChangeShapes Go.WideShapes Go.ChangeAt Go.RowKit Go.Proofs.Ytcfhchdkohjbfaa.Tn
open Go.ChangeMaps (setBlock heap_setBlock_same heap_setBlock_other)
section
variable {w : World} {τ : Tags} {g : Nat} {ly : Lay} {s op : Nat} {pg : Pg Int} {ro : Ro}
theorem open_full (h : PoolAt kind w τ g ly s 1024 pg ro) (n : Int) (v : Value) : Calls Try.prog 54 #[.pointer (some ⟨g, 0, none⟩), .int .i64 n, v] w fun e w' => e = .returned (.tuple #[.int .i64 0, .int .i64 16]) ∧ w = w' := by
  obtain ⟨_, _, _, c3⟩ := h.cells
  clear h
  go_enter Try.func54, Try.ntmps54
  go_wp2
  go_ret2
  exact ⟨rfl, rfl⟩
/-- what open leaves -/
def Opened (w : World) (τ : Tags) (g s : Nat) (pg : Pg Int) (ro : Ro) (n : Nat) (P : List Nat) (w' : World) : Prop := ∃ τ' ly', PoolAt kind w' τ' g ly' s (ro.length + 1) (holds pg P) (ro ++ [some (n, P)]) ∧ Step Tag.mine τ τ' w w'
theorem holds_snoc (pg : Pg Int) (P : List Nat) (i k : Nat) (hk : P[i]? = some k) : holds pg (P.take (i + 1)) = hold (holds pg (P.take i)) k := by
  obtain ⟨hi, rfl⟩ := List.getElem?_eq_some_iff.1 hk
  rw [List.take_succ_eq_append_getElem hi]
  show List.foldl hold pg (P.take i ++ [P[i]]) = _
  rw [List.foldl_append]
  rfl
/-- the map with one row more -/
theorem put_row {w w2 : World} (h : PoolAt kind w τ g ly s op pg ro) (hb : Below w.heap.size w w2) (o : Nat) (ho : o = ro.length) (n : Nat) (sq : Option Addr) (N cq : Nat) (b' : Option Nat) (P : List Nat) (hr : Row w2 3 (.slice sq N cq) b' (P.map natV)) (hd : ∀ q, b' = some q → w.heap.size ≤ q) :
    ∃ W3, (Instr.mapUpdate 68 (.map (some ly.m)) (.int .i64 (o : Int)) (.pointer (some ⟨w2.heap.size, 0, none⟩))).run Try.prog (w2.alloc (.cells #[.int .i64 (n : Int), .slice sq N cq] tR)) = .ok () W3 ∧
      W3.cell? ⟨g, 2, none⟩ = some (.map (some ly.m)) ∧ Hid (∃ τ' ly', PoolAt kind W3 τ' g ly' s op pg (ro ++ [some (n, P)]) ∧ Step Tag.mine τ τ' w W3) := by
  subst ho
  have hm := h.fits _ _ h.tmap
  have hg := h.fits _ _ h.tpool
  have hb2 := hb.size
  have hmp : (w2.alloc (.cells #[.int .i64 (n : Int), .slice sq N cq] tR)).heap[ly.m]? = some (.map (ents ly.rb 0 ro).toArray ro.length) := by
    rw [alloc_old _ _ _ (by omega), hb.block _ hm]; exact h.mp
  refine ⟨_, run_put hmp _, ?_, Lib.hid (h.addRow hb n P (.slice sq N cq) b' hr hd)⟩
  rw [World.cell?_of_block (w := w)]
  · exact h.cells.2.2.1
  · show (setBlock _ _ _).heap[g]? = w.heap[g]?
    rw [heap_setBlock_other hmp _ (ne_of_tag h.tpool h.tmap (by simp)), alloc_old _ _ _ (by omega), hb.block _ hg]
set_option maxHeartbeats 4000000 in
theorem open_any (h : PoolAt kind w τ g ly s op pg ro) (hop : op = ro.length) (hlt : op < 1024) (n : Nat) (v : Value) (b : Option Nat) (P : List Nat) (hr : Row w 3 v b (P.map natV)) (hb : ∀ d, b = some d → ∃ id, τ d = some (.rp id)) (hP : ∀ k ∈ P, k < pg.length) (hl : P.length ≤ 1000000) (hc : ∀ (k : Nat) (c : List Int × Nat), pg[k]? = some c → c.2 ≤ 1000000) (hm : pg.length ≤ 1000000) :
    Calls Try.prog 54 #[.pointer (some ⟨g, 0, none⟩), .int .i64 (n : Int), v] w fun e w' => e = .returned (.tuple #[.int .i64 (ro.length : Int), .int .i64 0]) ∧ Opened w τ g s pg ro n P w' := by
  obtain ⟨_, _, _, c3⟩ := h.cells
  have H := Lib.hid h
  have HR := Lib.hid hr
  have HB := Lib.hid hb
  have HP := Lib.hid hP
  have HC := Lib.hid hc
  have HM := Lib.hid hm
  have HOp := Lib.hid hop
  obtain ⟨sp, cap, rfl, _, hcap, hmx, hcell⟩ := hr.toSl
  have HCell := Lib.hid hcell
  obtain ⟨N, hN⟩ : ∃ N, P.length = N := ⟨_, rfl⟩
  have HN := Lib.hid hN
  have hN2 : (P.map natV).length = N := by simpa using hN
  rw [hN2] at hcap HR ⊢
  rw [hN] at hl
  unfold maxLen at hmx
  have hd : ((op : Int) == 1024) = false := by
    have : (op : Int) ≠ 1024 := by omega
    simpa using this
  have HLt := Lib.hid hlt
  have HCap := Lib.hid hcap
  have HMx := Lib.hid hmx
  clear h hr hb hP hc hm hop hcell hN hN2 hlt
  go_enter Try.func54, Try.ntmps54
  go_wp2
  go_loopw [18] (fun iv wr => ∃ i : Nat, i ≤ N ∧ iv = .int .i64 i ∧ PoolAt kind wr τ g ly s op (holds pg (P.take i)) ro ∧ Row wr 3 (.slice sp N cap) b (P.map natV) ∧ Step Tag.mine τ τ w wr) (fun iv _ => N - (intOf iv).toNat)
  case atStart => exact ⟨0, by omega, rfl, H.out, HR.out, Step.refl _ _ _⟩
  case round =>
    obtain ⟨i, hi, rfl, h1, h2, h3⟩ := hrel
    have H1 := Lib.hid h1
    have H2 := Lib.hid h2
    have H3 := Lib.hid h3
    clear h1 h2 h3 c3 hcap hmx
    by_cases hil : i < N
    · have hdl : decide (i < N) = true := by simpa using hil
      have hdl2 : decide ((i : Int) < (N : Int)) = true := by simp; omega
      obtain ⟨k, hk⟩ : ∃ k, P[i]? = some k := ⟨_, List.getElem?_eq_getElem (by rw [HN.out]; exact hil)⟩
      have hkl := HP.out k (List.mem_of_getElem? hk)
      obtain ⟨c0, hc0⟩ : ∃ c0, pg[k]? = some c0 := ⟨_, List.getElem?_eq_getElem hkl⟩
      have hc1 := holds_at k (P.take i) pg c0 hc0
      have hcb := HC.out k c0 hc0
      have hcnt : (P.take i).count k ≤ 1000000 := Nat.le_trans (List.count_le_length ..) (by simp; omega)
      obtain ⟨_, q1, _, _⟩ := H1.out.cells
      obtain ⟨_, q2⟩ := H1.out.page hc1
      have q3 := (H1.out.free (k * 2 + 1)).2.1
      obtain ⟨sp', cap', he, _, _, _, hcl⟩ := H2.out.toSl
      injection he with e1 e2 e3
      subst e1
      subst e3
      clear e2
      obtain ⟨d, hbd, rfl, hcl2⟩ := hcl (by rw [List.length_map, HN.out]; omega)
      have q4 : wr.cell? ⟨d, i, none⟩ = some (.int .i64 (k : Int)) := hcl2 i _ (by rw [List.getElem?_map, hk]; rfl)
      have HW := Lib.hid (H1.out.setCount hc1 (c0.2 + (P.take i).count k + 1))
      have HSt : Hid (Step Tag.mine τ τ wr (wr.setCell ⟨ly.b, k * 2 + 1, none⟩ (.int .i64 ((c0.2 + (P.take i).count k + 1 : Nat) : Int)))) := Lib.hid (step_set H1.out.tpages rfl)
      have HE : Hid (holds pg (P.take (i + 1)) = (holds pg (P.take i)).set k (c0.1, c0.2 + (P.take i).count k + 1)) := Lib.hid (by
        rw [holds_snoc pg P i k hk]; unfold hold; rw [hc1])
      have hlen : (holds pg (P.take i)).length = pg.length := holds_length _ _
      rw [hlen] at q1
      have HRow : Hid (Row (wr.setCell ⟨ly.b, k * 2 + 1, none⟩ (.int .i64 ((c0.2 + (P.take i).count k + 1 : Nat) : Int))) 3 (.slice (some ⟨d, 0, none⟩) N cap) b (P.map natV)) := Lib.hid (H2.out.kept fun q hq => set_other _ _ _ _ _ (fun e => by
        obtain ⟨id, hid⟩ := HB.out q hq
        rw [e, H1.out.tpages] at hid
        cases hid))
      dsimp only at q2
      obtain ⟨M, hM⟩ : ∃ M, c0.2 + (P.take i).count k = M := ⟨_, rfl⟩
      rw [hM] at q2 HW HE HSt HRow
      have hMb : M ≤ 2000000 := by omega
      obtain ⟨G, hG⟩ : ∃ G, pg.length = G := ⟨_, rfl⟩
      have hmg := HM.out
      rw [hG] at q1 hkl hmg
      clear hk hc0 hc1 hcb hcnt hcl hcl2 hM hG hlen
      have hw : IntKind.i64.wrap ((M : Int) + 1) = ((M + 1 : Nat) : Int) := by rw [IntWalk.i64_in _ (by omega)]; omega
      go_wp2
      go_roundw
      case rel => exact ⟨i + 1, by omega, by go_num, by rw [HE.out]; exact HW.out, HRow.out, H3.out.trans HSt.out⟩
      case measure => simp [intOf]; omega
    · have hdl : decide (i < N) = false := by simpa using hil
      have hdl2 : decide ((i : Int) < (N : Int)) = false := by simp; omega
      obtain rfl : i = N := by omega
      have HE : Hid (P.take i = P) := Lib.hid (List.take_of_length_le (by rw [HN.out]; exact Nat.le_refl _))
      have HPo : Hid (PoolAt kind wr τ g ly s op (holds pg P) ro) := Lib.hid (by have := H1.out; rw [HE.out] at this; exact this)
      clear H1 HE
      obtain ⟨_, _, q2, q3⟩ := HPo.out.cells
      go_upto_region 9 with fail
      have HPd : Hid (PoolAt kind wr.drew τ g ly s op (holds pg P) ro) := Lib.hid (HPo.out.below ⟨rfl, rfl, rfl, Nat.le_refl _, fun _ _ => rfl⟩)
      go_region_held3 (fun W => W.cell? ⟨g, 2, none⟩ = some (.map (some ly.m))) (first | go_keep | exact hq2 | exact (hbel.out.cell (p := ⟨g, 2, none⟩) (block_lt_of_cell q2)).trans q2)
        ((go_at_call 45; refine (Kv.I.clone_any wr.drew _ _ _ (H2.out.kept fun _ _ => rfl) (one_nats _) i (by rw [List.length_map, HN.out]) hl).mono ?_; rintro e w2 ⟨sq, cq, b', rfl, hrow', hnew', hbel'⟩; have hbel := Lib.hid hbel'; have hrow := Lib.hid hrow'; have hnew := Lib.hid hnew'; clear hbel' hrow' hnew'; obtain ⟨W3, hput, hq2, HW3⟩ := put_row HPd.out hbel.out op HOp.out n sq i cq b' P hrow.out hnew.out))
      clear hput hq2 hbel hrow hnew q2 q3
      obtain ⟨τ', ly', hQ, hSt⟩ := HW3.out
      have HQ := Lib.hid hQ
      have HSt := Lib.hid hSt
      clear hQ hSt HW3
      obtain ⟨_, _, _, q3⟩ := HQ.out.cells
      have q4 := (HQ.out.free 3).1
      have hw : IntKind.i64.wrap ((op : Int) + 1) = ((op + 1 : Nat) : Int) := by rw [IntWalk.i64_in _ (by have := HLt.out; omega)]; omega
      go_wp2
      go_ret2
      refine ⟨by rw [HOp.out]; rfl, τ', ly', ?_, H3.out.trans (Step.trans (w' := wr.drew) (Step.below ⟨rfl, rfl, rfl, Nat.le_refl _, fun _ _ => rfl⟩) (HSt.out.trans (step_set (HQ.out.tpool) (v := .int .i64 ((op : Int) + 1)) rfl)))⟩
      have := HQ.out.setOpened (op + 1)
      rw [HOp.out] at this ⊢
      exact this
end
end Go.Proofs.Ytcfhchdkohjbfaa.Kv.Y
