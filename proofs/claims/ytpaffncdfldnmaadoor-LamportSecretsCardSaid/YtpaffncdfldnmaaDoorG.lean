import Derived.Test.YtpaffncdfldnmaaDoorF
namespace Go.Proofs.YtpaffncdfldnmaaDoor
open Go.ChangeShapes Go.WideShapes Go.ChangeAt Go.RowKit

theorem take_few (p : Nat) (w : World) (sp : Option Addr) (n cap : Nat) (h : n < 64) : Calls Tryd.prog 24 #[.pointer (some ⟨p, 0, none⟩), .slice sp n cap] w fun e w' => e = .returned (.slice sp n cap) ∧ w = w' := by
  have hdt : decide ((n : Int) < 64) = true := by simp; omega
  go_enter Tryd.func24, Tryd.ntmps24
  go_wp2
  go_step3
  go_wp2
  go_step3
  go_wp2
  refine wp_loop_rounds 1 ?_
  rw [rounds_succ]
  go_wp2
  try rw [Exit.noGoto_ret]
  go_ret
  exact ⟨rfl, rfl⟩

/-- what takeBlocks answers, of whatever slice -/
def Took (w : World) (p : Nat) (ty : TypeId) (r : Array Value) (s : St) (l : List Int) (e : Ending) (w' : World) : Prop :=
  ∃ (sp' : Option Addr) (m' cap' : Nat), e = .returned (.slice sp' m' cap') ∧ m' = (rest l).length ∧ Bytes w' sp' cap' (rest l) ∧ Un w p ty r (absorb s l).list w'
theorem take_any (p : Nat) (w : World) (s : St) (r : Array Value) (ty : TypeId) (sp : Option Addr) (m cap : Nat) (l : List Int) (hm : l.length = m) (hb : Bytes w sp cap l) (hdis : ∀ c o, sp = some ⟨c, o, none⟩ → 0 < l.length → c ≠ p ∨ 8 ≤ o)
    (hp : w.heap[p]? = some (.cells (rowSt s.list r) ty (0, 0))) (hk : Kc w) (hp1 : p ≠ 1) :
    Calls Tryd.prog 24 #[.pointer (some ⟨p, 0, none⟩), .slice sp m cap] w (Took w p ty r s l) := by
  subst hm
  by_cases h : l.length < 64
  · refine (take_few p w sp l.length cap h).mono fun e w' ⟨he, hw⟩ => ?_
    subst hw
    refine ⟨sp, l.length, cap, he, ?_, ?_, ?_⟩
    · rw [rest_few l h]
    · rw [rest_few l h]; exact hb
    · rw [absorb_few s l h]; exact ⟨⟨rfl, rfl, rfl, Nat.le_refl _, fun _ _ _ => rfl⟩, hp⟩
  · obtain ⟨c, o, rfl, hl⟩ := hb.lies (by omega)
    refine (take_some p c o cap w s r ty l hb.le hb.max hl (hdis c o rfl (by omega)) hp hk hp1).mono fun e w' ⟨o', cap', he, ho, h1, h2, h3, h4⟩ => ?_
    exact ⟨_, _, _, he, rfl, ⟨h1, h2, fun _ => ⟨c, o', rfl, h3⟩⟩, h4⟩

/-- what is laid ahead of all: the constants, and the first state -/
structure Env (w : World) : Prop where
  kc : Kc w
  start : ∃ t fr, w.heap[0]? = some (.cells (rowSt start.list #[]) t fr)
theorem Env.below {w w' : World} (h : Env w) (hb : Below w.heap.size w w') : Env w' := by
  refine ⟨Fl.kc hb h.kc, ?_⟩
  obtain ⟨t, fr, hs⟩ := h.start
  exact ⟨t, fr, (hb.block 0 (Array.getElem?_eq_some_iff.1 hs).1).trans hs⟩
theorem Env.two {w : World} (h : Env w) : 1 < w.heap.size := block_lt_of_cell (h.kc 0 (by omega))
theorem Bytes.below {w w' : World} {sp : Option Addr} {cap : Nat} {l : List Int} (h : Bytes w sp cap l) (hb : Below w.heap.size w w') : Bytes w' sp cap l :=
  ⟨h.le, h.max, fun hp => by obtain ⟨c, o, e, hl⟩ := h.lies hp; exact ⟨c, o, e, fun i hi => (hb.cell (block_lt_of_cell (hl i hi))).trans (hl i hi)⟩⟩

theorem size45 : (Tryd.prog.info? 48).map (·.size) = some 8 := by kernel_rfl

/-- ahead of the first block: the answer's block, and the state's -/
structure Ss (w : World) (W : World) : Prop where
  below : Below w.heap.size w W
  res : W.heap[w.heap.size]? = some (.cells (rowB (zs 32)) 23 (0, 0))
  st : W.heap[w.heap.size + 1]? = some (.cells (rowSt start.list #[]) 48 (0, 0))
theorem Ss.made (w : World) (X Y : Array Value) (hX : X = rowB (zs 32)) : Ss w (((w.alloc (.cells X 23)).alloc (.cells Y 48)).setRow (w.heap.size + 1) (rowSt start.list #[])) := by
  subst hX
  refine ⟨below_setRow (((Below.refl _ _).alloc (Nat.le_refl _) _).alloc (by simp) _) (by omega) _, ?_, setRow_heap _ _ _ _ _ _ (heap_alloc2_new _ _ _)⟩
  rw [setRow_other _ _ _ _ (by omega)]
  exact heap_alloc2_old _ _ _

set_option maxRecDepth 100000 in
set_option maxHeartbeats 2000000 in
theorem sum_any (w : World) (sp : Option Addr) (m cap : Nat) (l : List Int) (hm : l.length = m) (hb : Bytes w sp cap l) (he : Env w) (hn : m ≤ 1152921504606846975) :
    Calls Tryd.prog 13 #[.slice sp m cap] w fun e w' => e = .returned (.agg (rowB (sum l))) ∧ Below w.heap.size w w' := by
  obtain ⟨t0, fr0, hst⟩ := he.start
  have HE := Lib.hid he
  have HS := Lib.hid hst
  have HB := Lib.hid hb
  have HM := Lib.hid hm
  have HZ0 := Lib.hid (show (Tryd.prog.info? 48).map (·.size) = some (rowSt start.list #[]).size from size45)
  have HY0 := Lib.hid (show 8 = (rowSt start.list #[]).size from by kernel_rfl)
  have HX0 := Lib.hid (show (rowSt start.list #[]).all (·.oneCell') = true from by kernel_rfl)
  clear he hst hb hm
  go_enter Tryd.func13, Tryd.ntmps13
  have hst1 : ∀ X : Obj, (w.alloc X).heap[0]? = some (.cells (rowSt start.list #[]) t0 fr0) := fun X => (Below.heap_alloc w X 0 (Array.getElem?_eq_some_iff.1 HS.out).1).trans HS.out
  have HS1 := Lib.hid hst1
  clear hst1
  go_wp2_with (first
    | (refine wpList_load_row rfl 48 (.global 0) rfl 0 rfl t0 (rowSt start.list #[]) fr0 _ (HS1.out _) Tryd.underlying48 rfl HZ0.out ?_)
    | (refine wpList_store_row rfl 48 (.tmp 3) (.tmp 5) rfl (w.heap.size + 1) (rowSt start.list #[]) rfl rfl 48 _ (heap_alloc2_new _ _ _) HZ0.out HY0.out HX0.out ?_))
  refine gen_world (Q := fun w => Calls _ _ _ w _) _ (Ss w) (Ss.made w _ _ (by kernel_rfl)) ?_
  intro w1 hs
  have hw := HE.out.two
  have hn2 : l.length ≤ 1152921504606846975 := by rw [HM.out]; exact hn
  have HE1 := Lib.hid (HE.out.below hs.below)
  have HB1 := Lib.hid (HB.out.below hs.below)
  have HSS := Lib.hid hs
  clear hs
  have HDis : Hid (∀ c o, sp = some ⟨c, o, none⟩ → 0 < l.length → c ≠ w.heap.size + 1) := by
    rintro c o rfl hp
    obtain ⟨c', o', h1, h2⟩ := HB.out.lies hp
    cases h1
    have := block_lt_of_cell (h2 0 hp)
    simp only at this
    omega
  refine (take_any (w.heap.size + 1) w1 start #[] 48 sp m cap l HM.out HB1.out (fun c o h1 h2 => Or.inl (HDis.out c o h1 h2)) HSS.out.st HE1.out.kc (by omega)).mono ?_
  rintro e w2 ⟨sp', m', cap', rfl, rfl, hb2, hu⟩
  have HB2 := Lib.hid hb2
  have HU := Lib.hid hu
  have HK2 : Hid (Kc w2) := hu.kc (by omega) HE1.out.kc
  clear hb2 hu
  obtain ⟨m', hm'⟩ : ∃ m', (rest l).length = m' := ⟨_, rfl⟩
  rw [hm']
  have HM' := Lib.hid hm'
  clear hm'
  go_wp2_with fail
  refine (finish_any (w.heap.size + 1) w2 (absorb start l) #[] 48 sp' m' cap' (rest l) HM'.out m HB2.out (by rw [rest_length]; omega) hn HU.out.row HK2.out (by omega)).mono ?_
  rintro e w3 ⟨rfl, s', hu3⟩
  have hF : fin (absorb start l) (rest l) m = sum l := by rw [← HM.out]; rfl
  rw [hF]
  clear hF
  have HZ := Lib.hid (show (Tryd.prog.info? 23).map (·.size) = some (rowB (sum l)).size by rw [rowB_size, sum_length]; exact size25)
  have HY := Lib.hid (show (rowB (zs 32)).size = (rowB (sum l)).size by rw [rowB_size, rowB_size, sum_length]; rfl)
  have HX := Lib.hid (rowB_one (sum l))
  have hq : w3.heap[w.heap.size]? = some (.cells (rowB (zs 32)) 23 (0, 0)) := by
    have h1 := (Array.getElem?_eq_some_iff.1 HSS.out.res).1
    rw [hu3.grown.block _ (by have := HU.out.grown.size; omega) (by simp), HU.out.grown.block _ h1 (by simp)]; exact HSS.out.res
  have HQ := Lib.hid hq
  have hbl : Below w.heap.size w (w3.setRow w.heap.size (rowB (sum l))) := by
    refine below_setRow (HSS.out.below.trans ?_) (Nat.le_refl _) _
    have g1 := HU.out.grown
    have g2 := hu3.grown
    refine ⟨g2.os.trans g1.os, g2.tape.trans g1.tape, g2.output.trans g1.output, Nat.le_trans g1.size g2.size, fun k hk => ?_⟩
    have hk1 : k < w1.heap.size := Nat.lt_of_lt_of_le hk HSS.out.below.size
    rw [g2.block k (Nat.lt_of_lt_of_le hk1 g1.size) (by simp; omega), g1.block k hk1 (by simp; omega)]
  have HBL := Lib.hid hbl
  clear hq hbl hu3
  obtain ⟨F, hF⟩ : ∃ F, sum l = F := ⟨_, rfl⟩
  rw [hF] at HZ HY HX HBL ⊢
  have HF := Lib.hid hF
  clear hF
  go_wp2_with (refine wpList_store_row rfl 23 (.tmp 2) (.tmp 11) rfl w.heap.size (rowB F) rfl rfl 23 _ HQ.out HZ.out HY.out HX.out ?_)
  exact bodyPost_ret (v := .agg (rowB F)) (results_cell_row Tryd.results13 _ _ w.heap.size 23 (rowB F) (0, 0) _ rfl (setRow_heap _ _ _ _ _ _ HQ.out) Tryd.underlying23 rfl HZ.out) rfl ⟨by rw [HF.out], HBL.out⟩
end Go.Proofs.YtpaffncdfldnmaaDoor
