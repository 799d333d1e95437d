import Derived.Test.YtchjijifmjbgoaaDoorKu
import Derived.Sort.LotA
namespace Go.Proofs.YtchjijifmjbgoaaDoor.Tn
set_option maxRecDepth 100000
open Go.ChangeShapes Go.WideShapes Go.ChangeAt Go.RowKit Go.Sort Go.Proofs.YtchjijifmjbgoaaDoor.Fx Go.Proofs.YtchjijifmjbgoaaDoor.Rf

/-! ### the landed code: Top -/
theorem lt_ahead {l : List Int} {x y : Nat} : ltc (cfI l) x y = true ↔ ahead l x y := by
  unfold ltc
  rw [decide_eq_true_eq]
  exact cfI_lt
theorem lt_not {l : List Int} {x y : Nat} : ltc (cfI l) x y = false ↔ ¬ ahead l x y := by
  rw [← lt_ahead]
  simp
theorem swo_ord (l : List Int) : SWO (ltc (cfI l)) where
  irrefl x := lt_not.2 ahead_irrefl
  trans x y z h1 h2 := lt_ahead.2 (ahead_trans (lt_ahead.1 h1) (lt_ahead.1 h2))
  ntrans x y z h1 h2 := by
    rw [lt_not] at *
    intro h
    by_cases hxy : x = y
    · subst hxy; exact h2 h
    · rcases ahead_total (l := l) hxy with h3 | h3
      · exact h1 h3
      · exact h2 (ahead_trans h3 h)
/-- a sort of the whole row -/
def PdqOK (wb : World) (P n : Nat) (g : FuncId) (recv : Value) (cf : Nat → Nat → Int) : Prop :=
  ∀ (W : World) (d : Array Nat) (L : Nat), SrtW wb P n W d W → Calls Tryd.prog 85 #[.slice (some ⟨P, 0, none⟩) n n, .int .i64 0, .int .i64 n, .int .i64 (L : Int), .func (.func g) #[recv] #[]] W fun e w' => e = .returned (.tuple #[]) ∧ ∃ d', SrtW wb P n W d' w' ∧ PermIn 0 n d d' ∧ SortedIn (ltc cf) 0 n d'
set_option maxHeartbeats 4000000 in
theorem pdq_small {wb : World} {g : FuncId} {recv : Value} {n : Nat} {cf : Nat → Nat → Int} (S : Srt wb g recv n cf) (hO : SWO (ltc cf)) (P : Nat) (hn : n ≤ 12) : PdqOK wb P n g recv cf := fun W d L hs => by
  have hsp := insertionSort_holds hO d 0 n (Nat.zero_le _) (by rw [hs.size]; exact Nat.le_refl _)
  have HI := Lib.hid (ins_any S W P 0 n d hs (Nat.zero_le _) (Nat.le_refl _))
  obtain ⟨T, hT⟩ : ∃ T, insertionSort (ltc cf) d 0 n = T := ⟨_, rfl⟩
  rw [hT] at HI hsp
  have HS := Lib.hid hsp
  have d1 : decide ((n : Int) ≤ 12) = true := by simp; omega
  clear S hs hsp hT hO
  go_enter Tryd.func85, Tryd.ntmps85
  go_wp2
  refine wp_loop_rounds 1 ?_
  rw [rounds_succ]
  go_wp2_with fail
  refine HI.out.mono ?_
  rintro e w' ⟨rfl, hW⟩
  have HW := Lib.hid hW
  clear hW
  go_wp2
  (try simp only [Exit.inBlock, Exit.then])
  refine bodyPost_ret (results_none rfl _ _ _) rfl ?_
  exact ⟨rfl, T, HW.out, HS.out.1, HS.out.2⟩
set_option maxHeartbeats 4000000 in
theorem sort_any {wb : World} {g : FuncId} {recv : Value} {n : Nat} {cf : Nat → Nat → Int} (P : Nat) (hp : PdqOK wb P n g recv cf) (hn : n ≤ 1000) (w : World) (d : Array Nat) (hs : SrtW wb P n w d w) :
    Calls Tryd.prog 77 #[.slice (some ⟨P, 0, none⟩) n n, .func (.func g) #[recv] #[]] w fun e w' => e = .returned (.tuple #[]) ∧ ∃ d', SrtW wb P n w d' w' ∧ PermIn 0 n d d' ∧ SortedIn (ltc cf) 0 n d' := by
  have HP : Hid (∀ L : Nat, _) := Lib.hid (fun L : Nat => hp w d L hs)
  have HL := Lib.hid (len_any w n (by omega))
  clear hp hs
  go_enter Tryd.func77, Tryd.ntmps77
  go_wp2_with fail
  refine HL.out.mono ?_
  rintro e w' ⟨⟨L, rfl⟩, rfl⟩
  go_wp2_with fail
  refine (HP.out L).mono ?_
  rintro e w' ⟨rfl, d', h1, h2, h3⟩
  have H1 := Lib.hid h1
  have H2 := Lib.hid h2
  have H3 := Lib.hid h3
  clear h1 h2 h3
  go_wp2
  go_end0
  exact ⟨rfl, d', H1.out, H2.out, H3.out⟩
/-- the first k of sorted places are the k greatest ones -/
theorem sorted_top {l : List Int} {n k : Nat} {d' : Array Nat} (hn : l.length = n) (hk : k ≤ n) (hp : PermIn 0 n (List.range n).toArray d') (hs : SortedIn (ltc (cfI l)) 0 n d') : d'.toList.take k = topN l k := by
  obtain ⟨hz, _, hpm⟩ := hp
  have hsz : d'.size = n := by rw [hz]; simp
  have hl : d'.toList.length = n := by simpa using hsz
  have e1 : (d'.extract 0 n).toList = d'.toList := by rw [← hsz, Array.extract_size]
  have e2 : ((List.range n).toArray.extract 0 n).toList = List.range n := by
    rw [Array.toList_extract]
    simp [List.extract]
  rw [e1, e2] at hpm
  have hget : ∀ i (hi : i < n), d'[i]! = d'.toList[i]'(by omega) := fun i hi => by
    rw [getElem!_pos d' i (by omega)]
    simp
  refine TopIs.unique (by omega) ⟨by rw [List.length_take]; omega, fun p hp => ?_, ?_, fun i p hip q hq hnot => ?_⟩
  · have := hpm.mem_iff.1 (List.mem_of_mem_take hp)
    rw [hn]
    simpa using this
  · exact ((hpm.nodup_iff).2 List.nodup_range).sublist (List.take_sublist _ _)
  · have hik : i < k := by
      have := (List.getElem?_eq_some_iff.1 hip).1
      simp at this
      omega
    have hpi : d'.toList[i]'(by omega) = p := by
      obtain ⟨h1, h2⟩ := List.getElem?_eq_some_iff.1 hip
      rw [List.getElem_take] at h2
      exact h2
    have hqm : q ∈ d'.toList := hpm.mem_iff.2 (by simpa [hn] using hq)
    obtain ⟨j, hj, hjq⟩ := List.mem_iff_getElem.1 hqm
    have hij : i < j := by
      rcases Nat.lt_or_ge i j with h | h
      · exact h
      · exfalso
        refine hnot ?_
        rw [List.take_take, List.mem_iff_getElem]
        refine ⟨j, by simp; omega, ?_⟩
        rw [List.getElem_take]
        exact hjq
    have h1 := hs i j (Nat.zero_le _) hij (by omega)
    rw [hget i (by omega), hget j (by omega), hpi, hjq, lt_not] at h1
    have hne : p ≠ q := fun e => by
      have hnd := (hpm.nodup_iff).2 List.nodup_range
      exact List.pairwise_iff_getElem.1 hnd i j (by omega) hj hij (by rw [hpi, hjq, e])
    rcases ahead_total (l := l) hne with h2 | h2
    · exact h2
    · exact absurd h2 h1
end Go.Proofs.YtchjijifmjbgoaaDoor.Tn
