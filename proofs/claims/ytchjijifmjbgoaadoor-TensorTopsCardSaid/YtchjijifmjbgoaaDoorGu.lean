import Derived.Test.YtchjijifmjbgoaaDoorGt
import Derived.Test.YtchjijifmjbgoaaDoorGi
namespace Go.Proofs.YtchjijifmjbgoaaDoor.Tn
open Go.ChangeShapes Go.WideShapes Go.ChangeAt Go.RowKit Go.Proofs.YtchjijifmjbgoaaDoor.Fx Go.Proofs.YtchjijifmjbgoaaDoor.Rf

def topI (l : List Int) (m : Nat) : List Int := (topN l m).map fun p : Nat => (p : Int)
theorem topI_length (l : List Int) (m : Nat) : (topI l m).length = m := by rw [topI, List.length_map, topN_length]
theorem topI_succ (l : List Int) (m : Nat) : topI l (m + 1) = topI l m ++ [(nextT l (topN l m) : Int)] := by rw [topI, topN, List.map_append]; rfl
/-- which ones are taken, in memory -/
def rowU (N : Nat) (out : List Nat) : Array Value := ((List.range N).map fun i => Value.bool (decide (i ∈ out))).toArray
theorem rowU_size (N : Nat) (out : List Nat) : (rowU N out).size = N := by simp [rowU]
theorem rowU_get (N : Nat) (out : List Nat) (i : Nat) (h : i < N) : (rowU N out)[i]? = some (.bool (decide (i ∈ out))) := by simp [rowU, h]
theorem rowU_set (N : Nat) (out : List Nat) (p : Nat) : (rowU N out).setIfInBounds p (.bool true) = rowU N (out ++ [p]) := by
  apply Array.ext
  · simp [rowU]
  · intro i h1 h2
    have h3 : i < (rowU N out).size := by simpa using h1
    rw [Array.getElem_setIfInBounds h3]
    by_cases e : p = i
    · subst e; simp [rowU]
    · rw [if_neg e]
      have e2 : ¬ i = p := fun h => e h.symm
      simp [rowU, e2]
theorem made_bools (N : Nat) : madeCells #[Value.bool false] N = rowU N [] := by
  apply Array.ext
  · simp [madeCells, rowU]
  · intro i h1 h2
    simp [madeCells, rowU, Nat.mod_one]
theorem info4 : (Tryd.prog.info? 4).map (fun i => (i.zero, i.size, i.bytes)) = some (some (.bool false), 1, 1) := by kernel_rfl
/-- while the greatest ones are collected -/
structure TpS (w : World) (l : List Int) (m : Nat) (v : Value) (W : World) : Prop where
  below : Below w.heap.size w W
  used : W.heap[w.heap.size]? = some (.cells (rowU l.length (topN l m)) 4 (0, 0))
  own : W.ownsRow (w.heap.size + 1) 3 1 v m ((topI l m).map (Value.int .i64))
theorem TpS.drewN {w W : World} {l : List Int} {m : Nat} {v : Value} (h : TpS w l m v W) (j : Nat) : TpS w l m v (W.drewN j) := ⟨below_drewN h.below j, h.used, owns_drewN h.own j⟩
theorem TpS.mark {w W : World} {l : List Int} {m : Nat} {v : Value} (h : TpS w l m v W) (p : Nat) (hp : nextT l (topN l m) = p) :
    Below w.heap.size w (W.setCell ⟨w.heap.size, p, none⟩ (.bool true)) ∧ (W.setCell ⟨w.heap.size, p, none⟩ (.bool true)).heap[w.heap.size]? = some (.cells (rowU l.length (topN l (m + 1))) 4 (0, 0)) ∧ (W.setCell ⟨w.heap.size, p, none⟩ (.bool true)).ownsRow (w.heap.size + 1) 3 1 v m ((topI l m).map (Value.int .i64)) := by
  refine ⟨h.below.setCell (Nat.le_refl _) _, ?_, h.own.kept (row := some w.heap.size) ⟨rfl, rfl, rfl, by simp, fun k _ hk => heap_setCell_other _ _ _ _ (fun e => hk (by rw [e]))⟩ (Or.inr fun e => ?_)⟩
  · rw [heap_setCell_same _ _ _ _ _ _ h.used, rowU_set, topN, hp]
  · have := (h.own.lt _ e).1
    omega
set_option maxRecDepth 100000 in
set_option maxHeartbeats 4000000 in
theorem rtop_any (w : World) (sp : Option Addr) (cap N m : Nat) (l : List Int) (hN : l.length = N) (hl : Nums w sp cap l) (hN5 : N ≤ 512) (hm1 : 1 ≤ m) (hm : m ≤ N) :
    Calls Tryd.prog 32 #[.slice sp N cap, .int .i64 (m : Int)] w (AnsN w (topI l m)) := by
  have HL := Lib.hid hl
  have HN := Lib.hid hN
  clear hl hN
  go_enter Tryd.func32, Tryd.ntmps32
  go_wp2_with (refine wpList_makeN 87 4 1 (.bool false) Tryd.underlying87 info4 (by decide) rfl (.tmp 10) (.tmp 10) rfl N rfl rfl (by omega) ?_)
  have h0 : TpS w l 0 (.slice none 0 0) (w.alloc (.cells (madeCells (Value.bool false).cells N) 4)) := by
    refine ⟨(Below.refl _ _).alloc (Nat.le_refl _) _, ?_, World.ownsRow_nil _ _ _ _⟩
    rw [heap_alloc_new, show madeCells (Value.bool false).cells N = rowU l.length (topN l 0) from by rw [HN.out]; exact made_bools N]
  have H0 := Lib.hid h0
  clear h0
  go_loopw [5] (fun v wr => ∃ q : Nat, q ≤ m ∧ TpS w l q v wr) (fun v _ => m - (match v with | .slice _ n _ => n | _ => 0))
  case atStart => exact ⟨0, by omega, H0.out⟩
  case round =>
    obtain ⟨q, hq, hS⟩ := hrel
    obtain ⟨sv, cv, rfl, _, _, _⟩ := Sl.all1 hS.own
    have HS := Lib.hid hS
    clear hS
    by_cases hlt : q < m
    · have hdt : decide (q < m) = true := by simp; omega
      go_wp2
      go_loopw [7, 8] (fun a i wr2 => ∃ k j : Nat, k ≤ N ∧ i = .int .i64 k ∧ a = .int .i64 (pk l (topN l q) k) ∧ wr2 = wr.drewN j) (fun _ i _ => N - (intOf i).toNat)
      case atStart => exact ⟨0, 0, by omega, rfl, rfl, rfl⟩
      case round =>
        obtain ⟨k, j, hk, rfl, rfl, rfl⟩ := hrel
        by_cases hlk : k < N
        · have hdk : decide (k < N) = true := by simp; omega
          obtain ⟨g, o, rfl, hc⟩ := HL.out.at_ k (by rw [HN.out]; exact hlk)
          have hcr : wr.cell? ⟨g, o + k, none⟩ = _ := (HS.out.below.cell (p := ⟨g, o + k, none⟩) (block_lt_of_cell hc)).trans hc
          have hu : wr.cell? ⟨w.heap.size, k, none⟩ = _ := (cell_of_row _ _ k _ _ _ HS.out.used).trans (rowU_get _ _ k (by rw [HN.out]; exact hlk))
          have HK := Lib.hid (show pk l (topN l q) (k + 1) = _ from rfl)
          clear hc
          by_cases hin : k ∈ topN l q
          · have HK2 : Hid (pk l (topN l q) (k + 1) = pk l (topN l q) k) := Lib.hid (by rw [pk, if_neg (fun h => h.1 hin)])
            have hd : decide (k ∈ topN l q) = true := by simpa using hin
            rw [hd] at hu
            obtain ⟨a, ha⟩ : ∃ a, pk l (topN l q) k = a := ⟨_, rfl⟩
            rw [ha] at HK2 ⊢
            clear hd hin ha HK
            go_wp2
            go_quiet (fail)
            go_wp2
            go_roundw
            case rel => exact ⟨k + 1, _, by omega, by go_num, by rw [HK2.out], rfl⟩
            case measure => simp [intOf]; omega
          · have hd : decide (k ∈ topN l q) = false := by simpa using hin
            rw [hd] at hu
            rcases pk_spec l (topN l q) k with ⟨h1, _⟩ | ⟨p, h1, h2, _, _⟩
            · have HK2 : Hid (pk l (topN l q) (k + 1) = k) := Lib.hid (by rw [pk, if_pos ⟨hin, Or.inl (by omega)⟩])
              rw [h1]
              clear hd hin h1 HK
              go_wp2
              go_quiet (fail)
              go_wp2
              go_roundw
              case rel => exact ⟨k + 1, _, by omega, by go_num, by rw [HK2.out], rfl⟩
              case measure => simp [intOf]; omega
            · obtain ⟨g', o', e, hc2⟩ := HL.out.at_ p (by rw [HN.out]; omega)
              cases e
              have hcp : wr.cell? ⟨g, o + p, none⟩ = _ := (HS.out.below.cell (p := ⟨g, o + p, none⟩) (block_lt_of_cell hc2)).trans hc2
              have hpN : p < N := by omega
              have hp0 : decide ((p : Int) < 0) = false := by simp
              obtain ⟨x, hx⟩ : ∃ x, l.getD k 0 = x := ⟨_, rfl⟩
              obtain ⟨y, hy⟩ : ∃ x, l.getD p 0 = x := ⟨_, rfl⟩
              rw [hx] at hcr
              rw [hy] at hcp
              by_cases hxy : y < x
              · have HK2 : Hid (pk l (topN l q) (k + 1) = k) := Lib.hid (by rw [pk, if_pos ⟨hin, Or.inr (by rw [h1, Int.toNat_natCast, hx, hy]; exact hxy)⟩])
                have hd2 : decide (y < x) = true := by simpa using hxy
                rw [h1]
                clear hd hin h1 HK hx hy hc2 hxy
                go_wp2
                go_quiet (fail)
                go_wp2
                go_roundw
                case rel => exact ⟨k + 1, _, by omega, by go_num, by rw [HK2.out], rfl⟩
                case measure => simp [intOf]; omega
              · have HK2 : Hid (pk l (topN l q) (k + 1) = p) := Lib.hid (by
                  rw [pk, if_neg (fun h => by
                    rcases h.2 with h3 | h3
                    · omega
                    · rw [h1, Int.toNat_natCast, hx, hy] at h3; exact hxy h3), h1])
                have hd2 : decide (y < x) = false := by simpa using hxy
                rw [h1]
                clear hd hin h1 HK hx hy hc2 hxy
                go_wp2
                go_quiet (fail)
                go_wp2
                go_roundw
                case rel => exact ⟨k + 1, _, by omega, by go_num, by rw [HK2.out], rfl⟩
                case measure => simp [intOf]; omega
        · obtain rfl : k = N := by omega
          have hdk : decide (k < k) = false := by simp
          have hI := topN_is l q (by rw [HN.out]; omega)
          obtain ⟨h1, h2, _, _⟩ := nextT_spec hI.nodup hI.lt (by rw [hI.len, HN.out]; omega)
          rw [HN.out] at h1 h2
          have HTs := Lib.hid (topI_succ l q)
          obtain ⟨p, hp⟩ : ∃ p, nextT l (topN l q) = p := ⟨_, rfl⟩
          rw [hp] at h1 h2 HTs
          rw [h1]
          have HSj := Lib.hid (HS.out.drewN j)
          have HMk := Lib.hid (HSj.out.mark p hp)
          have hu : (wr.drewN j).cell? ⟨w.heap.size, p, none⟩ = _ := (cell_of_row _ _ p _ _ _ HSj.out.used).trans (rowU_get _ _ p (by rw [HN.out]; exact h2))
          have hfz : (wr.drewN j).frozen? ⟨w.heap.size, p, none⟩ = false := frozen_of_row _ _ _ _ _ HSj.out.used
          clear hp h1 hI
          go_upto_region 11 with fail
          refine gen_world (Q := fun w => Code.wp _ _ _ _ w) _ (fun W => Below w.heap.size w W ∧ W.heap[w.heap.size]? = some (.cells (rowU l.length (topN l (q + 1))) 4 (0, 0)) ∧ W.ownsRow (w.heap.size + 1) 3 1 (.slice sv q cv) q ((topI l q).map (Value.int .i64))) HMk.out ?_
          rintro W ⟨b1, b2, b3⟩
          have hW1 : w.heap.size + 1 ≤ W.heap.size := (Array.getElem?_eq_some_iff.1 b2).1
          have B1 := Lib.hid b1
          have B2 := Lib.hid b2
          have B3 := Lib.hid b3
          clear b1 b2 b3 hu hfz HMk HSj HS
          go_wp2_with (refine wpList_push rfl (.tmp 46) (.tmp 48) rfl (w.heap.size + 1) (.slice sv q cv) q (topI l q) (p : Int) rfl B3.out rfl (by omega) hW1 ?_; intro v2 w2 hown2 hb2; have HO2 := Lib.hid hown2; have HB2 := Lib.hid hb2; clear hown2 hb2)
          obtain ⟨s3, c3, rfl, _, _, _⟩ := Sl.all1 HO2.out
          go_roundw
          case rel => exact ⟨q + 1, by omega, B1.out.trans (HB2.out.mono (by omega)), (HB2.out.block _ (by omega)).trans B2.out, by rw [HTs.out]; exact HO2.out⟩
          case measure => simp; omega
    · obtain rfl : q = m := by omega
      have hdf : decide (q < q) = false := by simp
      have HLn : Hid ((topI l q).length = q) := Lib.hid (topI_length l q)
      go_wp2
      go_ret
      obtain ⟨sp2, cap2, e2, _, hnum⟩ := own_nums HS.out.own
      exact ⟨sp2, cap2, by rw [HLn.out, ← e2]; rfl, hnum, HS.out.below⟩
end Go.Proofs.YtchjijifmjbgoaaDoor.Tn
