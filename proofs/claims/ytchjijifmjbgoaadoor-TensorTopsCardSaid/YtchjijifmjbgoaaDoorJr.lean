import Derived.Test.YtchjijifmjbgoaaDoorJq
import Derived.Lib.QuietBelow
import Derived.Shelf.RegionOpenPlain
namespace Go.Proofs.YtchjijifmjbgoaaDoor.Tn
set_option maxRecDepth 100000
open Go.ChangeShapes Go.WideShapes Go.ChangeAt Go.RowKit Go.Sort Go.Proofs.YtchjijifmjbgoaaDoor.Fx Go.Proofs.YtchjijifmjbgoaaDoor.Rf

/-! ### the landed code: places in order -/
/-- places, as values -/
def rowN (d : List Nat) : Array Value := (d.map fun i : Nat => Value.int .i64 (i : Int)).toArray
theorem rowN_size (d : List Nat) : (rowN d).size = d.length := by simp [rowN]
theorem rowN_get (d : List Nat) (k : Nat) (hk : k < d.length) : (rowN d)[k]? = some (.int .i64 ((d.getD k 0 : Nat) : Int)) := by
  unfold rowN
  simp [hk]
theorem rowN_set (d : List Nat) (k x : Nat) : (rowN d).setIfInBounds k (.int .i64 (x : Int)) = rowN (d.set k x) := by
  unfold rowN
  simp [List.map_set]
theorem rowN_nums (W : World) (P : Nat) (d : List Nat) (n : Nat) (hn : d.length = n) (hm : n ≤ 1000000) (h : W.heap[P]? = some (.cells (rowN d) 3 (0, 0))) : Nums W (some ⟨P, 0, none⟩) n (d.map fun i : Nat => (i : Int)) := by
  subst hn
  refine ⟨by simp, by unfold maxLen; omega, (fun e => by cases e), fun _ => ⟨P, 0, rfl, fun i v hv => ?_⟩⟩
  rw [cell_of_row _ _ _ _ _ _ h, ← hv]
  unfold rowN
  simp
  rfl
/-- while the places are laid -/
def rgN (k n : Nat) : List Nat := List.range k ++ List.replicate (n - k) 0
theorem rgN_length {k n : Nat} (h : k ≤ n) : (rgN k n).length = n := by simp [rgN]; omega
theorem rgN_set {k n : Nat} (h : k < n) : (rgN k n).set k k = rgN (k + 1) n := by
  unfold rgN
  obtain ⟨d, hd⟩ : ∃ d, n - k = d + 1 := ⟨n - k - 1, by omega⟩
  rw [hd, List.replicate_succ, List.set_append_right _ _ (by simp), show n - (k + 1) = d by omega, List.range_succ]
  simp
theorem rgN_all (n : Nat) : rgN n n = List.range n := by simp [rgN]
structure OrdS (w : World) (sp : Option Addr) (cap n : Nat) (d : List Nat) (W : World) : Prop where
  below : Below w.heap.size w W
  res : ∃ X, X.size = 2 ∧ W.heap[w.heap.size]? = some (.cells X 83 (0, 0))
  row : W.heap[w.heap.size + 1]? = some (.cells (rowN d) 3 (0, 0))
  box : W.heap[w.heap.size + 2]? = some (.cells #[.slice sp n cap, .slice (some ⟨w.heap.size + 1, 0, none⟩) n n] 83 (0, 0))
theorem OrdS.made (w : World) (sp : Option Addr) (cap n : Nat) (X Y Z : Array Value) (hX : X.size = 2) (hY : Y = rowN (List.replicate n 0)) (hZ : Z = #[.slice sp n cap, .slice (some ⟨w.heap.size + 1, 0, none⟩) n n]) :
    OrdS w sp cap n (List.replicate n 0) (((w.alloc (.cells X 83)).alloc (.cells Y 3)).alloc (.cells Z 83)) := by
  subst hY
  subst hZ
  have b1 := heap_alloc_new w (.cells X 83)
  have b2 := heap_alloc_new (w.alloc (.cells X 83)) (.cells (rowN (List.replicate n 0)) 3)
  have b3 := heap_alloc_new ((w.alloc (.cells X 83)).alloc (.cells (rowN (List.replicate n 0)) 3)) (.cells #[.slice sp n cap, .slice (some ⟨w.heap.size + 1, 0, none⟩) n n] 83)
  simp only [World.size_alloc] at b2 b3
  refine ⟨(((Below.refl _ _).alloc (Nat.le_refl _) _).alloc (by simp) _).alloc (by simp; omega) _, ⟨X, hX, ?_⟩, ?_, b3⟩
  · rw [Below.heap_alloc _ _ _ (by simp; omega), Below.heap_alloc _ _ _ (by simp)]
    exact b1
  · rw [Below.heap_alloc _ _ _ (by simp)]
    exact b2
theorem OrdS.set {w W : World} {sp : Option Addr} {cap n : Nat} {d : List Nat} (h : OrdS w sp cap n d W) (k x : Nat) : OrdS w sp cap n (d.set k x) (W.setCell ⟨w.heap.size + 1, k, none⟩ (.int .i64 (x : Int))) := by
  obtain ⟨X, hX, h0⟩ := h.res
  refine ⟨h.below.setCell (p := ⟨w.heap.size + 1, k, none⟩) (by simp) _, ⟨X, hX, ?_⟩, ?_, ?_⟩
  · exact (heap_setCell_other W ⟨w.heap.size + 1, k, none⟩ _ _ (by simp)).trans h0
  · rw [heap_setCell_same _ _ _ _ _ _ h.row, rowN_set]
  · exact (heap_setCell_other W ⟨w.heap.size + 1, k, none⟩ _ _ (by simp)).trans h.box
theorem size_order : (Tryd.prog.info? 83).map (·.size) = some 2 := by kernel_rfl
theorem madeRow (n : Nat) : madeCells (Value.int .i64 0).cells n = rowN (List.replicate n 0) := by
  apply Array.toList_inj.1
  rw [made_list _ _ rfl]
  unfold rowN
  simp
/-- what orderOf answers: the numbers, and their places in a block of the call's own -/
def OrdE (w : World) (sp : Option Addr) (cap n : Nat) (e : Ending) (w' : World) : Prop :=
  e = .returned (.agg #[.slice sp n cap, .slice (some ⟨w.heap.size + 1, 0, none⟩) n n]) ∧ Below w.heap.size w w' ∧ w'.heap[w.heap.size + 1]? = some (.cells (rowN (List.range n)) 3 (0, 0))
set_option maxHeartbeats 4000000 in
theorem orderOf_any (w : World) (sp : Option Addr) (cap n : Nat) (hn : n ≤ 512) : Calls Tryd.prog 62 #[.slice sp n cap] w (OrdE w sp cap n) := by
  go_enter Tryd.func62, Tryd.ntmps62
  go_upto_region 2 with (refine wpList_makeN 22 3 8 (.int .i64 0) Tryd.underlying22 info3 (by decide) rfl (.tmp 7) (.tmp 7) rfl n rfl rfl (by omega) ?_)
  refine gen_world (Q := fun w => Code.wp _ _ _ _ w) _ (OrdS w sp cap n (rgN 0 n)) (by
    have := OrdS.made w sp cap n _ (madeCells (Value.int .i64 0).cells n) _ (show (#[Value.slice none 0 0, Value.slice none 0 0] : Array Value).size = 2 from rfl) (madeRow n) rfl
    have e : rgN 0 n = List.replicate n 0 := by simp [rgN]
    rw [e]
    exact this) ?_
  intro W hW
  have HW := Lib.hid hW
  have c1 : W.cell? ⟨w.heap.size + 2, 1, none⟩ = some (.slice (some ⟨w.heap.size + 1, 0, none⟩) n n) := by rw [cell_of_row _ _ _ _ _ _ hW.box]; rfl
  clear hW
  go_wp2
  go_loopw [13] (fun t wr => ∃ k : Nat, k ≤ n ∧ t = .int .i64 k ∧ OrdS w sp cap n (rgN k n) wr) (fun t _ => n - (intOf t).toNat)
  case atStart => exact ⟨0, by omega, rfl, HW.out⟩
  case round =>
    clear c1
    obtain ⟨k, hk, rfl, hS⟩ := hrel
    have HS := Lib.hid hS
    have c1 : wr.cell? ⟨w.heap.size + 2, 1, none⟩ = some (.slice (some ⟨w.heap.size + 1, 0, none⟩) n n) := by rw [cell_of_row _ _ _ _ _ _ hS.box]; rfl
    by_cases hlt : k < n
    · have hdt : decide (k < n) = true := by simp; omega
      have hck : wr.cell? ⟨w.heap.size + 1, k, none⟩ = some (.int .i64 (((rgN k n).getD k 0 : Nat) : Int)) := by
        rw [cell_of_row _ _ _ _ _ _ hS.row]
        exact rowN_get _ _ (by rw [rgN_length hk]; exact hlt)
      have hfk : wr.frozen? ⟨w.heap.size + 1, k, none⟩ = false := frozen_of_row _ _ _ _ _ hS.row
      have HN := Lib.hid (hS.set k k)
      have HE := Lib.hid (rgN_set hlt)
      clear hS
      go_wp2
      clear hck hfk
      go_roundw
      case rel => exact ⟨k + 1, by omega, by go_num, by rw [← HE.out]; exact HN.out⟩
      case measure => simp [intOf]; omega
    · obtain rfl : k = n := by omega
      have hdf : decide (k < k) = false := by simp
      obtain ⟨X, hX, h0⟩ := hS.res
      have H0 := Lib.hid h0
      have HX := Lib.hid hX
      have H1 : (#[Value.slice sp k cap, .slice (some ⟨w.heap.size + 1, 0, none⟩) k k] : Array Value).all (·.oneCell') = true := by simp [Value.oneCell']
      clear hS h0 hX
      go_wp2_with (first
        | (refine wpList_load_row rfl 83 (.tmp 3) rfl (w.heap.size + 2) rfl 83 #[.slice sp k cap, .slice (some ⟨w.heap.size + 1, 0, none⟩) k k] (0, 0) _ HS.out.box Tryd.underlying83 rfl size_order ?_)
        | (refine wpList_store_row rfl 83 (.tmp 2) (.tmp 22) rfl w.heap.size #[.slice sp k cap, .slice (some ⟨w.heap.size + 1, 0, none⟩) k k] rfl rfl 83 _ H0.out size_order HX.out H1 ?_))
      refine bodyPost_ret (v := .agg #[.slice sp k cap, .slice (some ⟨w.heap.size + 1, 0, none⟩) k k]) (results_cell_row Tryd.results62 _ _ w.heap.size 83 #[.slice sp k cap, .slice (some ⟨w.heap.size + 1, 0, none⟩) k k] (0, 0) _ rfl (setRow_heap _ _ _ _ _ _ H0.out) Tryd.underlying83 rfl size_order) rfl ⟨rfl, below_setRow HS.out.below (Nat.le_refl _) _, ?_⟩
      rw [setRow_other _ _ _ _ (by omega), ← rgN_all]
      exact HS.out.row
end Go.Proofs.YtchjijifmjbgoaaDoor.Tn
