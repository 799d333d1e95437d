/- Pools of rows in pages: the map of rows; one row more, one row less. -/
import Derived.Test.YtcfhchdkohjbfaaKd
namespace Go.Proofs.Ytcfhchdkohjbfaa.Kv
set_option maxRecDepth 100000
open Go.ChangeShapes Go.WideShapes Go.ChangeAt Go.RowKit Go.Proofs.Ytcfhchdkohjbfaa.Tn
open Go.ChangeMaps (setBlock heap_setBlock_same heap_setBlock_other)

def isOpen (r : Ro) (j : Nat) : Bool := match r[j]? with
  | some (some _) => true
  | _ => false
theorem isOpen_cons (x : Option (Nat × List Nat)) (r : Ro) (j : Nat) : isOpen (x :: r) (j + 1) = isOpen r j := by simp [isOpen]
/-- how many of the first rows are open -/
def nOpen (r : Ro) : Nat → Nat
  | 0 => 0
  | j + 1 => match r with
    | [] => 0
    | none :: r => nOpen r j
    | some _ :: r => nOpen r j + 1
theorem find_ents (rb : Nat → Nat) (id : Int) : ∀ (k : Nat) (r : Ro) (i : Nat), Instr.findNow (.int .i64) (.int .i64 id) (ents rb k r) i = some (if (k : Int) ≤ id ∧ isOpen r (id.toNat - k) = true then some (i + nOpen r (id.toNat - k), rowV rb id.toNat) else none)
  | k, [], i => by simp [ents, Instr.findNow, isOpen]
  | k, none :: r, i => by
    have ih := find_ents rb id (k + 1) r i
    simp only [ents, ih]
    by_cases h1 : id = (k : Int)
    · subst h1
      rw [if_neg (by omega), if_neg (by simp [isOpen])]
    · by_cases h2 : (k : Int) < id
      · obtain ⟨j, hj⟩ : ∃ j, id.toNat - k = j + 1 := ⟨id.toNat - k - 1, by omega⟩
        have hj' : id.toNat - (k + 1) = j := by omega
        rw [hj, hj', isOpen_cons, nOpen]
        by_cases h3 : isOpen r j = true
        · rw [if_pos ⟨by omega, h3⟩, if_pos ⟨by omega, h3⟩]
        · rw [if_neg (fun h => h3 h.2), if_neg (fun h => h3 h.2)]
      · rw [if_neg (by omega), if_neg (by omega)]
  | k, some x :: r, i => by
    have ih := find_ents rb id (k + 1) r (i + 1)
    simp only [ents, Instr.findNow, natV, Instr.sameNow, if_true]
    by_cases h1 : id = (k : Int)
    · subst h1
      have : ((k : Int) == (k : Int)) = true := by simp
      rw [this]
      rw [if_pos ⟨by omega, by simp [isOpen]⟩]
      simp [nOpen]
    · have : (id == (k : Int)) = false := by simpa using h1
      rw [this]
      simp only [ih]
      by_cases h2 : (k : Int) < id
      · obtain ⟨j, hj⟩ : ∃ j, id.toNat - k = j + 1 := ⟨id.toNat - k - 1, by omega⟩
        have hj' : id.toNat - (k + 1) = j := by omega
        rw [hj, hj', isOpen_cons, nOpen]
        by_cases h3 : isOpen r j = true
        · rw [if_pos ⟨by omega, h3⟩, if_pos ⟨by omega, h3⟩]
          rw [show i + 1 + nOpen r j = i + (nOpen r j + 1) by omega]
        · rw [if_neg (fun h => h3 h.2), if_neg (fun h => h3 h.2)]
      · rw [if_neg (by omega), if_neg (by omega)]
theorem under3 : Try.prog.underlying 3 = some (.int .i64) := by kernel_rfl
theorem under_rows : Try.prog.underlying 68 = some (.map 3 77) := by kernel_rfl
theorem zero_rowp (W : World) : (zeroValue 77).run Try.prog W = .ok (.pointer none) W := by kernel_rfl
theorem find_key (rb : Nat → Nat) (id : Int) (r : Ro) (W : World) : (Instr.findKey 3 (.int .i64 id) (ents rb 0 r)).run Try.prog W = .ok (if 0 ≤ id ∧ isOpen r id.toNat = true then some (nOpen r id.toNat, rowV rb id.toNat) else none) W := by
  have h := find_ents rb id 0 r 0
  simp only [Nat.sub_zero, Nat.zero_add] at h
  simp [Instr.findKey, run_underlying under3, h]
theorem check_int (em : Bool) (n : Int) (W : World) : (Instr.checkKey em 10000 3 (.int .i64 n)).run Try.prog W = .ok () W := by kernel_rfl
theorem run_look {rb : Nat → Nat} {ro : Ro} {m c : Nat} {W : World} (h : W.heap[m]? = some (.map (ents rb 0 ro).toArray c)) (id : Int) (hid : ¬ (0 ≤ id ∧ isOpen ro id.toNat = true)) : (Instr.lookup 68 (.map (some m)) (.int .i64 id) true).run Try.prog W = .ok (.tuple #[.pointer none, .bool false]) W := by
  have hc := check_int (ents rb 0 ro).isEmpty id W
  have hf := find_key rb id ro W
  rw [if_neg hid] at hf
  simp [Instr.lookup, run_underlying under_rows, MapKept.run_getObj_map h, hc, hf, Result.andThen]
theorem run_look_yes {rb : Nat → Nat} {ro : Ro} {m c : Nat} {W : World} (h : W.heap[m]? = some (.map (ents rb 0 ro).toArray c)) (id : Nat) (hid : isOpen ro id = true) : (Instr.lookup 68 (.map (some m)) (.int .i64 (id : Int)) true).run Try.prog W = .ok (.tuple #[.pointer (some ⟨rb id, 0, none⟩), .bool true]) W := by
  have hc := check_int (ents rb 0 ro).isEmpty (id : Int) W
  have hf := find_key rb (id : Int) ro W
  rw [if_pos ⟨by omega, by simpa using hid⟩] at hf
  simp [Instr.lookup, run_underlying under_rows, MapKept.run_getObj_map h, hc, hf, Result.andThen, rowV]
theorem run_put {rb : Nat → Nat} {ro : Ro} {m : Nat} {W : World} (h : W.heap[m]? = some (.map (ents rb 0 ro).toArray ro.length)) (b : Nat) : (Instr.mapUpdate 68 (.map (some m)) (.int .i64 (ro.length : Int)) (.pointer (some ⟨b, 0, none⟩))).run Try.prog W = .ok () (setBlock W m (.map (ents rb 0 ro ++ [(⟨natV ro.length, .pointer (some ⟨b, 0, none⟩), ro.length⟩ : MapEntry)]).toArray (ro.length + 1))) := by
  have hc := check_int false (ro.length : Int) W
  have hf := find_key rb (ro.length : Int) ro W
  rw [if_neg (by simp [isOpen])] at hf
  simp [Instr.mapUpdate, run_underlying under_rows, MapKept.run_getObj_map h, hc, hf, MapKept.run_setObj_map _ h, Result.andThen, setBlock, natV]
theorem ents_erase (rb : Nat → Nat) : ∀ (k : Nat) (r : Ro) (j : Nat), isOpen r j = true → (ents rb k r).eraseIdx (nOpen r j) = ents rb k (r.set j none)
  | k, [], j, h => by simp [isOpen] at h
  | k, none :: r, 0, h => by simp [isOpen] at h
  | k, none :: r, j + 1, h => by
    rw [isOpen_cons] at h
    simp only [ents, nOpen, List.set_cons_succ]
    exact ents_erase rb (k + 1) r j h
  | k, some x :: r, 0, h => by simp [ents, nOpen]
  | k, some x :: r, j + 1, h => by
    rw [isOpen_cons] at h
    simp only [ents, nOpen, List.set_cons_succ, List.eraseIdx_cons_succ]
    rw [ents_erase rb (k + 1) r j h]
theorem nOpen_lt (rb : Nat → Nat) : ∀ (k : Nat) (r : Ro) (j : Nat), isOpen r j = true → nOpen r j < (ents rb k r).length
  | k, [], j, h => by simp [isOpen] at h
  | k, none :: r, 0, h => by simp [isOpen] at h
  | k, none :: r, j + 1, h => by
    rw [isOpen_cons] at h
    simp only [ents, nOpen]
    exact nOpen_lt rb (k + 1) r j h
  | k, some x :: r, 0, h => by simp [ents, nOpen]
  | k, some x :: r, j + 1, h => by
    rw [isOpen_cons] at h
    have := nOpen_lt rb (k + 1) r j h
    simp only [ents, nOpen, List.length_cons]
    omega
theorem run_drop {rb : Nat → Nat} {ro : Ro} {m c : Nat} {W : World} (h : W.heap[m]? = some (.map (ents rb 0 ro).toArray c)) (id : Nat) (hid : isOpen ro id = true) (ty : TypeId) : (Builtin.delete_ #[68, 3] ty #[.map (some m), .int .i64 (id : Int)]).run Try.prog W = .ok (.tuple #[]) (setBlock W m (.map (ents rb 0 (ro.set id none)).toArray c)) := by
  have hc := check_int (ents rb 0 ro).isEmpty (id : Int) W
  have hf := find_key rb (id : Int) ro W
  rw [if_pos ⟨by omega, by simpa using hid⟩] at hf
  have he := ents_erase rb 0 ro id hid
  have hl := nOpen_lt rb 0 ro id hid
  have hidn : ((id : Int)).toNat = id := by omega
  rw [hidn] at hf
  simp [Builtin.delete_, run_underlying under_rows, MapKept.run_getObj_map h, hc, hf, MapKept.run_setObj_map _ h, Result.andThen, setBlock, he]
theorem setBlock_size (w : World) (m : Nat) (o : Obj) : (setBlock w m o).heap.size = w.heap.size := by simp [setBlock]
section
variable {α : Type} {K : Kind α} {w w' : World} {τ τ' : Tags} {g : Nat} {ly : Lay} {s op : Nat} {pg : Pg α} {ro : Ro}
theorem isOpen_of {ro : Ro} {id n : Nat} {P : List Nat} (h : ro[id]? = some (some (n, P))) : isOpen ro id = true := by simp [isOpen, h]
/-- one row less -/
theorem PoolAt.dropRow (h : PoolAt K w τ g ly s op pg ro) (id : Nat) : PoolAt K (setBlock w ly.m (.map (ents ly.rb 0 (ro.set id none)).toArray ro.length)) τ g ly s op pg (ro.set id none) ∧ Step Tag.mine τ τ w (setBlock w ly.m (.map (ents ly.rb 0 (ro.set id none)).toArray ro.length)) := by
  have hne : ∀ q t, τ q = some t → t ≠ Tag.map → (setBlock w ly.m (.map (ents ly.rb 0 (ro.set id none)).toArray ro.length)).heap[q]? = w.heap[q]? := fun q t hq ht => heap_setBlock_other h.mp _ (ne_of_tag hq h.tmap ht)
  refine ⟨⟨h.fits.below (by rw [setBlock_size]; exact Nat.le_refl _), (hne _ _ h.tpool (by simp)).trans h.pool, h.tpool, (hne _ _ h.tpages (by simp)).trans h.pages, h.tpages, ?_, h.tmap, fun j e he => ?_, fun id' n' Q hr' => ?_⟩, ⟨rfl, rfl, rfl, by rw [setBlock_size]; exact Nat.le_refl _, fun _ _ => rfl, fun c _ ht => ?_⟩⟩
  · rw [heap_setBlock_same h.mp, List.length_set]
  · obtain ⟨h1, h2⟩ := h.th j e he
    exact ⟨h1.kept fun q hq => hne _ _ (h2 q hq) (by simp), h2⟩
  · rw [List.getElem?_set] at hr'
    split at hr'
    · split at hr' <;> cases hr'
    · obtain ⟨h1, h2, h3, h4⟩ := h.row id' n' Q hr'
      exact ⟨(hne _ _ h2 (by simp)).trans h1, h2, h3.kept fun q hq => hne _ _ (h4 q hq) (by simp), h4⟩
  · refine heap_setBlock_other h.mp _ (fun e => ?_)
    subst e
    have := ht _ h.tmap
    cases this
/-- one row more -/
theorem PoolAt.addRow (h : PoolAt K w τ g ly s op pg ro) (hb : Below w.heap.size w w') (n : Nat) (P : List Nat) (v : Value) (d : Option Nat) (hr : Row w' 3 v d (P.map natV)) (hd : ∀ q, d = some q → w.heap.size ≤ q) :
    ∃ τ' ly', PoolAt K (setBlock (w'.alloc (.cells #[.int .i64 (n : Int), v] tR)) ly.m (.map (ents ly.rb 0 ro ++ [(⟨natV ro.length, .pointer (some ⟨w'.heap.size, 0, none⟩), ro.length⟩ : MapEntry)]).toArray (ro.length + 1))) τ' g ly' s op pg (ro ++ [some (n, P)]) ∧
      Step Tag.mine τ τ' w (setBlock (w'.alloc (.cells #[.int .i64 (n : Int), v] tR)) ly.m (.map (ents ly.rb 0 ro ++ [(⟨natV ro.length, .pointer (some ⟨w'.heap.size, 0, none⟩), ro.length⟩ : MapEntry)]).toArray (ro.length + 1))) := by
  obtain ⟨O, hO⟩ : ∃ O, (Obj.map (ents ly.rb 0 ro ++ [(⟨natV ro.length, .pointer (some ⟨w'.heap.size, 0, none⟩), ro.length⟩ : MapEntry)]).toArray (ro.length + 1)) = O := ⟨_, rfl⟩
  obtain ⟨C, hC⟩ : ∃ C, (Obj.cells #[.int .i64 (n : Int), v] tR (0, 0)) = C := ⟨_, rfl⟩
  rw [hO, hC]
  let τ' : Tags := fun q => if d = some q then some (.rp ro.length) else if q = w'.heap.size then some (.row ro.length) else τ q
  have hsz := hb.size
  have hτ : ∀ q, q < w.heap.size → τ' q = τ q := fun q hq => by
    show (if d = some q then some (Tag.rp ro.length) else if q = w'.heap.size then some (.row ro.length) else τ q) = τ q
    rw [if_neg (fun e => by have := hd q e; omega), if_neg (by omega)]
  have hmp : (w'.alloc C).heap[ly.m]? = some (.map (ents ly.rb 0 ro).toArray ro.length) := by
    have := h.fits _ _ h.tmap
    rw [alloc_old _ _ _ (by omega), hb.block _ this]
    exact h.mp
  have hold : ∀ q, q < w.heap.size → q ≠ ly.m → (setBlock (w'.alloc C) ly.m O).heap[q]? = w.heap[q]? := fun q hq hne => by
    rw [heap_setBlock_other hmp _ hne, alloc_old _ _ _ (by omega), hb.block _ hq]
  have hne : ∀ q t, τ q = some t → t ≠ Tag.map → (setBlock (w'.alloc C) ly.m O).heap[q]? = w.heap[q]? := fun q t hq ht => hold q (h.fits q t hq) (ne_of_tag hq h.tmap ht)
  have hkt : ∀ q t, τ q = some t → τ' q = some t := fun q t hq => by rw [hτ q (h.fits q t hq)]; exact hq
  have hmlt := h.fits _ _ h.tmap
  have hnew : (setBlock (w'.alloc C) ly.m O).heap[w'.heap.size]? = some C := by
    rw [heap_setBlock_other hmp _ (by omega)]
    exact alloc_new _ _
  have hdn : ∀ q, d = some q → q ≠ w'.heap.size ∧ (setBlock (w'.alloc C) ly.m O).heap[q]? = w'.heap[q]? := fun q hq => by
    have h1 := hd q hq
    have h2 := hr.lt hq
    refine ⟨by omega, ?_⟩
    rw [heap_setBlock_other hmp _ (by omega), alloc_old _ _ _ h2]
  have hS : (setBlock (w'.alloc C) ly.m O).heap.size = w'.heap.size + 1 := by rw [setBlock_size]; simp
  refine ⟨τ', ⟨ly.b, ly.m, ly.tv, ly.tb, upd ly.rb ro.length w'.heap.size, upd ly.pv ro.length v, upd ly.pb ro.length d⟩, ⟨fun q t hq => ?_, (hne _ _ h.tpool (by simp)).trans h.pool, hkt _ _ h.tpool, (hne _ _ h.tpages (by simp)).trans h.pages, hkt _ _ h.tpages, ?_, hkt _ _ h.tmap, fun j e he => ?_, fun id' n' Q hr' => ?_⟩, ⟨hb.os, hb.tape, hb.output, by rw [hS]; omega, hτ, fun c hc ht => ?_⟩⟩
  · rw [hS]
    replace hq : (if d = some q then some (Tag.rp ro.length) else if q = w'.heap.size then some (.row ro.length) else τ q) = some t := hq
    split at hq
    · next e => have := hr.lt e; omega
    · split at hq
      · omega
      · have := h.fits q t hq; omega
  · dsimp only
    rw [heap_setBlock_same hmp, ← hO, ents_snoc, ents_upd ly.rb _ _ 0 ro (by omega)]
    simp only [Nat.zero_add, rowV, upd_same, List.length_append, List.length_singleton]
  · obtain ⟨h1, h2⟩ := h.th j e he
    exact ⟨h1.kept fun q hq => hne _ _ (h2 q hq) (by simp), fun q hq => hkt _ _ (h2 q hq)⟩
  · dsimp only
    rw [List.getElem?_append] at hr'
    split at hr'
    · next hlt =>
      obtain ⟨h1, h2, h3, h4⟩ := h.row id' n' Q hr'
      have hn : id' ≠ ro.length := by omega
      rw [upd_other _ _ hn, upd_other _ _ hn, upd_other _ _ hn]
      exact ⟨(hne _ _ h2 (by simp)).trans h1, hkt _ _ h2, h3.kept fun q hq => hne _ _ (h4 q hq) (by simp), fun q hq => hkt _ _ (h4 q hq)⟩
    · next hge =>
      have he : id' = ro.length := by
        rcases Nat.eq_zero_or_pos (id' - ro.length) with e | e
        · omega
        · rw [List.getElem?_eq_none (by simp; omega)] at hr'; cases hr'
      subst he
      simp only [Nat.sub_self, List.getElem?_cons_zero, Option.some.injEq, Prod.mk.injEq] at hr'
      obtain ⟨rfl, rfl⟩ := hr'
      rw [upd_same, upd_same, upd_same]
      refine ⟨by rw [hnew, hC], ?_, hr.kept fun q hq => (hdn q hq).2, fun q hq => ?_⟩
      · show (if d = some w'.heap.size then some (Tag.rp ro.length) else if w'.heap.size = w'.heap.size then some (.row ro.length) else τ w'.heap.size) = _
        rw [if_neg (fun e => (hdn _ e).1 rfl), if_pos rfl]
      · show (if d = some q then some (Tag.rp ro.length) else _) = _
        rw [if_pos hq]
  · exact hold c hc (fun e => by
      subst e
      have := ht _ h.tmap
      cases this)
end
end Go.Proofs.Ytcfhchdkohjbfaa.Kv
